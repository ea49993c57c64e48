/- M140 M141 M142 M143 M144 M145 -/
import Derived.Test.YteolnlcmnaknnaaGreatDoorTM131
namespace Go.Proofs.YteolnlcmnaknnaaGreatDoor
open Go Go.RowKit
def rankX : Ex → Nat
 | .mk k o _ _ _ _ _ => if k = 10 then 1 else if k = 9 then 2 else if k = 8 then 3 else if k = 6 ∨ k = 7 then 4 else if k = 5 then (if o ≤ 2 then 5 else 6) else 7

def cmpS (o : Int) : List UInt8:=if o = 1 then [61] else if o = 2 then [60,62] else if o = 3 then [60] else if o = 4 then [60,61] else if o = 5 then [62] else [62,61]

def ariS (o : Int) : List UInt8:=if o = 1 then [43] else if o = 2 then [45] else if o = 3 then [42] else if o = 4 then [47] else [37]
end Go.Proofs.YteolnlcmnaknnaaGreatDoor
