/- M114 M115 M116 -/
import Derived.Test.YteolnlcmnaknnaaGreatDoorTM110
namespace Go.Proofs.YteolnlcmnaknnaaGreatDoor
open Go Go.RowKit
theorem skipL_len (l : List UInt8) : (skipL l).length = l.length - skp false l:=by simp [skipL]

theorem Bad.within {l : List UInt8} {a p : Nat} {c : Int} (h : Bad l a p c) : a ≤ p ∧ p ≤ a + l.length:=by
 induction h with
 | @here l a t c h1 h2 => have:=skp_le l false; omega
 | @more l a p t c h1 h2 _ ih =>
  have h3:=skp_le l false
  have h4:=pieceN_le (skipL l)
  have h5:=skipL_len l
  have : (rst l).length = (skipL l).length - pieceN (skipL l):=by simp [rst]
  omega
end Go.Proofs.YteolnlcmnaknnaaGreatDoor
