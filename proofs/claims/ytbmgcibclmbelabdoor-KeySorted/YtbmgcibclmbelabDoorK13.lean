/- Walks of layer 2, thirteenth part: what the document reads at the front of a text. -/
import Derived.Test.YtbmgcibclmbelabDoorK12
namespace Go.Proofs.YtbmgcibclmbelabDoor
open Go.RowKit

/-- What read answers. -/
def RN (s : ByteArray) (w : World) (e : Ending) (w' : World) : Prop := ∃ (v : V3) (n : Nat), e = .returned (.tuple #[.agg #[.int .i64 v.1, .int .i64 v.2.1, .string v.2.2], .int .i64 n]) ∧ RR s.data.toList v n ∧ Below w.heap.size w w'



end Go.Proofs.YtbmgcibclmbelabDoor
