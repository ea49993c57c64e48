/- Walks of layer 1, third part: lists of values. -/
import Derived.Test.YtlooelldkbdomaaGreatDoorW1
import Derived.Test.YtlooelldkbdomaaGreatDoorM2
namespace Go.Proofs.YtlooelldkbdomaaGreatDoor
open Go.RowKit

/-- The cells of a slice of values. -/
def Row (w : World) (a : Option Addr) (vs : List V3) : Prop :=
  ∀ i (h : i < vs.length), ∃ b off, a = some ⟨b, off, none⟩ ∧ w.cell? ⟨b, off + i * 3, none⟩ = some (.int .i64 (vs[i]).1) ∧ w.cell? ⟨b, off + i * 3 + 1, none⟩ = some (.int .i64 (vs[i]).2.1) ∧ w.cell? ⟨b, off + i * 3 + 2, none⟩ = some (.string (vs[i]).2.2)

theorem upto_succ {n k : Nat} {p : (j : Nat) → j < n → Prop} (h : ∀ j (g : j < n), j < k → p j g) {hlt : k < n} (e : p k hlt) : ∀ j (g : j < n), j < k + 1 → p j g := by
  intro j g hj
  by_cases hjk : j = k
  · subst hjk; exact e
  · exact h j g (by omega)


end Go.Proofs.YtlooelldkbdomaaGreatDoor
