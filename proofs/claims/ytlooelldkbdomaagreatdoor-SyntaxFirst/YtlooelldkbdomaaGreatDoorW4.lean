/- Walks of layer 1, fourth part: whether all hold, whether one does. -/
import Derived.Test.YtlooelldkbdomaaGreatDoorW3
namespace Go.Proofs.YtlooelldkbdomaaGreatDoor
open Go.RowKit

theorem Row.later {w w' : World} {a : Option Addr} {vs : List V3} (h : Row w a vs) (hb : Below w.heap.size w w') : Row w' a vs := by
  intro i hi
  obtain ⟨b, off, e, c0, c1, c2⟩ := h i hi
  exact ⟨b, off, e, cell_later hb c0, cell_later hb c1, cell_later hb c2⟩
theorem Row.alloc {w : World} {a : Option Addr} {vs : List V3} (h : Row w a vs) (o : Obj) : Row (w.alloc o) a vs := h.later ((Below.refl _ _).alloc (Nat.le_refl _) _)



theorem opp_b (b : Bool) : (b2i b == 0) = !b := by cases b <;> rfl

end Go.Proofs.YtlooelldkbdomaaGreatDoor
