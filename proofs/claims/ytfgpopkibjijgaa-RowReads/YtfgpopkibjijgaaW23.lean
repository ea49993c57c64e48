/- Walks of layer 1: values from the last to the first. -/
import Derived.Test.YtfgpopkibjijgaaC2
import Derived.Test.YtfgpopkibjijgaaM9
namespace Go.Proofs.Ytfgpopkibjijgaa
open Go.RowKit

theorem Row.of_own {w : World} {B n : Nat} {v : Value} {vs : List V3} (h : w.ownsRow B 25 3 v n (vc vs)) : ∃ a cap, v = .slice a vs.length cap ∧ Row w a vs := by
  have hc := fun g => h.cells (g := g)
  obtain ⟨hl, ⟨h0, hn⟩ | ⟨g, cap, cur, rfl, _⟩⟩ := h
  · rw [vc_length] at hl
    have e : vs.length = 0 := by omega
    obtain rfl : vs = [] := List.eq_nil_of_length_eq_zero e
    exact ⟨none, 0, h0, fun i hi => absurd hi (Nat.not_lt_zero _)⟩
  · rw [vc_length] at hl
    have e : n = vs.length := by omega
    subst e
    refine ⟨some ⟨g, 0, none⟩, cap, rfl, Row.of_cells ?_⟩
    intro j u hj
    have := hc g rfl j u hj
    have hadd : (⟨g, 0, none⟩ : Addr).add j = ⟨g, 0 + j, none⟩ := by unfold Addr.add; split <;> simp_all
    rwa [hadd] at this

theorem cells_new (w : World) (v : V3) (t : TypeId) : ∀ j u, (vc [v])[j]? = some u → (w.alloc (.cells #[.int .i64 v.1, .int .i64 v.2.1, .string v.2.2] t)).cell? ((⟨w.heap.size, 0, none⟩ : Addr).add j) = some u := by
  intro j u hj
  match j, hj with
  | 0, hj => simp [vc] at hj; subst hj; simp [Addr.add]
  | 1, hj => simp [vc] at hj; subst hj; simp [Addr.add]
  | 2, hj => simp [vc] at hj; subst hj; simp [Addr.add]

theorem rev_take {vs : List V3} {r : Nat} (h : r < vs.length) : vs.reverse.take (vs.length - r) = vs.reverse.take (vs.length - (r + 1)) ++ [vs[r]] := by
  have e : vs.length - r = (vs.length - (r + 1)) + 1 := by omega
  rw [e, List.take_succ_eq_append_getElem (by simp; omega), List.getElem_reverse]
  congr 2
  congr 1
  omega

end Go.Proofs.Ytfgpopkibjijgaa
