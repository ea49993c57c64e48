/- Walks of layer 2, first part: numbers, lists that are alike, how lists stand. -/
import Derived.Test.YtbmgcibclmbelabDoorC3
import Derived.Test.YtbmgcibclmbelabDoorM21
import Derived.Deep.QuietTactic
import Derived.BigQuiet
namespace Go.Proofs.YtbmgcibclmbelabDoor
open Go.RowKit

theorem knum_any (n : Int) (w : World) :
    Calls Tryd.prog 8 #[.int .i64 n] w fun e w' => e = .returned (.agg #[.int .i64 1, .int .i64 n, .string ⟨#[]⟩]) ∧ Below w.heap.size w w' := by
  go_enter Tryd.func8, Tryd.ntmps8
  go_wp2
  exact bodyPost_ret (v := .agg #[.int .i64 1, .int .i64 n, .string ⟨#[]⟩]) (by simp [results, Tryd.results8, go_sem]) rfl ⟨rfl, by (repeat (first | exact Below.refl _ _ | assumption | refine Below.drew ?_ | refine below_drewN ?_ _ | refine Below.alloc ?_ (by first | omega | (simp; done) | (simp; omega)) _ | refine Below.setCell ?_ (by first | omega | (simp; done) | (simp; omega)) _ | refine Below.trans ?_ (Below.mono (by assumption) (by first | omega | (simp; done) | (simp; omega)))))⟩

/-- Are two lists alike? -/
def eqL (us vs : List V3) : Bool := ordL us vs == 0
theorem eqL_iff {us vs : List V3} : eqL us vs = true ↔ us = vs := by
  unfold eqL
  constructor
  · intro h; exact ordL_zero us vs (by simpa using h)
  · rintro rfl; simp [ordL_self]
theorem eqL_len {us vs : List V3} (h : us.length ≠ vs.length) : eqL us vs = false := by
  cases e : eqL us vs with
  | false => rfl
  | true => rw [eqL_iff.1 e] at h; exact absurd rfl h
theorem eqL_at {us vs : List V3} (k : Nat) (h : k < us.length) (h' : k < vs.length) (g : us[k] ≠ vs[k]) : eqL us vs = false := by
  cases e : eqL us vs with
  | false => rfl
  | true => exfalso; have := eqL_iff.1 e; subst this; exact g rfl
theorem eqL_all {us vs : List V3} (h : us.length = vs.length) (g : ∀ k (h : k < us.length) (h' : k < vs.length), us[k] = vs[k]) : eqL us vs = true := eqL_iff.2 (List.ext_getElem h g)
theorem cell_lt {w : World} {b o : Nat} {v : Value} (h : w.cell? ⟨b, o, none⟩ = some v) : b < w.heap.size := by
  by_cases g : b < w.heap.size
  · exact g
  · simp [World.cell?, Array.getElem?_eq_none (by omega : w.heap.size ≤ b)] at h
theorem upto2 {n m k : Nat} {p : (j : Nat) → j < n → j < m → Prop} (h : ∀ j (g : j < n) (g' : j < m), j < k → p j g g') {hlt : k < n} {hlt' : k < m} (e : p k hlt hlt') : ∀ j (g : j < n) (g' : j < m), j < k + 1 → p j g g' := by
  intro j g g' hj
  by_cases hjk : j = k
  · subst hjk; exact e
  · exact h j g g' (by omega)

end Go.Proofs.YtbmgcibclmbelabDoor
