/- The cells of a list of values. -/
import Derived.Test.YtfgpopkibjijgaaW4
import Derived.Test.YtfgpopkibjijgaaC1
namespace Go.Proofs.Ytfgpopkibjijgaa
open Go.RowKit

/-- The cells of values, one behind the other. -/
def vc : List V3 → List Value
  | [] => []
  | v :: vs => .int .i64 v.1 :: .int .i64 v.2.1 :: .string v.2.2 :: vc vs
theorem vc_length : ∀ vs : List V3, (vc vs).length = vs.length * 3
  | [] => rfl
  | v :: vs => by simp only [vc, List.length_cons, vc_length vs]; omega
theorem vc_one : ∀ (vs : List V3), ∀ u ∈ vc vs, u.oneCell' = true
  | [], u, h => by simp [vc] at h
  | v :: vs, u, h => by
    simp only [vc, List.mem_cons] at h
    rcases h with rfl | rfl | rfl | h
    · rfl
    · rfl
    · rfl
    · exact vc_one vs u h
theorem vc_append : ∀ l m : List V3, vc (l ++ m) = vc l ++ vc m
  | [], m => rfl
  | v :: l, m => by simp only [List.cons_append, vc, vc_append l m]
theorem vc_at : ∀ (vs : List V3) (i : Nat) (h : i < vs.length), (vc vs)[i * 3]? = some (.int .i64 (vs[i]).1) ∧ (vc vs)[i * 3 + 1]? = some (.int .i64 (vs[i]).2.1) ∧ (vc vs)[i * 3 + 2]? = some (.string (vs[i]).2.2)
  | v :: vs, 0, _ => ⟨rfl, rfl, rfl⟩
  | v :: vs, i + 1, h => by
    have := vc_at vs i (by simpa using h)
    have e0 : (i + 1) * 3 = i * 3 + 1 + 1 + 1 := by omega
    have e1 : (i + 1) * 3 + 1 = (i * 3 + 1) + 1 + 1 + 1 := by omega
    have e2 : (i + 1) * 3 + 2 = (i * 3 + 2) + 1 + 1 + 1 := by omega
    rw [e1, e2, e0]
    simpa only [vc, List.getElem?_cons_succ, List.getElem_cons_succ] using this
theorem vc_of : ∀ (vs : List V3) (j : Nat) (u : Value), (vc vs)[j]? = some u → ∃ i, ∃ h : i < vs.length, (j = i * 3 ∧ u = .int .i64 (vs[i]).1) ∨ (j = i * 3 + 1 ∧ u = .int .i64 (vs[i]).2.1) ∨ (j = i * 3 + 2 ∧ u = .string (vs[i]).2.2)
  | [], j, u, h => by simp [vc] at h
  | v :: vs, 0, u, h => ⟨0, by simp, Or.inl ⟨rfl, by simpa [vc] using h.symm⟩⟩
  | v :: vs, 1, u, h => ⟨0, by simp, Or.inr (Or.inl ⟨rfl, by simpa [vc] using h.symm⟩)⟩
  | v :: vs, 2, u, h => ⟨0, by simp, Or.inr (Or.inr ⟨rfl, by simpa [vc] using h.symm⟩)⟩
  | v :: vs, j + 3, u, h => by
    obtain ⟨i, hi, g⟩ := vc_of vs j u (by simpa [vc] using h)
    refine ⟨i + 1, by simpa using hi, ?_⟩
    simp only [List.getElem_cons_succ]
    rcases g with ⟨a, b⟩ | ⟨a, b⟩ | ⟨a, b⟩
    · exact Or.inl ⟨by omega, b⟩
    · exact Or.inr (Or.inl ⟨by omega, b⟩)
    · exact Or.inr (Or.inr ⟨by omega, b⟩)
theorem Row.cells {w : World} {a : Option Addr} {vs : List V3} (h : Row w a vs) : 0 < (vc vs).length → ∃ ad, a = some ad ∧ ∀ j u, (vc vs)[j]? = some u → w.cell? (ad.add j) = some u := by
  intro h0
  rw [vc_length] at h0
  obtain ⟨b, off, e, _⟩ := h 0 (by omega)
  refine ⟨_, e, fun j u hj => ?_⟩
  obtain ⟨i, hi, g⟩ := vc_of vs j u hj
  obtain ⟨b', off', e', c0, c1, c2⟩ := h i hi
  rw [e] at e'
  obtain ⟨rfl, rfl⟩ : b = b' ∧ off = off' := by simpa using e'
  have hadd : ∀ j, (⟨b, off, none⟩ : Addr).add j = ⟨b, off + j, none⟩ := fun j => by unfold Addr.add; split <;> simp_all
  rw [hadd]
  rcases g with ⟨rfl, rfl⟩ | ⟨rfl, rfl⟩ | ⟨rfl, rfl⟩
  · exact c0
  · exact c1
  · exact c2
theorem Row.of_cells {w : World} {b off : Nat} {vs : List V3} (h : ∀ j u, (vc vs)[j]? = some u → w.cell? ⟨b, off + j, none⟩ = some u) : Row w (some ⟨b, off, none⟩) vs := by
  intro i hi
  obtain ⟨a, c, d⟩ := vc_at vs i hi
  exact ⟨b, off, rfl, h _ _ a, h _ _ c, h _ _ d⟩
theorem Row.prefix {w : World} {a : Option Addr} {l m : List V3} (h : Row w a (l ++ m)) : Row w a l := by
  intro i hi
  have := h i (by simp; omega)
  simpa [List.getElem_append_left hi] using this
theorem Try.info23 : (Try.prog.info? 25).map (fun i => (i.zero, i.size, i.bytes)) = some (some (.agg #[.int .i64 0, .int .i64 0, .string ⟨#[]⟩]), 3, 32) := by kernel_rfl
end Go.Proofs.Ytfgpopkibjijgaa
