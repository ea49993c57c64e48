/- Files that came in, as cells. -/
import Derived.Test.YtejbelbfmchadaaD13
import Derived.Test.YtejbelbfmchadaaC1
namespace Go.Proofs.Ytejbelbfmchadaa
open Go.RowKit

/-- The cells of files, one behind the other. -/
def vf : List FV → List Value
  | [] => []
  | v :: vs => .string v.1 :: .string v.2.1 :: .int .i64 v.2.2 :: vf vs
theorem vf_length : ∀ vs : List FV, (vf vs).length = vs.length * 3
  | [] => rfl
  | v :: vs => by simp only [vf, List.length_cons, vf_length vs]; omega
theorem vf_one : ∀ (vs : List FV), ∀ u ∈ vf vs, u.oneCell' = true
  | [], u, h => by simp [vf] at h
  | v :: vs, u, h => by
    simp only [vf, List.mem_cons] at h
    rcases h with rfl | rfl | rfl | h
    · rfl
    · rfl
    · rfl
    · exact vf_one vs u h
theorem vf_append : ∀ l m : List FV, vf (l ++ m) = vf l ++ vf m
  | [], m => rfl
  | v :: l, m => by simp only [List.cons_append, vf, vf_append l m]
theorem vf_at : ∀ (vs : List FV) (i : Nat) (h : i < vs.length), (vf vs)[i * 3]? = some (.string (vs[i]).1) ∧ (vf vs)[i * 3 + 1]? = some (.string (vs[i]).2.1) ∧ (vf vs)[i * 3 + 2]? = some (.int .i64 (vs[i]).2.2)
  | v :: vs, 0, _ => ⟨rfl, rfl, rfl⟩
  | v :: vs, i + 1, h => by
    have := vf_at vs i (by simpa using h)
    have e0 : (i + 1) * 3 = i * 3 + 1 + 1 + 1 := by omega
    have e1 : (i + 1) * 3 + 1 = (i * 3 + 1) + 1 + 1 + 1 := by omega
    have e2 : (i + 1) * 3 + 2 = (i * 3 + 2) + 1 + 1 + 1 := by omega
    rw [e1, e2, e0]
    simpa only [vf, List.getElem?_cons_succ, List.getElem_cons_succ] using this
theorem vf_of : ∀ (vs : List FV) (j : Nat) (u : Value), (vf vs)[j]? = some u → ∃ i, ∃ h : i < vs.length, (j = i * 3 ∧ u = .string (vs[i]).1) ∨ (j = i * 3 + 1 ∧ u = .string (vs[i]).2.1) ∨ (j = i * 3 + 2 ∧ u = .int .i64 (vs[i]).2.2)
  | [], j, u, h => by simp [vf] at h
  | v :: vs, 0, u, h => ⟨0, by simp, Or.inl ⟨rfl, by simpa [vf] using h.symm⟩⟩
  | v :: vs, 1, u, h => ⟨0, by simp, Or.inr (Or.inl ⟨rfl, by simpa [vf] using h.symm⟩)⟩
  | v :: vs, 2, u, h => ⟨0, by simp, Or.inr (Or.inr ⟨rfl, by simpa [vf] using h.symm⟩)⟩
  | v :: vs, j + 3, u, h => by
    obtain ⟨i, hi, g⟩ := vf_of vs j u (by simpa [vf] using h)
    refine ⟨i + 1, by simpa using hi, ?_⟩
    simp only [List.getElem_cons_succ]
    rcases g with ⟨a, b⟩ | ⟨a, b⟩ | ⟨a, b⟩
    · exact Or.inl ⟨by omega, b⟩
    · exact Or.inr (Or.inl ⟨by omega, b⟩)
    · exact Or.inr (Or.inr ⟨by omega, b⟩)
theorem FRow.cells {w : World} {a : Option Addr} {vs : List FV} (h : FRow w a vs) : 0 < (vf vs).length → ∃ ad, a = some ad ∧ ∀ j u, (vf vs)[j]? = some u → w.cell? (ad.add j) = some u := by
  intro h0
  rw [vf_length] at h0
  obtain ⟨b, off, e, _⟩ := h 0 (by omega)
  refine ⟨_, e, fun j u hj => ?_⟩
  obtain ⟨i, hi, g⟩ := vf_of vs j u hj
  obtain ⟨b', off', e', c0, c1, c2⟩ := h i hi
  rw [e] at e'
  obtain ⟨rfl, rfl⟩ : b = b' ∧ off = off' := by simpa using e'
  have hadd : ∀ j, (⟨b, off, none⟩ : Addr).add j = ⟨b, off + j, none⟩ := fun j => by unfold Addr.add; split <;> simp_all
  rw [hadd]
  rcases g with ⟨rfl, rfl⟩ | ⟨rfl, rfl⟩ | ⟨rfl, rfl⟩
  · exact c0
  · exact c1
  · exact c2
theorem FRow.of_cells {w : World} {b off : Nat} {vs : List FV} (h : ∀ j u, (vf vs)[j]? = some u → w.cell? ⟨b, off + j, none⟩ = some u) : FRow w (some ⟨b, off, none⟩) vs := by
  intro i hi
  obtain ⟨a, c, d⟩ := vf_at vs i hi
  exact ⟨b, off, rfl, h _ _ a, h _ _ c, h _ _ d⟩
end Go.Proofs.Ytejbelbfmchadaa
