/- Layer 6, without the program: what the files of a log that was only appended to hold. -/
import Derived.Test.YteanhkdnakmggaaGreatDoorM62
namespace Go.Proofs.YteanhkdnakmggaaGreatDoor
open Go

def segAt (g : Lg) (i : Nat) : Nat := (recsL (g.segs.take i)).length
theorem segAt_zero (g : Lg) : segAt g 0 = 0 := rfl
theorem Only1.segAt_all {size : Nat} {R : List (List UInt8)} {st : St} {g : Lg} (h : Only1 size R st g) : segAt g st.fs.length = R.length := by rw [segAt, h.len, List.take_length, h.recs]
theorem Only1.files {size : Nat} {R : List (List UInt8)} {st : St} {g : Lg} (h : Only1 size R st g) (i : Nat) (hi : i < g.segs.length) : ∃ k, st.fs[i]? = some (nameN (g.segs[i]).1, (cat (g.segs[i]).2, k)) ∧ (i + 1 < g.segs.length → k = (cat (g.segs[i]).2).length) := by
  rcases h.lies with ⟨h1, _⟩ | ⟨A, s, k, h1, ⟨M, hM, hfs⟩, _, _⟩
  · rw [h1] at hi
    cases hi
  · have hl := h.len
    have hM0 : M = [] := by
      rw [hfs, h1] at hl
      simp only [List.length_append, List.length_map, List.length_cons, List.length_nil] at hl
      exact List.eq_nil_of_length_eq_zero (by omega)
    subst hM0
    have e1 : (A ++ [s])[i]? = some g.segs[i] := by rw [← h1]; exact List.getElem?_eq_getElem hi
    have hlen : g.segs.length = A.length + 1 := by rw [h1]; simp
    rw [hlen] at hi ⊢
    by_cases hA : i < A.length
    · rw [List.getElem?_append_left hA, List.getElem?_eq_getElem hA] at e1
      have e2 : A[i] = g.segs[i] := by simpa using e1
      refine ⟨(cat (g.segs[i]).2).length, ?_, fun _ => rfl⟩
      rw [hfs, List.getElem?_append_left (by simpa using hA), List.getElem?_map, List.getElem?_eq_getElem hA, e2]
      rfl
    · have e3 : i = A.length := by omega
      subst e3
      rw [List.getElem?_append_right (Nat.le_refl _), Nat.sub_self] at e1
      have e2 : s = g.segs[A.length] := by simpa using e1
      refine ⟨k, ?_, fun e => by omega⟩
      rw [hfs, List.getElem?_append_right (by simp), List.length_map, Nat.sub_self, e2]
      rfl
theorem Only1.file {size : Nat} {R : List (List UInt8)} {st : St} {g : Lg} (h : Only1 size R st g) (i : Nat) (hi : i < st.fs.length) : ∃ ds : List (List UInt8), (st.fs[i]).2.1 = cat ds ∧ (∀ d ∈ ds, d.length ≤ 4096) ∧ 1 ≤ ds.length ∧ ds.length ≤ size ∧ (i + 1 < st.fs.length → ds.length = size ∧ (st.fs[i]).2.2 = (cat ds).length) ∧ segAt g i + ds.length ≤ R.length ∧ (∀ k (hk : k < ds.length), R[segAt g i + k]? = some ds[k]) ∧ segAt g (i + 1) = segAt g i + ds.length := by
  have hi' : i < g.segs.length := by rw [← h.len]; exact hi
  obtain ⟨k, hk, hkk⟩ := h.files i hi'
  rw [List.getElem?_eq_getElem hi] at hk
  have hk' : st.fs[i] = (nameN (g.segs[i]).1, (cat (g.segs[i]).2, k)) := by simpa using hk
  have hz : g.segs ≠ [] := fun e => by rw [e] at hi'; cases hi'
  obtain ⟨A, s, e⟩ := snoc_of hz
  obtain ⟨f1, f2, f3⟩ := h.full A s e
  have hlen : g.segs.length = A.length + 1 := by rw [e]; simp
  have e1 : (A ++ [s])[i]? = some g.segs[i] := by rw [← e]; exact List.getElem?_eq_getElem hi'
  have hsz : 1 ≤ size := by have := h.ok.size; rw [h.gsize] at this; exact this.1
  have hcnt : 1 ≤ (g.segs[i]).2.length ∧ (g.segs[i]).2.length ≤ size ∧ (i + 1 < g.segs.length → (g.segs[i]).2.length = size) := by
    by_cases hA : i < A.length
    · rw [List.getElem?_append_left hA, List.getElem?_eq_getElem hA] at e1
      have e2 : A[i] = g.segs[i] := by simpa using e1
      have := f1 A[i] (List.getElem_mem hA)
      rw [e2] at this
      omega
    · have e3 : i = A.length := by omega
      subst e3
      rw [List.getElem?_append_right (Nat.le_refl _), Nat.sub_self] at e1
      have e2 : s = g.segs[A.length] := by simpa using e1
      rw [← e2]
      exact ⟨f2, f3, fun q => by omega⟩
  have hsplit : R = recsL (g.segs.take i) ++ ((g.segs[i]).2 ++ recsL (g.segs.drop (i + 1))) := by
    rw [← h.recs]
    conv => lhs; rw [← List.take_append_drop i g.segs, List.drop_eq_getElem_cons hi', recsL_append]
    congr 1
  have hat : segAt g (i + 1) = segAt g i + (g.segs[i]).2.length := by
    unfold segAt
    rw [List.take_succ_eq_append_getElem hi', recsL_append, recsL_one, List.length_append]
  refine ⟨(g.segs[i]).2, by rw [hk'], h.ok.small _ (List.getElem_mem hi'), hcnt.1, hcnt.2.1, fun q => ?_, ?_, fun j hj => ?_, hat⟩
  · rw [h.len] at q
    refine ⟨hcnt.2.2 q, ?_⟩
    rw [hk']
    exact hkk q
  · have := congrArg List.length hsplit
    rw [List.length_append, List.length_append] at this
    unfold segAt
    omega
  · rw [hsplit]
    unfold segAt
    rw [List.getElem?_append_right (by omega), Nat.add_sub_cancel_left, List.getElem?_append_left hj]
    exact List.getElem?_eq_getElem hj
/-- The log at the beginning. -/
theorem Only1.first {S : Nat} (h1 : 1 ≤ S) (h2 : S ≤ 1024) : Only1 S [] ⟨1048576, [], 0, -1, false⟩ ⟨S, 0, 0, []⟩ := by
  refine ⟨⟨⟨⟨List.Pairwise.nil, by decide, by decide, by decide, by simp, by simp⟩, by decide, by decide⟩, rfl, rfl⟩, ⟨⟨⟨h1, h2⟩, by show 0 < 1000000000000; decide, trivial, by simp, by simp, by simp, by simp⟩, by simp, fun _ => rfl⟩, Or.inl ⟨rfl, Or.inl rfl⟩, rfl, rfl, rfl, rfl, rfl, fun A s e => by simp at e, rfl, rfl, by simp⟩
end Go.Proofs.YteanhkdnakmggaaGreatDoor
