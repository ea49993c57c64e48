/- Layer 8: what a right catalog with a definition more is. -/
import Derived.Test.YtkgkkcefnonejaaGreatT37
import Derived.Test.YtkgkkcefnonejaaGreatT19
import Derived.Test.YtkgkkcefnonejaaGreatT19p
namespace Go.Proofs.YtkgkkcefnonejaaGreat
open Go.RowKit

theorem allB_true {n : Nat} {H : Nat → Bool} : allB n H = true ↔ ∀ i, i < n → H i = true := by
  simp [allB, List.all_eq_true]
theorem fndI_new {l : List (List UInt8)} {s : List UInt8} (h : ¬ 0 ≤ fndI l s) : s ∉ l := by
  intro hs
  apply h
  unfold fndI
  split
  · omega
  · rename_i e
    unfold fnd at e
    rw [List.findIdx?_eq_none_iff] at e
    have := e s hs
    simp at this
theorem fndI_last {l : List (List UInt8)} {s : List UInt8} (h : s ∉ l) : fndI (l ++ [s]) s = (l.length : Int) := by
  have : fnd (l ++ [s]) s = some l.length := by
    unfold fnd
    rw [List.findIdx?_append]
    have e : List.findIdx? (fun x => decide (x = s)) l = none := by
      rw [List.findIdx?_eq_none_iff]
      intro x hx
      simp only [decide_eq_false_iff_not]
      rintro rfl
      exact h hx
    rw [e]
    simp
  unfold fndI
  rw [this]
theorem newNm_more {l : List (List UInt8)} {s : List UInt8} (hs : isNm s = true) (hn : s ∉ l) (h : ∀ i, i < l.length → newNm l i = true) : ∀ i, i < (l ++ [s]).length → newNm (l ++ [s]) i = true := by
  intro i hi
  by_cases h1 : i < l.length
  · have := h i h1
    unfold newNm at this ⊢
    rw [List.getElem?_append_left h1, List.take_append_of_le_length (by omega)]
    exact this
  · have e : i = l.length := by simp at hi; omega
    subst e
    unfold newNm
    simp [hs, hn]
theorem rightC_tbs {c : Ct} (h : rightC c = true) : c.tbs.length ≤ 8 ∧ c.prs.length ≤ 16 ∧ (∀ i, i < c.tbs.length → newNm (c.tbs.map fun x => bs x.nm) i = true) ∧ (∀ t ∈ c.tbs, mayTb t = true) ∧ (∀ i, i < c.prs.length → newNm (c.prs.map fun x => bs x.nm) i = true) ∧ (∀ t ∈ c.prs, mayPc t = true) := by
  unfold rightC at h
  simp only [Bool.and_eq_true, decide_eq_true_eq, allB_true] at h
  obtain ⟨⟨⟨h1, h2⟩, h3⟩, h4⟩ := h
  refine ⟨h1, h2, fun i hi => (h3 i hi).1, fun t ht => ?_, fun i hi => (h4 i hi).1, fun t ht => ?_⟩
  · obtain ⟨j, hj, rfl⟩ := List.getElem_of_mem ht
    have := (h3 j hj).2
    rwa [List.getElem?_eq_getElem hj] at this
  · obtain ⟨j, hj, rfl⟩ := List.getElem_of_mem ht
    have := (h4 j hj).2
    rwa [List.getElem?_eq_getElem hj] at this
theorem rightC_of {c : Ct} (h1 : c.tbs.length ≤ 8) (h2 : c.prs.length ≤ 16) (h3 : ∀ i, i < c.tbs.length → newNm (c.tbs.map fun x => bs x.nm) i = true) (h4 : ∀ t ∈ c.tbs, mayTb t = true) (h5 : ∀ i, i < c.prs.length → newNm (c.prs.map fun x => bs x.nm) i = true) (h6 : ∀ t ∈ c.prs, mayPc t = true) : rightC c = true := by
  unfold rightC
  simp only [Bool.and_eq_true, decide_eq_true_eq, allB_true]
  refine ⟨⟨⟨h1, h2⟩, fun i hi => ⟨h3 i hi, ?_⟩⟩, fun i hi => ⟨h5 i hi, ?_⟩⟩
  · rw [List.getElem?_eq_getElem hi]; exact h4 _ (List.getElem_mem hi)
  · rw [List.getElem?_eq_getElem hi]; exact h6 _ (List.getElem_mem hi)
theorem right_none : rightC ⟨[], []⟩ = true := by decide
theorem mayTb_nm {t : Tb} (h : mayTb t = true) : isNm (bs t.nm) = true := by
  unfold mayTb at h
  simp only [Bool.and_eq_true] at h
  exact h.1.1.1
theorem mayPc_nm {t : Pc} (h : mayPc t = true) : isNm (bs t.nm) = true := by
  unfold mayPc at h
  simp only [Bool.and_eq_true] at h
  exact h.1.1.1.1
/-- A table more, or nothing. -/
theorem addT_cases (c : Ct) (t : Tb) (hc : rightC c = true) : (addTE c t ≠ 0 ∧ addTC c t = ⟨[], []⟩) ∨ (addTE c t = 0 ∧ addTC c t = ⟨c.tbs ++ [t], c.prs⟩ ∧ rightC ⟨c.tbs ++ [t], c.prs⟩ = true ∧ fndI ((c.tbs ++ [t]).map fun x => bs x.nm) (bs t.nm) = (c.tbs.length : Int)) := by
  by_cases h : addTE c t = 0
  · refine Or.inr ⟨h, if_pos h, ?_⟩
    obtain ⟨h1, h2, h3, h4, h5, h6⟩ := rightC_tbs hc
    unfold addTE at h
    by_cases hm : mayTb t = true
    · rw [if_pos ⟨hc, hm⟩] at h
      by_cases hf : 0 ≤ fndI (c.tbs.map fun x => bs x.nm) (bs t.nm)
      · rw [if_pos hf] at h; omega
      · rw [if_neg hf] at h
        have hn := fndI_new hf
        by_cases h8 : c.tbs.length = 8
        · rw [if_pos h8] at h; omega
        · have hl := fndI_last hn
          refine ⟨rightC_of (by simp; omega) h2 ?_ ?_ h5 h6, by simpa using hl⟩
          · have := newNm_more (mayTb_nm hm) hn (fun i hi => h3 i (by simpa using hi))
            simpa using this
          · intro x hx
            simp only [List.mem_append, List.mem_singleton] at hx
            rcases hx with hx | rfl
            · exact h4 x hx
            · exact hm
    · rw [if_neg fun e => hm e.2] at h; omega
  · exact Or.inl ⟨h, if_neg h⟩
theorem addP_cases (c : Ct) (t : Pc) (hc : rightC c = true) : (addPE c t ≠ 0 ∧ addPC c t = ⟨[], []⟩) ∨ (addPE c t = 0 ∧ addPC c t = ⟨c.tbs, c.prs ++ [t]⟩ ∧ rightC ⟨c.tbs, c.prs ++ [t]⟩ = true ∧ fndI ((c.prs ++ [t]).map fun x => bs x.nm) (bs t.nm) = (c.prs.length : Int)) := by
  by_cases h : addPE c t = 0
  · refine Or.inr ⟨h, if_pos h, ?_⟩
    obtain ⟨h1, h2, h3, h4, h5, h6⟩ := rightC_tbs hc
    unfold addPE at h
    by_cases hm : mayPc t = true
    · rw [if_pos ⟨hc, hm⟩] at h
      by_cases hf : 0 ≤ fndI (c.prs.map fun x => bs x.nm) (bs t.nm)
      · rw [if_pos hf] at h; omega
      · rw [if_neg hf] at h
        have hn := fndI_new hf
        by_cases h8 : c.prs.length = 16
        · rw [if_pos h8] at h; omega
        · have hl := fndI_last hn
          refine ⟨rightC_of h1 (by simp; omega) h3 h4 ?_ ?_, by simpa using hl⟩
          · have := newNm_more (mayPc_nm hm) hn (fun i hi => h5 i (by simpa using hi))
            simpa using this
          · intro x hx
            simp only [List.mem_append, List.mem_singleton] at hx
            rcases hx with hx | rfl
            · exact h6 x hx
            · exact hm
    · rw [if_neg fun e => hm e.2] at h; omega
  · exact Or.inl ⟨h, if_neg h⟩
/-- What was written comes back. -/
theorem dec_enc {c d : Ct} {k : Int} (hc : rightC c = true) (h : DecIs (encS c) d k) : d = c ∧ k = 0 := by
  rw [encS_yes hc] at h
  rcases h with ⟨h1, _, _, h4⟩ | ⟨_, _, h3⟩
  · exact ⟨(h4 c hc (bs_mk _).symm).symm, h1⟩
  · exact absurd (bs_mk _).symm (h3 c hc)
end Go.Proofs.YtkgkkcefnonejaaGreat
