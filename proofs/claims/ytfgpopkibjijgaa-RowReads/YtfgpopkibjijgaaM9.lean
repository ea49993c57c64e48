/- Plain mathematics of layer 1: lists turned round; sums and quotients undone. -/
import Derived.Test.YtfgpopkibjijgaaM4
import Derived.Test.YtfgpopkibjijgaaM8
namespace Go.Proofs.Ytfgpopkibjijgaa

/-- Values from the last to the first, the first one once more. -/
def turnedL (l : List V3) : List V3 := l.reverse ++ l.take 1
theorem mem_turned {l : List V3} {v : V3} : v ∈ turnedL l ↔ v ∈ l := by
  unfold turnedL
  rw [List.mem_append, List.mem_reverse]
  exact ⟨fun h => h.elim id fun h => List.mem_of_mem_take h, Or.inl⟩
theorem all_set {l m : List V3} (p : V3 → Bool) (h : ∀ v, v ∈ l ↔ v ∈ m) : l.all p = m.all p := by
  rw [Bool.eq_iff_iff, List.all_eq_true, List.all_eq_true]
  exact ⟨fun g v hv => g v ((h v).2 hv), fun g v hv => g v ((h v).1 hv)⟩
theorem any_set {l m : List V3} (p : V3 → Bool) (h : ∀ v, v ∈ l ↔ v ∈ m) : l.any p = m.any p := by
  rw [Bool.eq_iff_iff, List.any_eq_true, List.any_eq_true]
  exact ⟨fun ⟨v, hv, g⟩ => ⟨v, (h v).1 hv, g⟩, fun ⟨v, hv, g⟩ => ⟨v, (h v).2 hv, g⟩⟩
theorem adm_set {kind : Int} {l m : List V3} (h : ∀ v, v ∈ l ↔ v ∈ m) : adm kind l = adm kind m := by
  unfold adm; rw [all_set _ h, all_set _ h]
theorem sett_set {b : Bool} {l m : List V3} (h : ∀ v, v ∈ l ↔ v ∈ m) : sett b l = sett b m := by
  unfold sett; rw [adm_set h, any_set _ h, any_set _ h]
theorem met_set {l m : List V3} (h : ∀ v, v ∈ l ↔ v ∈ m) : met l = met m := any_set _ h
theorem tot_reverse (l : List V3) : tot l.reverse = tot l := by
  induction l with
  | nil => rfl
  | cons v l ih => rw [List.reverse_cons, tot_append, ih]; simp only [tot]; omega
theorem tot_turned {l : List V3} (h : 0 < l.length) (g : (l[0]).1 = 1) : tot (turnedL l) = tot l + (l[0]).2.1 := by
  unfold turnedL
  rw [tot_append, tot_reverse]
  match l, h, g with
  | v :: l, _, g => simp only [List.take_succ_cons, List.take_zero, tot]; simp at g; simp [g]

/-- What the sum of a list and that of the list turned round have to do with each other. -/
theorem sum_turned {l : List V3} (h : 0 < l.length) (h0 : (sumR l).2.2 = 0) (ht : (sumR l).1 = 1) (hl : (l[0]).1 = 1) :
    sumR (turnedL l) = arR 1 (sumR l).1 (sumR l).2.1 ⟨#[]⟩ (l[0]).1 (l[0]).2.1 (l[0]).2.2 := by
  have ha : adm 1 l = 0 := by
    by_cases q : adm 1 l = 0
    · exact q
    · rw [sumR_adm q] at h0; exact absurd h0 q
  have ha' : adm 1 (turnedL l) = 0 := by rw [adm_set fun v => mem_turned]; exact ha
  have hm : met l = true := by
    cases q : met l
    · rw [sumR_none ha q] at ht; simp at ht
    · rfl
  have hm' : met (turnedL l) = true := by rw [met_set fun v => mem_turned]; exact hm
  have hr : inR (tot l) = true := by
    cases q : inR (tot l)
    · rw [sumR_over ha hm q] at ht; simp at ht
    · rfl
  have hin := (adm_zero ha (l[0]) (List.getElem_mem h))
  rw [sumR_ok ha hm hr]
  simp only
  rw [hl]
  have had2 : adm 1 [(1, tot l, (⟨#[]⟩ : ByteArray)), (1, (l[0]).2.1, (l[0]).2.2)] = 0 := by
    apply adm_ok
    · intro i hi
      match i, hi with
      | 0, _ => have := inR_iff.1 hr; simp [rgt, ByteArray.toList_eq]; omega
      | 1, _ => have := hin.1; unfold V3.right at this; rw [hl] at this; exact this
    · intro i hi
      match i, hi with
      | 0, _ => exact Or.inl rfl
      | 1, _ => exact Or.inl rfl
  have e1 : exact2 1 (tot l) (l[0]).2.1 = tot l + (l[0]).2.1 := rfl
  cases q : inR (tot l + (l[0]).2.1)
  · rw [sumR_over ha' hm' (by rw [tot_turned h hl]; exact q), arR_over (by omega) had2 (by omega) (by omega) (by rw [e1]; exact q)]
  · rw [sumR_ok ha' hm' (by rw [tot_turned h hl]; exact q), arR_ok (by omega) had2 (by omega) (by omega) (by rw [e1]; exact q), tot_turned h hl, e1]
theorem sum_errs (l : List V3) : ((sumR l).2.2 = 10 ↔ (sumR (turnedL l)).2.2 = 10) ∧ ((sumR l).2.2 = 11 ↔ (sumR (turnedL l)).2.2 = 11) := by
  have ha : adm 1 (turnedL l) = adm 1 l := adm_set fun v => mem_turned
  by_cases q : adm 1 l = 0
  · have key : ∀ m : List V3, adm 1 m = 0 → (sumR m).2.2 = 0 ∨ (sumR m).2.2 = 12 := by
      intro m hm
      cases h1 : met m
      · rw [sumR_none hm h1]; exact Or.inl rfl
      · cases h2 : inR (tot m)
        · rw [sumR_over hm h1 h2]; exact Or.inr rfl
        · rw [sumR_ok hm h1 h2]; exact Or.inl rfl
    have k1 := key l q
    have k2 := key (turnedL l) (by rw [ha]; exact q)
    omega
  · rw [sumR_adm q, sumR_adm (by rw [ha]; exact q), ha]
    exact ⟨Iff.rfl, Iff.rfl⟩
end Go.Proofs.Ytfgpopkibjijgaa
