/- Layer 4, without the program: a new disk. -/
import Derived.Test.YtckmjmpajbjbkaaGreatDoorM42
namespace Go.Proofs.YtckmjmpajbjbkaaGreatDoor
open Go

/-- A file as it is handed in: its name, its bytes, how many are said to be safe. -/
abbrev FV := ByteArray × ByteArray × Int
def FV.nm (f : FV) : Nm := f.1.data.toList
def FV.fl (f : FV) : Fl := (f.2.1.data.toList, f.2.2.toNat)
def okNum (f : FV) : Bool := decide (0 ≤ f.2.2) && decide (f.2.2 ≤ (f.2.1.size : Int))
def rNum (size : Int) (l : List FV) : Bool := decide (0 ≤ size) && decide (size ≤ 1048576) && l.all okNum
def rNam (l : List FV) : Bool := l.all (fun f => nmOk f.nm) && decide ((l.map FV.nm).Nodup)
def sumF (l : List FV) : Nat := (l.map fun f => f.2.1.size).sum
def rRoom (size : Int) (l : List FV) : Bool := decide (l.length ≤ 64) && decide ((sumF l : Int) ≤ size)
def newE (size : Int) (l : List FV) : Int := if rNum size l then (if rNam l then (if rRoom size l then 0 else 42) else 40) else 1
def newFs (l : List FV) : Fs := l.foldl (fun fs f => putL fs f.nm f.fl) []
def newSt (size : Int) (l : List FV) : St := ⟨size.toNat, newFs l, 0, -1, false⟩

theorem sumF_nil : sumF [] = 0 := rfl
theorem sumF_snoc (l : List FV) (f : FV) : sumF (l ++ [f]) = sumF l + f.2.1.size := by simp [sumF]
theorem sumF_append (a b : List FV) : sumF (a ++ b) = sumF a + sumF b := by simp [sumF]
theorem sumF_take_le (l : List FV) (k : Nat) : sumF (l.take k) ≤ sumF l := by
  have h := congrArg sumF (List.take_append_drop k l)
  rw [sumF_append] at h
  omega
theorem newFs_snoc (l : List FV) (f : FV) : newFs (l ++ [f]) = putL (newFs l) f.nm f.fl := by simp [newFs]
theorem newFs_succ {l : List FV} {k : Nat} (h : k < l.length) : newFs (l.take (k + 1)) = putL (newFs (l.take k)) l[k].nm l[k].fl := by
  rw [List.take_succ_eq_append_getElem h, newFs_snoc]
theorem sumF_succ {l : List FV} {k : Nat} (h : k < l.length) : sumF (l.take (k + 1)) = sumF (l.take k) + l[k].2.1.size := by
  rw [List.take_succ_eq_append_getElem h, sumF_snoc]

theorem rNum_of {size : Int} {l : List FV} (h : rNum size l = true) : 0 ≤ size ∧ size ≤ 1048576 ∧ ∀ f ∈ l, 0 ≤ f.2.2 ∧ f.2.2 ≤ (f.2.1.size : Int) := by
  simp only [rNum, Bool.and_eq_true, decide_eq_true_eq, List.all_eq_true, okNum] at h
  exact ⟨h.1.1, h.1.2, h.2⟩
theorem rNam_of {l : List FV} (h : rNam l = true) : (∀ f ∈ l, nmOk f.nm = true) ∧ (l.map FV.nm).Nodup := by
  simpa only [rNam, Bool.and_eq_true, decide_eq_true_eq, List.all_eq_true] using h
theorem rRoom_of {size : Int} {l : List FV} (h : rRoom size l = true) : l.length ≤ 64 ∧ (sumF l : Int) ≤ size := by
  simpa only [rRoom, Bool.and_eq_true, decide_eq_true_eq] using h
theorem newE_ok {size : Int} {l : List FV} (h : newE size l = 0) : rNum size l = true ∧ rNam l = true ∧ rRoom size l = true := by
  unfold newE at h
  split at h
  · split at h
    · split at h
      · exact ⟨by assumption, by assumption, by assumption⟩
      · simp at h
    · simp at h
  · simp at h

/-- The beginning of a list makes right files, which have no more bytes than it. -/
theorem newFs_ok {size : Int} {l : List FV} (h : newE size l = 0) : ∀ k, k ≤ l.length → OKf size.toNat (newFs (l.take k)) ∧ tot szF (newFs (l.take k)) ≤ sumF (l.take k) ∧ (newFs (l.take k)).length ≤ k := by
  obtain ⟨h1, h2, h3⟩ := newE_ok h
  obtain ⟨hs0, hs1, hn⟩ := rNum_of h1
  obtain ⟨hnm, _⟩ := rNam_of h2
  obtain ⟨hl, hsum⟩ := rRoom_of h3
  intro k
  induction k with
  | zero =>
    intro _
    refine ⟨⟨List.Pairwise.nil, by omega, Nat.zero_le _, Nat.zero_le _, fun p hp => by simp [newFs] at hp, fun p hp => by simp [newFs] at hp⟩, Nat.zero_le _, Nat.zero_le _⟩
  | succ k ih =>
    intro hk
    obtain ⟨i1, i2, i3⟩ := ih (by omega)
    have hlt : k < l.length := by omega
    have hm := List.getElem_mem hlt
    have hf := hn _ hm
    have hsl := sumF_take_le l (k + 1)
    rw [sumF_succ hlt] at hsl
    have hfl : (l[k].fl).1.length = l[k].2.1.size := by simp [FV.fl]
    have hfs : (l[k].fl).2 = (l[k].2.2).toNat := rfl
    have hp : OKf size.toNat (putL (newFs (l.take k)) l[k].nm l[k].fl) := i1.put (hnm _ hm) (by omega) (by omega) (Or.inr (by omega))
    have ht := tot_putL szF (newFs (l.take k)) l[k].nm l[k].fl i1.sorted
    have hln := length_putL (newFs (l.take k)) l[k].nm l[k].fl i1.sorted
    have hszf : szF (l[k].fl) = l[k].2.1.size := hfl
    rw [newFs_succ hlt, sumF_succ hlt]
    refine ⟨hp, by omega, ?_⟩
    rw [hln]
    split <;> omega
theorem newSt_ok {size : Int} {l : List FV} (h : newE size l = 0) : OKs (newSt size l) := by
  have := (newFs_ok h l.length (Nat.le_refl _)).1
  rw [List.take_length] at this
  exact ⟨this, by simp [newSt], by simp [newSt]⟩

/-! ### names that are met -/
def metL (l : List FV) : List (Nm × Unit) := l.foldl (fun m f => putL m f.nm ()) []
theorem metL_snoc (l : List FV) (f : FV) : metL (l ++ [f]) = putL (metL l) f.nm () := by simp [metL]
theorem metL_succ {l : List FV} {k : Nat} (h : k < l.length) : metL (l.take (k + 1)) = putL (metL (l.take k)) l[k].nm () := by
  rw [List.take_succ_eq_append_getElem h, metL_snoc]
def MetF (l : List FV) : Prop := srt (metL l) ∧ (metL l).length ≤ l.length ∧ (∀ x, (getL (metL l) x).isSome = true ↔ x ∈ l.map FV.nm) ∧ ((metL l).length = l.length ↔ (l.map FV.nm).Nodup)
theorem metF_snoc {l : List FV} (ih : MetF l) (f : FV) : MetF (l ++ [f]) := by
    unfold MetF
    obtain ⟨h1, h2, h3, h4⟩ := ih
    rw [metL_snoc]
    have hln := length_putL (metL l) f.nm () h1
    refine ⟨srt_putL h1 _ _, ?_, fun x => ?_, ?_⟩
    · rw [hln]
      simp only [List.length_append, List.length_singleton]
      split <;> omega
    · rw [getL_putL _ _ _ _ h1]
      by_cases e : f.nm = x
      · simp [e]
      · rw [if_neg e, h3 x]
        simp only [List.map_append, List.map_cons, List.map_nil, List.mem_append, List.mem_singleton]
        constructor
        · exact Or.inl
        · rintro (g | g)
          · exact g
          · exact absurd g.symm e
    · rw [hln, List.map_append, List.length_append]
      simp only [List.map_cons, List.map_nil, List.length_singleton]
      have hnd : (l.map FV.nm ++ [f.nm]).Nodup ↔ ((l.map FV.nm).Nodup ∧ f.nm ∉ l.map FV.nm) := by
        rw [List.nodup_append]
        constructor
        · rintro ⟨g1, _, g2⟩
          exact ⟨g1, fun hx => g2 _ hx _ (by simp) rfl⟩
        · rintro ⟨g1, g2⟩
          refine ⟨g1, by simp, fun a ha b hb e => ?_⟩
          simp at hb
          subst hb
          exact g2 (e ▸ ha)
      rw [hnd]
      cases hg : (getL (metL l) f.nm).isSome with
      | true =>
        have hm := (h3 f.nm).1 hg
        simp only [if_true]
        constructor
        · intro e
          omega
        · rintro ⟨_, g2⟩
          exact absurd hm g2
      | false =>
        have hm : f.nm ∉ l.map FV.nm := fun g => by
          have := (h3 f.nm).2 g
          rw [hg] at this
          cases this
        simp only [Bool.false_eq_true, if_false]
        constructor
        · intro e
          exact ⟨h4.1 (by omega), hm⟩
        · rintro ⟨g1, _⟩
          rw [h4.2 g1]
theorem metL_facts (l : List FV) : ∀ k, k ≤ l.length → MetF (l.take k) := by
  intro k
  induction k with
  | zero => exact fun _ => ⟨List.Pairwise.nil, Nat.le_refl _, fun x => by simp [metL, getL], by simp [metL]⟩
  | succ k ih =>
    intro hk
    rw [List.take_succ_eq_append_getElem (by omega)]
    exact metF_snoc (ih (by omega)) _
end Go.Proofs.YtckmjmpajbjbkaaGreatDoor
