/- Layer 4, without the program: lists that are kept by rising names; what a disk's calls do to such a list. -/
import Derived.Test.YtckmjmpajbjbkaaGreatDoorM1
import Derived.Sort.KeysCollected
namespace Go.Proofs.YtckmjmpajbjbkaaGreatDoor
open Go Go.Maps

abbrev Nm := List UInt8

theorem bb_eq : ∀ x y : Nm, bytesBefore x y = Op.bytesLess x y
  | [], [] => rfl
  | [], _ :: _ => rfl
  | _ :: _, [] => rfl
  | a :: r, b :: s => by simp only [bytesBefore, Op.bytesLess, bb_eq r s]

theorem bl_lt : ∀ x y : Nm, Op.bytesLess x y = decide (x < y)
  | [], [] => by simp [Op.bytesLess]
  | [], _ :: _ => by simp [Op.bytesLess]
  | _ :: _, [] => by simp [Op.bytesLess]
  | a :: r, b :: s => by
    simp only [Op.bytesLess, bl_lt r s]
    rw [Bool.eq_iff_iff]
    simp only [Bool.or_eq_true, Bool.and_eq_true, decide_eq_true_eq, beq_iff_eq, List.cons_lt_cons_iff]

section
variable {α β : Type}

def srt (l : List (Nm × α)) : Prop := l.Pairwise (fun p q => Op.bytesLess p.1 q.1 = true)
def getL : List (Nm × α) → Nm → Option α
  | [], _ => none
  | p :: r, k => if p.1 = k then some p.2 else getL r k
def putL : List (Nm × α) → Nm → α → List (Nm × α)
  | [], k, x => [(k, x)]
  | p :: r, k, x => if Op.bytesLess k p.1 then (k, x) :: p :: r else if p.1 = k then (k, x) :: r else p :: putL r k x
def delL (l : List (Nm × α)) (k : Nm) : List (Nm × α) := l.filter (fun p => p.1 != k)
def mapL (f : α → β) (l : List (Nm × α)) : List (Nm × β) := l.map (fun p => (p.1, f p.2))

theorem srt_ne {p : Nm × α} {r : List (Nm × α)} (h : srt (p :: r)) : ∀ q ∈ r, q.1 ≠ p.1 := fun q hq e => by
  have := (List.pairwise_cons.1 h).1 q hq
  rw [e, bl_irrefl] at this
  cases this

theorem getL_mem : ∀ {l : List (Nm × α)} {k : Nm} {x : α}, getL l k = some x → (k, x) ∈ l
  | [], _, _, h => by cases h
  | p :: r, k, x, h => by
    unfold getL at h
    split at h
    · rename_i e
      cases h
      subst e
      simp
    · exact List.mem_cons_of_mem _ (getL_mem h)
theorem getL_none : ∀ {l : List (Nm × α)} {k : Nm}, getL l k = none → ∀ p ∈ l, p.1 ≠ k
  | [], _, _, p, hp => by cases hp
  | q :: r, k, h, p, hp => by
    unfold getL at h
    split at h
    · cases h
    · rename_i e
      rcases List.mem_cons.1 hp with rfl | hp
      · exact e
      · exact getL_none h p hp
theorem getL_of_mem : ∀ {l : List (Nm × α)}, srt l → ∀ {p : Nm × α}, p ∈ l → getL l p.1 = some p.2
  | [], _, p, hp => by cases hp
  | q :: r, h, p, hp => by
    unfold getL
    rcases List.mem_cons.1 hp with rfl | hp
    · simp
    · rw [if_neg (fun e => srt_ne h p hp e.symm)]
      exact getL_of_mem (List.pairwise_cons.1 h).2 hp
theorem getL_mapL (f : α → β) : ∀ (l : List (Nm × α)) (k : Nm), getL (mapL f l) k = (getL l k).map f
  | [], _ => rfl
  | p :: r, k => by
    show (if p.1 = k then some (f p.2) else getL (mapL f r) k) = Option.map f (if p.1 = k then some p.2 else getL r k)
    split
    · rfl
    · exact getL_mapL f r k
theorem mapL_putL (f : α → β) : ∀ (l : List (Nm × α)) (k : Nm) (x : α), mapL f (putL l k x) = putL (mapL f l) k (f x)
  | [], _, _ => rfl
  | p :: r, k, x => by
    show mapL f (if Op.bytesLess k p.1 then (k, x) :: p :: r else if p.1 = k then (k, x) :: r else p :: putL r k x) = (if Op.bytesLess k p.1 then (k, f x) :: (p.1, f p.2) :: mapL f r else if p.1 = k then (k, f x) :: mapL f r else (p.1, f p.2) :: putL (mapL f r) k (f x))
    split
    · rfl
    · split
      · rfl
      · show (p.1, f p.2) :: mapL f (putL r k x) = _
        rw [mapL_putL f r k x]
theorem mapL_delL (f : α → β) (l : List (Nm × α)) (k : Nm) : mapL f (delL l k) = delL (mapL f l) k := by
  simp only [mapL, delL, List.filter_map]
  rfl
theorem mapL_length (f : α → β) (l : List (Nm × α)) : (mapL f l).length = l.length := by simp [mapL]
theorem srt_mapL (f : α → β) {l : List (Nm × α)} : srt (mapL f l) ↔ srt l := by simp [srt, mapL, List.pairwise_map]
theorem srt_delL {l : List (Nm × α)} (h : srt l) (k : Nm) : srt (delL l k) := h.filter _

theorem mem_putL : ∀ {l : List (Nm × α)}, srt l → ∀ {k : Nm} {x : α} {p : Nm × α}, p ∈ putL l k x → p = (k, x) ∨ (p ∈ l ∧ p.1 ≠ k)
  | [], _, k, x, p, hp => by simp [putL] at hp; exact Or.inl hp
  | q :: r, h, k, x, p, hp => by
    unfold putL at hp
    split at hp
    · rename_i hb
      rcases List.mem_cons.1 hp with rfl | hp
      · exact Or.inl rfl
      · refine Or.inr ⟨hp, fun e => ?_⟩
        rcases List.mem_cons.1 hp with hq | hp
        · rw [← e, hq, bl_irrefl] at hb; cases hb
        · have := bl_trans _ _ _ hb ((List.pairwise_cons.1 h).1 p hp)
          rw [e, bl_irrefl] at this; cases this
    · split at hp
      · rename_i e
        rcases List.mem_cons.1 hp with rfl | hp
        · exact Or.inl rfl
        · exact Or.inr ⟨List.mem_cons_of_mem _ hp, by rw [← e]; exact srt_ne h p hp⟩
      · rename_i e
        rcases List.mem_cons.1 hp with rfl | hp
        · exact Or.inr ⟨by simp, e⟩
        · rcases mem_putL (List.pairwise_cons.1 h).2 hp with g | ⟨g, g'⟩
          · exact Or.inl g
          · exact Or.inr ⟨List.mem_cons_of_mem _ g, g'⟩

theorem srt_putL : ∀ {l : List (Nm × α)}, srt l → ∀ (k : Nm) (x : α), srt (putL l k x)
  | [], _, k, x => by simp [putL, srt]
  | q :: r, h, k, x => by
    obtain ⟨h1, h2⟩ := List.pairwise_cons.1 h
    unfold putL
    split
    · rename_i hb
      refine List.pairwise_cons.2 ⟨fun p hp => ?_, h⟩
      rcases List.mem_cons.1 hp with rfl | hp
      · exact hb
      · exact bl_trans _ _ _ hb (h1 p hp)
    · split
      · rename_i e
        subst e
        exact List.pairwise_cons.2 ⟨h1, h2⟩
      · rename_i hb e
        refine List.pairwise_cons.2 ⟨fun p hp => ?_, srt_putL h2 k x⟩
        rcases mem_putL h2 hp with rfl | ⟨g, _⟩
        · exact bl_total _ _ (by simpa using hb) (fun e' => e e'.symm)
        · exact h1 p g

theorem getL_putL : ∀ (l : List (Nm × α)) (k : Nm) (x : α) (j : Nm), srt l → getL (putL l k x) j = if k = j then some x else getL l j
  | [], k, x, j, _ => rfl
  | q :: r, k, x, j, h => by
    unfold putL
    split
    · rfl
    · split
      · rename_i e
        show (if k = j then some x else getL r j) = _
        by_cases hj : k = j
        · rw [if_pos hj, if_pos hj]
        · rw [if_neg hj, if_neg hj]
          show _ = if q.1 = j then some q.2 else getL r j
          rw [if_neg (by rw [e]; exact hj)]
      · rename_i e
        show (if q.1 = j then some q.2 else getL (putL r k x) j) = if k = j then some x else if q.1 = j then some q.2 else getL r j
        rw [getL_putL r k x j (List.pairwise_cons.1 h).2]
        by_cases hj : k = j
        · subst hj
          simp [e]
        · simp [hj]

theorem getL_delL : ∀ (l : List (Nm × α)) (k j : Nm), getL (delL l k) j = if k = j then none else getL l j
  | [], k, j => by simp [delL, getL]
  | q :: r, k, j => by
    have ih := getL_delL r k j
    unfold delL at ih ⊢
    rw [List.filter_cons]
    by_cases e : q.1 = k
    · subst e
      simp only [bne_self_eq_false, Bool.false_eq_true, if_false, ih]
      by_cases hj : q.1 = j
      · simp [hj]
      · simp [getL, hj]
    · have e' : (q.1 != k) = true := by simp [e]
      rw [if_pos e']
      simp only [getL, ih]
      by_cases hj : k = j
      · subst hj; simp [e]
      · simp [hj]

theorem length_putL : ∀ (l : List (Nm × α)) (k : Nm) (x : α), srt l → (putL l k x).length = if (getL l k).isSome then l.length else l.length + 1
  | [], k, x, _ => rfl
  | q :: r, k, x, h => by
    unfold putL
    split
    · rename_i hb
      have hn : getL (q :: r) k = none := by
        cases hg : getL (q :: r) k with
        | none => rfl
        | some y =>
          exfalso
          rcases List.mem_cons.1 (getL_mem hg) with e | e
          · rw [← e, bl_irrefl] at hb; cases hb
          · have := bl_trans _ _ _ hb ((List.pairwise_cons.1 h).1 _ e)
            rw [bl_irrefl] at this; cases this
      rw [hn]
      simp
    · split
      · rename_i e
        simp [getL, e]
      · rename_i e
        simp only [getL, e, if_false, List.length_cons, length_putL r k x (List.pairwise_cons.1 h).2]
        split <;> rfl

theorem delL_length (l : List (Nm × α)) (k : Nm) : (delL l k).length ≤ l.length := List.length_filter_le _ _

theorem mem_delL {l : List (Nm × α)} {k : Nm} {p : Nm × α} (h : p ∈ delL l k) : p ∈ l ∧ p.1 ≠ k := by
  have := List.mem_filter.1 h
  exact ⟨this.1, by simpa using this.2⟩

/-- How many, each counted by f. -/
def tot (f : α → Nat) (l : List (Nm × α)) : Nat := (l.map fun p => f p.2).sum
theorem tot_nil (f : α → Nat) : tot f [] = 0 := rfl
theorem tot_cons (f : α → Nat) (p : Nm × α) (r : List (Nm × α)) : tot f (p :: r) = f p.2 + tot f r := by simp [tot]
theorem tot_mapL (g : β → Nat) (f : α → β) (l : List (Nm × α)) : tot g (mapL f l) = tot (fun x => g (f x)) l := by simp [tot, mapL, Function.comp_def]

def gets (f : α → Nat) : Option α → Nat
  | none => 0
  | some x => f x
theorem tot_putL (f : α → Nat) : ∀ (l : List (Nm × α)) (k : Nm) (x : α), srt l → tot f (putL l k x) + gets f (getL l k) = tot f l + f x
  | [], k, x, _ => by simp [putL, tot, gets, getL]
  | q :: r, k, x, h => by
    have hl := length_putL (q :: r) k x h
    unfold putL at hl ⊢
    split at hl
    · have hn : getL (q :: r) k = none := by
        cases hg : getL (q :: r) k with
        | none => rfl
        | some y => rw [hg] at hl; simp at hl
      rename_i hb
      rw [if_pos hb, hn, tot_cons]
      simp only [gets]
      omega
    · rename_i hb
      rw [if_neg hb]
      split
      · rename_i e
        simp only [getL, e, if_true, gets, tot_cons]
        omega
      · rename_i e
        have ih := tot_putL f r k x (List.pairwise_cons.1 h).2
        simp only [getL, e, if_false, tot_cons]
        omega
theorem tot_delL (f : α → Nat) : ∀ (l : List (Nm × α)) (k : Nm), srt l → tot f (delL l k) + gets f (getL l k) = tot f l
  | [], k, _ => by simp [delL, tot, gets, getL]
  | q :: r, k, h => by
    have ih := tot_delL f r k (List.pairwise_cons.1 h).2
    by_cases e : q.1 = k
    · have hr : delL (q :: r) k = r := by
        unfold delL
        rw [List.filter_cons, if_neg (by simp [e]), List.filter_eq_self]
        intro p hp
        have := srt_ne h p hp
        rw [e] at this
        simp [this]
      rw [hr]
      simp only [getL, e, if_true, gets, tot_cons]
      omega
    · have hr : delL (q :: r) k = q :: delL r k := by
        unfold delL
        rw [List.filter_cons, if_pos (by simp [e])]
      rw [hr, tot_cons, tot_cons]
      simp only [getL, e, if_false]
      omega

/-! ### the same list as a map's datum -/
def mapD (l : List (Nm × Value)) : DataW Value := .map (l.map fun p => (.string p.1, .held p.2))

theorem filt_str (l : List (Nm × Value)) (k : Nm) : (l.map fun p => ((.string p.1, .held p.2) : Lit × DataW Value)).filter (fun p => !p.1.sameKey (.string k)) = (delL l k).map fun p => (.string p.1, .held p.2) := by
  simp only [delL, List.filter_map]
  congr 1
theorem ins_str : ∀ (l : List (Nm × Value)) (k : Nm) (v : Value), srt l → DataW.insert (.string k, .held v) ((delL l k).map fun p => ((.string p.1, .held p.2) : Lit × DataW Value)) = (putL l k v).map fun p => (.string p.1, .held p.2)
  | [], k, v, _ => rfl
  | q :: r, k, v, h => by
    have ih := ins_str r k v (List.pairwise_cons.1 h).2
    by_cases e : q.1 = k
    · have hr : delL (q :: r) k = r := by
        unfold delL
        rw [List.filter_cons, if_neg (by simp [e]), List.filter_eq_self]
        intro p hp
        have := srt_ne h p hp
        rw [e] at this
        simp [this]
      have hb : Op.bytesLess k q.1 = false := by rw [e]; exact bl_irrefl k
      rw [hr]
      unfold putL
      rw [if_neg (by simp [hb]), if_pos e]
      cases r with
      | nil => rfl
      | cons p r' =>
        have hp : Op.bytesLess k p.1 = true := by rw [← e]; exact (List.pairwise_cons.1 h).1 p (by simp)
        simp [DataW.insert, Lit.before, bb_eq, hp]
    · have hr : delL (q :: r) k = q :: delL r k := by
        unfold delL
        rw [List.filter_cons, if_pos (by simp [e])]
      rw [hr]
      unfold putL
      by_cases hb : Op.bytesLess k q.1 = true
      · have hd : delL r k = r := by
          unfold delL
          rw [List.filter_eq_self]
          intro p hp
          have h1 := bl_trans _ _ _ hb ((List.pairwise_cons.1 h).1 p hp)
          have : p.1 ≠ k := fun e' => by rw [e', bl_irrefl] at h1; cases h1
          simp [this]
        rw [if_pos hb, hd]
        simp [DataW.insert, Lit.before, bb_eq, hb]
      · rw [if_neg hb, if_neg e]
        simp only [List.map_cons, DataW.insert, Lit.before, bb_eq, hb, if_false, Bool.false_eq_true]
        rw [ih]
theorem mapD_put {l : List (Nm × Value)} (h : srt l) (k : Nm) (v : Value) : (mapD l).put (.string k) (.held v) = mapD (putL l k v) := by
  show DataW.map (DataW.insert (.string k, .held v) (List.filter (fun p => !p.1.sameKey (.string k)) (l.map fun p => ((.string p.1, .held p.2) : Lit × DataW Value)))) = mapD (putL l k v)
  rw [filt_str, ins_str l k v h]
  rfl
theorem mapD_del (l : List (Nm × Value)) (k : Nm) : (mapD l).del (.string k) = mapD (delL l k) := by
  show DataW.map (List.filter (fun p => !p.1.sameKey (.string k)) (l.map fun p => ((.string p.1, .held p.2) : Lit × DataW Value))) = _
  rw [filt_str]
  rfl
theorem mapD_has : ∀ (l : List (Nm × Value)) (k : Nm), has (mapD l) (.string k) = (getL l k).isSome
  | [], _ => rfl
  | p :: r, k => by
    have ih := mapD_has r k
    show List.any ((Lit.string p.1, DataW.held p.2) :: r.map fun p => ((.string p.1, .held p.2) : Lit × DataW Value)) (fun q => q.1.sameKey (.string k)) = Option.isSome (if p.1 = k then some p.2 else getL r k)
    rw [List.any_cons]
    have e1 : (Lit.string p.1).sameKey (.string k) = decide (p.1 = k) := by
      show (p.1 == k) = _
      rw [Bool.eq_iff_iff]
      simp
    rw [e1]
    by_cases e : p.1 = k
    · simp [e]
    · rw [if_neg e, decide_eq_false e, Bool.false_or]
      exact ih
theorem mapD_at : ∀ (l : List (Nm × Value)) (k : Nm) (z : Value), (mapD l).atKey (.string k) (.held z) = .held ((getL l k).getD z)
  | [], _, _ => rfl
  | p :: r, k, z => by
    have ih := mapD_at r k z
    have e1 : (Lit.string p.1).sameKey (.string k) = decide (p.1 = k) := by
      show (p.1 == k) = _
      rw [Bool.eq_iff_iff]
      simp
    simp only [mapD, DataW.atKey, List.map_cons, List.find?_cons, e1, getL] at ih ⊢
    by_cases e : p.1 = k
    · simp [e]
    · simp only [e, decide_false, if_false]
      exact ih
theorem mapD_size (l : List (Nm × Value)) : Maps.size (mapD l) = l.length := by simp [mapD, Maps.size]
theorem mapD_keys (l : List (Nm × Value)) : strKeys (mapD l) = l.map (·.1) := by simp [mapD, strKeys, strOf, Function.comp_def]
theorem keys_sorted {l : List (Nm × α)} (h : srt l) {ss : List Nm} (hp : ss.Perm (l.map (·.1))) : ss.mergeSort (fun x y => decide (x ≤ y)) = l.map (·.1) := by
  have e := mergeSort_of_perm hp
  rw [show (fun x y : Nm => decide (x ≤ y)) = leB from rfl, e]
  refine List.mergeSort_of_pairwise ?_
  rw [List.pairwise_map]
  refine h.imp ?_
  intro a b hab
  rw [bl_lt] at hab
  simp only [leB, decide_eq_true_eq] at hab ⊢
  exact List.le_of_lt hab
end
end Go.Proofs.YtckmjmpajbjbkaaGreatDoor
