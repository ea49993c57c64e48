/- Plain mathematics of layer 2: lists sorted by their keys' bytes; one more put into its place. -/
import Derived.Test.YtbmgcibclmbelabDoorM21
namespace Go.Proofs.YtbmgcibclmbelabDoor

/-- Not behind. -/
def Ahead {α : Type} (f : α → List UInt8) (a b : α) : Prop := Op.bytesLess (f b) (f a) = false
theorem ahead_trans {α : Type} {f : α → List UInt8} {a b c : α} (h : Ahead f a b) (g : Ahead f b c) : Ahead f a c := by
  unfold Ahead at *
  cases e : Op.bytesLess (f c) (f a) with
  | false => rfl
  | true =>
    exfalso
    by_cases q : f b = f a
    · rw [q, e] at g; exact absurd g (by simp)
    · have t := bl_total _ _ h q
      rw [bl_trans _ _ _ e t] at g
      exact absurd g (by simp)
theorem ahead_of {α : Type} {f : α → List UInt8} {a b : α} (h : Op.bytesLess (f a) (f b) = true) : Ahead f a b := bl_asymm _ _ h

/-- A list whose k-th place has one more. -/
def put {α : Type} (l : List α) (k : Nat) (r : α) : List α := l.take k ++ r :: l.drop k
theorem put_length {α : Type} (l : List α) (k : Nat) (r : α) (h : k ≤ l.length) : (put l k r).length = l.length + 1 := by
  unfold put; simp; omega
theorem put_end {α : Type} (l : List α) (r : α) : put l l.length r = l ++ [r] := by unfold put; simp
theorem put_at {α : Type} (l : List α) (k : Nat) (r : α) (h : k ≤ l.length) : (put l k r)[k]? = some r := by
  unfold put
  rw [List.getElem?_append_right (by simp; omega)]
  have : k - (l.take k).length = 0 := by rw [List.length_take]; omega
  rw [this]; rfl
theorem put_before {α : Type} (l : List α) (k : Nat) (r : α) (h : k < l.length) : (put l (k + 1) r)[k]? = some l[k] := by
  unfold put
  rw [List.getElem?_append_left (by simp; omega), List.getElem?_take_of_lt (by omega), List.getElem?_eq_getElem h]
theorem put_step {α : Type} (l : List α) (k : Nat) (r : α) (h : k < l.length) : ((put l (k + 1) r).set (k + 1) l[k]).set k r = put l k r := by
  apply List.ext_getElem?
  intro j
  have hl1 := put_length l (k + 1) r (by omega)
  have hl2 := put_length l k r (by omega)
  unfold put at *
  by_cases h1 : j = k
  · subst h1
    rw [List.getElem?_set_self (by simp; omega)]
    rw [List.getElem?_append_right (by simp; omega)]
    have : j - (l.take j).length = 0 := by rw [List.length_take]; omega
    rw [this]; rfl
  · rw [List.getElem?_set_ne (by omega)]
    by_cases h2 : j = k + 1
    · subst h2
      rw [List.getElem?_set_self (by simp; omega)]
      rw [List.getElem?_append_right (by simp; omega)]
      have : k + 1 - (l.take k).length = 1 := by rw [List.length_take]; omega
      rw [this, List.getElem?_cons_succ, List.getElem?_drop]
      simp [h]
    · rw [List.getElem?_set_ne (by omega)]
      by_cases h3 : j < k
      · rw [List.getElem?_append_left (by simp; omega), List.getElem?_append_left (by simp; omega), List.getElem?_take_of_lt (by omega), List.getElem?_take_of_lt (by omega)]
      · rw [List.getElem?_append_right (by simp; omega), List.getElem?_append_right (by simp; omega)]
        have e1 : j - (l.take (k + 1)).length = (j - k - 2) + 1 := by rw [List.length_take]; omega
        have e2 : j - (l.take k).length = (j - k - 1) + 1 := by rw [List.length_take]; omega
        rw [e1, e2, List.getElem?_cons_succ, List.getElem?_cons_succ, List.getElem?_drop, List.getElem?_drop]
        congr 1
        omega
theorem put_map {α β : Type} (g : α → β) (l : List α) (k : Nat) (r : α) : (put l k r).map g = put (l.map g) k (g r) := by
  unfold put; simp [List.map_take, List.map_drop]
theorem put_mem {α : Type} {l : List α} {k : Nat} {r x : α} (h : x ∈ put l k r) : x = r ∨ x ∈ l := by
  unfold put at h
  rcases List.mem_append.1 h with h | h
  · exact Or.inr (List.mem_of_mem_take h)
  · rcases List.mem_cons.1 h with h | h
    · exact Or.inl h
    · exact Or.inr (List.mem_of_mem_drop h)
theorem put_sorted {α : Type} {f : α → List UInt8} {l : List α} {k : Nat} {r : α} (hk : k ≤ l.length) (hs : l.Pairwise (Ahead f)) (hd : ∀ x ∈ l.drop k, Op.bytesLess (f r) (f x) = true) (hb : ∀ j (h : j < l.length), j + 1 = k → Ahead f l[j] r) : (put l k r).Pairwise (Ahead f) := by
  unfold put
  have hs' := hs
  rw [← List.take_append_drop k l, List.pairwise_append] at hs
  obtain ⟨h1, h2, h3⟩ := hs
  have ht : ∀ a ∈ l.take k, Ahead f a r := by
    intro a ha
    obtain ⟨j, hj, rfl⟩ := List.getElem_of_mem ha
    rw [List.length_take] at hj
    rw [List.getElem_take]
    match k, hk, hb, hj with
    | k + 1, hk, hb, hj =>
      by_cases e : j = k
      · subst e; exact hb j (by omega) rfl
      · exact ahead_trans (List.pairwise_iff_getElem.1 hs' j k (by omega) (by omega) (by omega)) (hb k (by omega) rfl)
  rw [List.pairwise_append]
  refine ⟨h1, List.pairwise_cons.2 ⟨fun b hb => ahead_of (hd b hb), h2⟩, ?_⟩
  intro a ha b hb
  rcases List.mem_cons.1 hb with rfl | hb
  · exact ht a ha
  · exact h3 a ha b hb
end Go.Proofs.YtbmgcibclmbelabDoor
