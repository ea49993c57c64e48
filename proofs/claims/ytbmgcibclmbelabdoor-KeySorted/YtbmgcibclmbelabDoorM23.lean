/- Plain mathematics of layer 2: what is read at the front of a text. -/
import Derived.Test.YtbmgcibclmbelabDoorM21
namespace Go.Proofs.YtbmgcibclmbelabDoor

theorem head_null {u : V3} {c : UInt8} {l : List UInt8} (hu : V3.right u = true) (h : kb u <+: c :: l) (hc : c = 1) : u = (0, 0, ⟨#[]⟩) := by
  obtain ⟨t, h⟩ := h
  subst hc
  rcases right_kind hu with k | k | k | k
  · obtain ⟨a, b⟩ := right_null hu k
    exact v3_ext k a b
  all_goals (first | rw [kb_int k] at h | rw [kb_bool k] at h | rw [kb_text k] at h)
  all_goals simp at h
theorem head_int {u : V3} {c : UInt8} {l : List UInt8} (hu : V3.right u = true) (h : kb u <+: c :: l) (hc : c = 2) : u.1 = 1 ∧ be8 (u.2.1 + 9223372036854775808).toNat <+: l := by
  obtain ⟨t, h⟩ := h
  subst hc
  rcases right_kind hu with k | k | k | k
  · rw [kb_null k] at h; simp at h
  · rw [kb_int k, List.cons_append] at h
    exact ⟨k, t, (List.cons.inj h).2⟩
  · rw [kb_bool k] at h; simp at h
  · rw [kb_text k] at h; simp at h
theorem head_bool {u : V3} {c : UInt8} {l : List UInt8} (hu : V3.right u = true) (h : kb u <+: c :: l) (hc : c = 3) : u.1 = 2 ∧ [UInt8.ofNat u.2.1.toNat] <+: l := by
  obtain ⟨t, h⟩ := h
  subst hc
  rcases right_kind hu with k | k | k | k
  · rw [kb_null k] at h; simp at h
  · rw [kb_int k] at h; simp at h
  · rw [kb_bool k] at h
    exact ⟨k, t, (List.cons.inj h).2⟩
  · rw [kb_text k] at h; simp at h
theorem head_text {u : V3} {c : UInt8} {l : List UInt8} (hu : V3.right u = true) (h : kb u <+: c :: l) (hc : c = 4) : u.1 = 3 ∧ ∃ t, esc u.2.2.data.toList ++ 0 :: 0 :: t = l := by
  obtain ⟨t, h⟩ := h
  subst hc
  rcases right_kind hu with k | k | k | k
  · rw [kb_null k] at h; simp at h
  · rw [kb_int k] at h; simp at h
  · rw [kb_bool k] at h; simp at h
  · rw [kb_text k, List.cons_append] at h
    exact ⟨k, t, by have := (List.cons.inj h).2; simpa using this⟩
theorem head_none {u : V3} {c : UInt8} {l : List UInt8} (hu : V3.right u = true) (h : kb u <+: c :: l) (h1 : c ≠ 1) (h2 : c ≠ 2) (h3 : c ≠ 3) (h4 : c ≠ 4) : False := by
  obtain ⟨t, h⟩ := h
  rcases right_kind hu with k | k | k | k
  · rw [kb_null k] at h; simp at h; exact h1 h.1.symm
  · rw [kb_int k] at h; simp at h; exact h2 h.1.symm
  · rw [kb_bool k] at h; simp at h; exact h3 h.1.symm
  · rw [kb_text k] at h; simp at h; exact h4 h.1.symm

/-- What the document reads at the front of a text: a value and how many bytes it takes. -/
def RR (s : List UInt8) (v : V3) (n : Nat) : Prop := 0 < n ∧ n ≤ s.length + 2 ∧ ∀ u, V3.right u = true → kb u <+: s → u = v ∧ n = (kb u).length

theorem rv_none {c : UInt8} {l : List UInt8} (v : V3) (h1 : c ≠ 1) (h2 : c ≠ 2) (h3 : c ≠ 3) (h4 : c ≠ 4) : RV (c :: l) v 0 := Or.inl ⟨rfl, fun _ hu h => head_none hu h h1 h2 h3 h4⟩
theorem rv_null {c : UInt8} {l : List UInt8} (hc : c = 1) : RV (c :: l) (0, 0, ⟨#[]⟩) 1 := by
  refine Or.inr ⟨by decide, by simp, fun u hu h => ?_, fun _ => by rw [hc]; rfl⟩
  obtain rfl := head_null hu h hc
  exact ⟨rfl, rfl⟩
theorem rv_short {c : UInt8} {l : List UInt8} (v : V3) (hc : c = 2) (hl : l.length < 8) : RV (c :: l) v 0 := by
  refine Or.inl ⟨rfl, fun u hu h => ?_⟩
  obtain ⟨_, h⟩ := head_int hu h hc
  have := h.length_le
  rw [be8_length] at this
  omega
theorem int_read {u : V3} {l : List UInt8} (hu : V3.right u = true) (k : u.1 = 1) (h : be8 (u.2.1 + 9223372036854775808).toNat <+: l) : u = (1, (val8 (l.take 8) : Int) - 9223372036854775808, ⟨#[]⟩) := by
  obtain ⟨a, b, c⟩ := right_num hu k
  obtain ⟨t, rfl⟩ := h
  have e : (be8 (u.2.1 + 9223372036854775808).toNat ++ t).take 8 = be8 (u.2.1 + 9223372036854775808).toNat := List.take_left' (be8_length _)
  rw [e, val8_be8 (by omega)]
  exact v3_ext k (by show u.2.1 = ((u.2.1 + 9223372036854775808).toNat : Int) - 9223372036854775808; omega) c
theorem rv_int {c : UInt8} {l : List UInt8} (hc : c = 2) (hl : 8 ≤ l.length) : RV (c :: l) (1, (val8 (l.take 8) : Int) - 9223372036854775808, ⟨#[]⟩) 9 := by
  refine Or.inr ⟨by decide, by simp; omega, fun u hu h => ?_, fun _ => ?_⟩
  · obtain ⟨k, h⟩ := head_int hu h hc
    have e := int_read hu k h
    exact ⟨e, by rw [kb_int k]; rfl⟩
  · rw [kb_int rfl]
    have e : ((val8 (l.take 8) : Int) - 9223372036854775808 + 9223372036854775808).toNat = val8 (l.take 8) := by omega
    simp only [e]
    rw [be8_val8 (by simp; omega), hc]
    rfl
theorem rv_bool1 {c : UInt8} {l : List UInt8} (v : V3) (hc : c = 3) (hl : l.length < 1) : RV (c :: l) v 0 := by
  refine Or.inl ⟨rfl, fun u hu h => ?_⟩
  obtain ⟨_, h⟩ := head_bool hu h hc
  have := h.length_le
  simp at this
  omega
theorem bool_read {u : V3} {d : UInt8} {l : List UInt8} (hu : V3.right u = true) (k : u.1 = 2) (h : [UInt8.ofNat u.2.1.toNat] <+: d :: l) : u = (2, (d.toNat : Int), ⟨#[]⟩) := by
  obtain ⟨a, b⟩ := right_bool hu k
  obtain ⟨t, h⟩ := h
  have e := (List.cons.inj h).1
  refine v3_ext k ?_ b
  show u.2.1 = (d.toNat : Int)
  rw [← e]
  rcases a with a | a <;> rw [a] <;> rfl
theorem rv_bool {c d : UInt8} {l : List UInt8} (hc : c = 3) : RV (c :: d :: l) (2, (d.toNat : Int), ⟨#[]⟩) 2 := by
  refine Or.inr ⟨by decide, by simp, fun u hu h => ?_, fun _ => ?_⟩
  · obtain ⟨k, h⟩ := head_bool hu h hc
    exact ⟨bool_read hu k h, by rw [kb_bool k]; rfl⟩
  · rw [kb_bool rfl, hc]
    simp
theorem rv_text0 {s xs r : List UInt8} (v : V3) (h : s = 4 :: (esc xs ++ r)) (hr : Ends r) (hn : ∀ t, r ≠ 0 :: 0 :: t) : RV s v 0 := by
  refine Or.inl ⟨rfl, fun u hu g => ?_⟩
  subst h
  obtain ⟨_, t, e⟩ := head_text hu g rfl
  exact hn t (esc_inj _ _ _ _ (ends_zero t) hr e).2.symm
theorem text_read {u : V3} {xs r l : List UInt8} (hu : V3.right u = true) (hr : Ends r) (g : kb u <+: l) (h : l = 4 :: (esc xs ++ r)) : u = (3, 0, ⟨xs.toArray⟩) ∧ (kb u).length = (esc xs).length + 3 := by
  subst h
  obtain ⟨k, t, e⟩ := head_text hu g rfl
  obtain ⟨rfl, _⟩ := esc_inj _ _ _ _ (ends_zero t) hr e
  obtain ⟨a, _⟩ := right_text hu k
  exact ⟨v3_ext k a (ba_ext (by simp)), by rw [kb_text k]; simp⟩
theorem rv_text {s xs t : List UInt8} (h : s = 4 :: (esc xs ++ 0 :: 0 :: t)) : RV s (3, 0, ⟨xs.toArray⟩) ((esc xs).length + 3) := by
  refine Or.inr ⟨by omega, by rw [h]; simp, fun u hu g => ?_, fun _ => ?_⟩
  · obtain ⟨e, f⟩ := text_read hu (ends_zero t) g h
    exact ⟨e, f.symm⟩
  · have e : (4 :: (esc xs ++ [0, 0])) ++ t = 4 :: (esc xs ++ 0 :: 0 :: t) := by simp
    rw [kb_text rfl, h, ← e]
    refine List.take_left' ?_
    simp
theorem ends_one : Ends [0] := Or.inr ⟨[], rfl, fun d q e => by simp at e⟩
theorem ends_other {d : UInt8} (h : d ≠ 255) (l : List UInt8) : Ends (0 :: d :: l) := Or.inr ⟨_, rfl, fun x q e => by rw [(List.cons.inj e).1.symm]; exact h⟩

theorem rr_none {c : UInt8} {l : List UInt8} (v : V3) (h1 : c ≠ 1) (h2 : c ≠ 2) (h3 : c ≠ 3) (h4 : c ≠ 4) : RR (c :: l) v 1 := ⟨by decide, by simp, fun _ hu h => (head_none hu h h1 h2 h3 h4).elim⟩
theorem rr_null {c : UInt8} {l : List UInt8} (hc : c = 1) : RR (c :: l) (0, 0, ⟨#[]⟩) 1 := by
  refine ⟨by decide, by simp, fun u hu h => ?_⟩
  obtain rfl := head_null hu h hc
  exact ⟨rfl, rfl⟩
theorem rr_int {c : UInt8} {l : List UInt8} (hc : c = 2) (x : Int) (n : Nat) (hn : n = min 9 (l.length + 1)) (hx : 8 ≤ l.length → x = (val8 (l.take 8) : Int) - 9223372036854775808) : RR (c :: l) (1, x, ⟨#[]⟩) n := by
  refine ⟨by omega, by simp; omega, fun u hu h => ?_⟩
  obtain ⟨k, h⟩ := head_int hu h hc
  have hl := h.length_le
  rw [be8_length] at hl
  rw [hx hl]
  exact ⟨int_read hu k h, by rw [kb_int k, hn]; simp [be8_length]; omega⟩
theorem rr_bool1 {c : UInt8} (v : V3) (hc : c = 3) : RR [c] v 1 := by
  refine ⟨by decide, by simp, fun u hu h => ?_⟩
  obtain ⟨_, h⟩ := head_bool hu h hc
  simp at h
theorem rr_bool {c d : UInt8} {l : List UInt8} (hc : c = 3) : RR (c :: d :: l) (2, (d.toNat : Int), ⟨#[]⟩) 2 := by
  refine ⟨by decide, by simp, fun u hu h => ?_⟩
  obtain ⟨k, h⟩ := head_bool hu h hc
  exact ⟨bool_read hu k h, by rw [kb_bool k]; rfl⟩
theorem rr_text {s xs r : List UInt8} (h : s = 4 :: (esc xs ++ r)) (hr : Ends r) : RR s (3, 0, ⟨xs.toArray⟩) ((esc xs).length + 3) := by
  refine ⟨by omega, by rw [h]; simp, fun u hu g => ?_⟩
  obtain ⟨e, f⟩ := text_read hu hr g h
  exact ⟨e, f.symm⟩
end Go.Proofs.YtbmgcibclmbelabDoor
