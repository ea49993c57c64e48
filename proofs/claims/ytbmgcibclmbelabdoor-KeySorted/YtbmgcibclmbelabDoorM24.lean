/- Plain mathematics of layer 2: the document's way of reading a key. -/
import Derived.Test.YtbmgcibclmbelabDoorM23
namespace Go.Proofs.YtbmgcibclmbelabDoor

/-- Whatever the values of a text are, those read so far begin them, and take so many bytes. -/
def RD (s : List UInt8) (vs : List V3) (k : Nat) : Prop := ∀ us, KeyOf s us → vs <+: us ∧ k = (kbs vs).length
theorem rd_start (s : List UInt8) : RD s [] 0 := fun _ _ => ⟨List.nil_prefix, rfl⟩
theorem rd_rest {s : List UInt8} {vs us : List V3} {k : Nat} (h : RD s vs k) (hu : KeyOf s us) : ∃ us', us = vs ++ us' ∧ kbs us' = s.drop k := by
  obtain ⟨⟨us', rfl⟩, hk⟩ := h us hu
  refine ⟨us', rfl, ?_⟩
  have := hu.2.2
  rw [kbs_append] at this
  rw [← this, hk, List.drop_left]
theorem rd_step {s : List UInt8} {vs : List V3} {k n : Nat} {v : V3} (h : RD s vs k) (hk : k < s.length) (r : RR (s.drop k) v n) : RD s (vs ++ [v]) (k + n) := by
  intro us hu
  obtain ⟨us', rfl, e⟩ := rd_rest h hu
  have hk2 := (h _ hu).2
  cases us' with
  | nil =>
    have := congrArg List.length e
    rw [kbs_nil, List.length_drop] at this
    simp at this
    omega
  | cons u us' =>
    rw [kbs_cons] at e
    obtain ⟨rfl, hn⟩ := r.2.2 u (hu.2.1 u (by simp)) ⟨_, e⟩
    refine ⟨⟨us', by simp⟩, ?_⟩
    rw [kbs_append, kbs_one, List.length_append, ← hk2, hn]
theorem rd_end {s : List UInt8} {vs us : List V3} {k : Nat} (h : RD s vs k) (he : s.length ≤ k ∨ 8 < vs.length) (hu : KeyOf s us) : us = vs := by
  obtain ⟨us', rfl, e⟩ := rd_rest h hu
  have h8 := hu.1
  rw [List.length_append] at h8
  rcases he with he | he
  · cases us' with
    | nil => simp
    | cons u us' =>
      rw [List.drop_of_length_le he, kbs_cons] at e
      have := kb_pos u
      rw [List.append_eq_nil_iff] at e
      rw [e.1] at this
      simp at this
  · omega
theorem rd_no {s : List UInt8} {vs : List V3} {k : Nat} (h : RD s vs k) (he : s.length ≤ k ∨ 8 < vs.length) (hn : ¬ ((encR vs).2 = 0 ∧ (encR vs).1 = s)) : ∀ us, ¬ KeyOf s us := by
  intro us hu
  obtain rfl := rd_end h he hu
  apply hn
  have : encR us = (kbs us, 0) := encR_ok (by have := hu.1; omega) (fun i hi => hu.2.1 _ (List.getElem_mem hi))
  rw [this]
  exact ⟨rfl, hu.2.2⟩
theorem rd_yes {s : List UInt8} {vs : List V3} (h : (encR vs).2 = 0) (g : (encR vs).1 = s) : KeyOf s vs := by
  obtain ⟨a, b, c⟩ := encR_zero h
  exact ⟨a, b, by rw [← c, g]⟩
end Go.Proofs.YtbmgcibclmbelabDoor
