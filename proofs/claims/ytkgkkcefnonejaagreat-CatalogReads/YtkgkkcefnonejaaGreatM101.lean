/- Layer 8, without the program: numbers out of their digits. -/
import Derived.Test.YtkgkkcefnonejaaGreatM100
namespace Go.Proofs.YtkgkkcefnonejaaGreat
open Go

/-- The number that digits make. -/
def lo : List UInt8 → Nat
  | [] => 0
  | c :: l => c.toNat % 128 + 128 * lo l
theorem lo_snoc (c : UInt8) : ∀ l : List UInt8, lo (l ++ [c]) = lo l + 128 ^ l.length * (c.toNat % 128)
  | [] => by simp [lo]
  | d :: l => by
    rw [List.cons_append, lo, lo, lo_snoc c l, List.length_cons, Nat.pow_succ, Nat.mul_add, Nat.mul_comm (128 ^ l.length) 128, Nat.mul_assoc]
    omega
theorem lo_lt : ∀ l : List UInt8, lo l < 128 ^ l.length
  | [] => by simp [lo]
  | d :: l => by
    have := lo_lt l
    rw [lo, List.length_cons, Nat.pow_succ]
    omega
theorem lo_num {m : Nat} (h : m < 2097152) : lo (num m) = m := by
  by_cases h1 : m < 128
  · rw [num_last h1]
    simp [lo]
    omega
  · rw [num_step (by omega) h]
    by_cases h2 : m / 128 < 128
    · rw [num_last h2]
      simp [lo]
      omega
    · rw [num_step (n := m / 128) (by omega) (by omega), num_last (n := m / 128 / 128) (by omega)]
      simp [lo]
      omega
/-- The first digit below 128 is the last one. -/
theorem num_front (c : UInt8) (q t : List UInt8) (hc : c.toNat < 128) : ∀ (p : List UInt8) (m : Nat), m < 2097152 → (∀ b ∈ p, 128 ≤ b.toNat) → num m ++ t = p ++ c :: q → num m = p ++ [c] ∧ t = q
  | [], m, hm, _, h => by
    by_cases h1 : m < 128
    · rw [num_last h1] at h ⊢
      simp at h
      exact ⟨by rw [h.1]; rfl, h.2⟩
    · rw [num_step (by omega) hm] at h
      simp only [List.cons_append, List.nil_append, List.cons.injEq] at h
      have := congrArg UInt8.toNat h.1
      rw [UInt8.toNat_ofNat'] at this
      omega
  | b :: p, m, hm, hp, h => by
    by_cases h1 : m < 128
    · rw [num_last h1] at h
      simp only [List.cons_append, List.nil_append, List.cons.injEq] at h
      have h2 := hp b List.mem_cons_self
      rw [← h.1, UInt8.toNat_ofNat'] at h2
      omega
    · rw [num_step (by omega) hm] at h ⊢
      simp only [List.cons_append, List.cons.injEq] at h
      obtain ⟨e1, e2⟩ := num_front c q t hc p (m / 128) (by omega) (fun x hx => hp x (List.mem_cons_of_mem _ hx)) h.2
      exact ⟨by rw [e1, h.1]; rfl, e2⟩
/-- A number has a digit below 128. -/
theorem num_has {m : Nat} (hm : m < 2097152) : ∃ b ∈ num m, b.toNat < 128 := by
  by_cases h1 : m < 128
  · exact ⟨_, by rw [num_last h1]; exact List.mem_singleton.2 rfl, by rw [UInt8.toNat_ofNat']; omega⟩
  · rw [num_step (by omega) hm]
    by_cases h2 : m / 128 < 128
    · exact ⟨_, List.mem_cons_of_mem _ (by rw [num_last h2]; exact List.mem_singleton.2 rfl), by rw [UInt8.toNat_ofNat']; omega⟩
    · rw [num_step (n := m / 128) (by omega) (by omega), num_last (n := m / 128 / 128) (by omega)]
      exact ⟨_, List.mem_cons_of_mem _ (List.mem_cons_of_mem _ (List.mem_singleton.2 rfl)), by rw [UInt8.toNat_ofNat']; omega⟩

/-! ### reading back -/
/-- Whatever right thing's bytes a text begins with, that was read, and its bytes are gone. -/
def Rd {α : Type} (E : α → List UInt8) (ok : α → Prop) (s : List UInt8) (a : α) (s' : List UInt8) : Prop := ∀ x y, ok x → s = E x ++ y → a = x ∧ s' = y
end Go.Proofs.YtkgkkcefnonejaaGreat
