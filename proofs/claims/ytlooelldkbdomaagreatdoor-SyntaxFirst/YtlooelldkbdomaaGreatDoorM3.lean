/- Plain mathematics of layer 1: what is reckoned. -/
import Derived.Test.YtlooelldkbdomaaGreatDoorM2
namespace Go.Proofs.YtlooelldkbdomaaGreatDoor

def inR (n : Int) : Bool := decide (-4611686018427387904 ≤ n) && decide (n ≤ 4611686018427387904)
theorem inR_iff {n : Int} : inR n = true ↔ -4611686018427387904 ≤ n ∧ n ≤ 4611686018427387904 := by simp [inR]
theorem inR_not {n : Int} (h : inR n = false) : ¬ (-4611686018427387904 ≤ n ∧ n ≤ 4611686018427387904) := by
  intro g; rw [inR_iff.2 g] at h; cases h

/-- What two numbers come to. -/
def exact2 (op a b : Int) : Int :=
  if op = 1 then a + b else if op = 2 then a - b else if op = 3 then a * b else if op = 4 then a.tdiv b else a.tmod b

theorem adm_zero {kind : Int} {vs : List V3} (h : adm kind vs = 0) : ∀ v ∈ vs, V3.right v = true ∧ (v.1 = kind ∨ v.1 = 0) := by
  unfold adm at h
  split at h
  · rename_i h1
    split at h
    · rename_i h2
      intro v hv
      refine ⟨List.all_eq_true.1 h1 v hv, ?_⟩
      have := List.all_eq_true.1 h2 v hv
      simpa [V3.fits] using this
    · cases h
  · cases h

theorem right_int {v : V3} (h : V3.right v = true) (k : v.1 = 1) : -4611686018427387904 ≤ v.2.1 ∧ v.2.1 ≤ 4611686018427387904 := by
  unfold V3.right rgt at h
  rw [k] at h
  simp at h
  exact h.1

/-- What is reckoned of two: a kind, a number, an error. -/
def arR (op k n : Int) (s : ByteArray) (k' n' : Int) (s' : ByteArray) : Int × Int × Int :=
  if op < 1 ∨ 5 < op then (0, 0, 1)
  else if adm 1 [(k, n, s), (k', n', s')] ≠ 0 then (0, 0, adm 1 [(k, n, s), (k', n', s')])
  else if k = 0 ∨ k' = 0 then (0, 0, 0)
  else if (op = 4 ∨ op = 5) ∧ n' = 0 then (0, 0, 13)
  else if inR (exact2 op n n') then (1, exact2 op n n', 0) else (0, 0, 12)

section
variable {op k n : Int} {s : ByteArray} {k' n' : Int} {s' : ByteArray}
theorem arR_op (h : op < 1 ∨ 5 < op) : arR op k n s k' n' s' = (0, 0, 1) := by unfold arR; rw [if_pos h]
theorem arR_adm (h : ¬ (op < 1 ∨ 5 < op)) (g : adm 1 [(k, n, s), (k', n', s')] ≠ 0) : arR op k n s k' n' s' = (0, 0, adm 1 [(k, n, s), (k', n', s')]) := by
  unfold arR; rw [if_neg h, if_pos g]
theorem arR_null (h : ¬ (op < 1 ∨ 5 < op)) (g : adm 1 [(k, n, s), (k', n', s')] = 0) (j : k = 0 ∨ k' = 0) : arR op k n s k' n' s' = (0, 0, 0) := by
  unfold arR; rw [if_neg h, if_neg (by simp [g]), if_pos j]
theorem arR_zero (h : ¬ (op < 1 ∨ 5 < op)) (g : adm 1 [(k, n, s), (k', n', s')] = 0) (j : ¬ (k = 0 ∨ k' = 0)) (i : (op = 4 ∨ op = 5) ∧ n' = 0) : arR op k n s k' n' s' = (0, 0, 13) := by
  unfold arR; rw [if_neg h, if_neg (by simp [g]), if_neg j, if_pos i]
theorem arR_over (h : ¬ (op < 1 ∨ 5 < op)) (g : adm 1 [(k, n, s), (k', n', s')] = 0) (j : ¬ (k = 0 ∨ k' = 0)) (i : ¬ ((op = 4 ∨ op = 5) ∧ n' = 0)) (r : inR (exact2 op n n') = false) : arR op k n s k' n' s' = (0, 0, 12) := by
  unfold arR; rw [if_neg h, if_neg (by simp [g]), if_neg j, if_neg i, if_neg (by simp [r])]
theorem arR_ok (h : ¬ (op < 1 ∨ 5 < op)) (g : adm 1 [(k, n, s), (k', n', s')] = 0) (j : ¬ (k = 0 ∨ k' = 0)) (i : ¬ ((op = 4 ∨ op = 5) ∧ n' = 0)) (r : inR (exact2 op n n') = true) : arR op k n s k' n' s' = (1, exact2 op n n', 0) := by
  unfold arR; rw [if_neg h, if_neg (by simp [g]), if_neg j, if_neg i, if_pos r]
end

theorem tdiv_le (a b : Int) : (a.tdiv b).natAbs ≤ a.natAbs := by
  rw [Int.natAbs_tdiv]; exact Nat.div_le_self _ _
theorem tmod_le (a b : Int) : (a.tmod b).natAbs ≤ a.natAbs := by
  rw [Int.natAbs_tmod]; exact Nat.mod_le _ _
theorem tdiv_in {a b : Int} (h : -4611686018427387904 ≤ a) (h' : a ≤ 4611686018427387904) : -4611686018427387904 ≤ a.tdiv b ∧ a.tdiv b ≤ 4611686018427387904 := by
  have := tdiv_le a b; omega
theorem tmod_in {a b : Int} (h : -4611686018427387904 ≤ a) (h' : a ≤ 4611686018427387904) : -4611686018427387904 ≤ a.tmod b ∧ a.tmod b ≤ 4611686018427387904 := by
  have := tmod_le a b; omega

/-- A product by the sizes. -/
theorem mul_same {a b : Int} (h : decide (a < 0) = decide (b < 0)) : a * b = ((a.natAbs * b.natAbs : Nat) : Int) := by
  rw [Int.natCast_mul]
  by_cases ha : a < 0
  · have hb : b < 0 := by simpa [ha] using h.symm
    rw [Int.ofNat_natAbs_of_nonpos (by omega), Int.ofNat_natAbs_of_nonpos (by omega), Int.neg_mul_neg]
  · have hb : ¬ b < 0 := by simpa [ha] using h.symm
    rw [Int.natAbs_of_nonneg (by omega), Int.natAbs_of_nonneg (by omega)]
theorem mul_diff {a b : Int} (h : decide (a < 0) ≠ decide (b < 0)) : a * b = -((a.natAbs * b.natAbs : Nat) : Int) := by
  rw [Int.natCast_mul]
  by_cases ha : a < 0
  · have hb : ¬ b < 0 := by intro hb; simp [ha, hb] at h
    rw [Int.ofNat_natAbs_of_nonpos (by omega), Int.natAbs_of_nonneg (by omega)]
    rw [Int.neg_mul, Int.neg_neg]
  · have hb : b < 0 := by rcases Decidable.em (b < 0) with g | g; exact g; simp [ha, g] at h
    rw [Int.natAbs_of_nonneg (by omega), Int.ofNat_natAbs_of_nonpos (by omega)]
    rw [Int.mul_neg, Int.neg_neg]
theorem mul_abs (a b : Int) : (a * b).natAbs = a.natAbs * b.natAbs := Int.natAbs_mul a b
end Go.Proofs.YtlooelldkbdomaaGreatDoor
