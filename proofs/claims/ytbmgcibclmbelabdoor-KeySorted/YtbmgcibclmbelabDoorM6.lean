/- Plain mathematics of layer 1: the order of values is an order. -/
import Derived.Test.YtbmgcibclmbelabDoorM1
namespace Go.Proofs.YtbmgcibclmbelabDoor

/-- How the answers on (a, b), (b, c), (a, c) hang together. -/
structure Ord3 (x y z : Int) : Prop where
  le : x ≤ 0 → y ≤ 0 → z ≤ 0
  lt : x < 0 → y ≤ 0 → z < 0
  lt' : x ≤ 0 → y < 0 → z < 0
  eq : x = 0 → y = 0 → z = 0

theorem ordI_range (a b : Int) : -1 ≤ ordI a b ∧ ordI a b ≤ 1 := by
  unfold ordI; repeat' split <;> omega
theorem ordI_neg (a b : Int) : ordI b a = -ordI a b := by unfold ordI; repeat' split <;> omega
theorem ordI_zero {a b : Int} : ordI a b = 0 ↔ a = b := by unfold ordI; repeat' split <;> omega
theorem ordI_le {a b : Int} : ordI a b ≤ 0 ↔ a ≤ b := by unfold ordI; repeat' split <;> omega
theorem ordI_lt {a b : Int} : ordI a b < 0 ↔ a < b := by unfold ordI; repeat' split <;> omega
theorem ordI_trans (a b c : Int) : Ord3 (ordI a b) (ordI b c) (ordI a c) := by
  refine ⟨?_, ?_, ?_, ?_⟩
  · rw [ordI_le, ordI_le, ordI_le]; omega
  · rw [ordI_lt, ordI_le, ordI_lt]; omega
  · rw [ordI_le, ordI_lt, ordI_lt]; omega
  · rw [ordI_zero, ordI_zero, ordI_zero]; omega

theorem ordS_range (a b : ByteArray) : -1 ≤ ordS a b ∧ ordS a b ≤ 1 := by
  unfold ordS; repeat' split <;> omega
theorem ordS_zero {a b : ByteArray} : ordS a b = 0 ↔ a.toList = b.toList := by
  unfold ordS
  by_cases h : Op.bytesLess a.toList b.toList = true
  · rw [if_pos h]
    refine ⟨fun e => by omega, fun e => ?_⟩
    rw [e, bl_irrefl] at h; cases h
  · rw [if_neg h]
    by_cases g : a.toList = b.toList
    · simp [g]
    · simp [g]
theorem ordS_lt {a b : ByteArray} : ordS a b < 0 ↔ Op.bytesLess a.toList b.toList = true := by
  unfold ordS
  by_cases h : Op.bytesLess a.toList b.toList = true
  · simp [h]
  · rw [if_neg h]
    refine ⟨fun e => ?_, fun e => absurd e h⟩
    split at e <;> omega
theorem ordS_neg (a b : ByteArray) : ordS b a = -ordS a b := by
  by_cases h : a.toList = b.toList
  · rw [ordS_zero.2 h, ordS_zero.2 h.symm]; rfl
  · have h' : ¬ b.toList = a.toList := fun e => h e.symm
    have r := ordS_range a b
    have r' := ordS_range b a
    have e1 : ordS a b ≠ 0 := fun e => h (ordS_zero.1 e)
    have e2 : ordS b a ≠ 0 := fun e => h' (ordS_zero.1 e)
    by_cases g : Op.bytesLess a.toList b.toList = true
    · have g1 := ordS_lt.2 g
      have g2 : ¬ ordS b a < 0 := fun e => by have q := bl_asymm _ _ g; rw [ordS_lt.1 e] at q; cases q
      omega
    · have g1 : ¬ ordS a b < 0 := fun e => g (ordS_lt.1 e)
      have g2 := ordS_lt.2 (bl_total _ _ (by simpa using g) h)
      omega
theorem ordS_trans (a b c : ByteArray) : Ord3 (ordS a b) (ordS b c) (ordS a c) := by
  have tr : ∀ {x y : ByteArray}, ordS x y ≤ 0 → Op.bytesLess x.toList y.toList = true ∨ x.toList = y.toList := by
    intro x y h
    by_cases e : x.toList = y.toList
    · exact Or.inr e
    · exact Or.inl (ordS_lt.1 (by have : ordS x y ≠ 0 := fun q => e (ordS_zero.1 q); omega))
  refine ⟨fun h g => ?_, fun h g => ?_, fun h g => ?_, fun h g => ?_⟩
  · rcases tr h with h | h
    · rcases tr g with g | g
      · have := ordS_lt.2 (bl_trans _ _ _ h g); omega
      · rw [g] at h; have := ordS_lt.2 h; omega
    · rcases tr g with g | g
      · rw [← h] at g; have := ordS_lt.2 g; omega
      · rw [← h] at g; have := ordS_zero.2 g; omega
  · have h := ordS_lt.1 h
    rcases tr g with g | g
    · exact ordS_lt.2 (bl_trans _ _ _ h g)
    · rw [g] at h; exact ordS_lt.2 h
  · have g := ordS_lt.1 g
    rcases tr h with h | h
    · exact ordS_lt.2 (bl_trans _ _ _ h g)
    · rw [← h] at g; exact ordS_lt.2 g
  · rw [ordS_zero] at h g ⊢; rw [h, g]

theorem orI_range {x y z : Int} (h : -1 ≤ x ∧ x ≤ 1) (g : -1 ≤ y ∧ y ≤ 1) (i : -1 ≤ z ∧ z ≤ 1) : -1 ≤ orI x y z ∧ orI x y z ≤ 1 := by
  unfold orI; split
  · split <;> omega
  · omega
theorem orI_neg (x y z : Int) : orI (-x) (-y) (-z) = -orI x y z := by unfold orI; repeat' split <;> omega
theorem orI_zero {x y z : Int} : orI x y z = 0 ↔ x = 0 ∧ y = 0 ∧ z = 0 := by unfold orI; repeat' split <;> omega
def or2 (x y : Int) : Int := if x = 0 then y else x
theorem orI_or2 (x y z : Int) : orI x y z = or2 x (or2 y z) := rfl
theorem or2_trans {x y x' y' x2 y2 : Int} (h : Ord3 x x' x2) (g : Ord3 y y' y2) : Ord3 (or2 x y) (or2 x' y') (or2 x2 y2) := by
  obtain ⟨h1, h2, h3, h4⟩ := h
  obtain ⟨g1, g2, g3, g4⟩ := g
  constructor
  all_goals
    unfold or2
    intro p q
    split at p <;> split at q <;> split <;> omega
theorem orI_trans {x y z x' y' z' x2 y2 z2 : Int} (h : Ord3 x x' x2) (g : Ord3 y y' y2) (i : Ord3 z z' z2) : Ord3 (orI x y z) (orI x' y' z') (orI x2 y2 z2) := by
  rw [orI_or2, orI_or2, orI_or2]; exact or2_trans h (or2_trans g i)

section
variable (k n : Int) (s : ByteArray) (k' n' : Int) (s' : ByteArray) (k2 n2 : Int) (s2 : ByteArray)
theorem ordV_range : -1 ≤ ordV k n s k' n' s' ∧ ordV k n s k' n' s' ≤ 1 := orI_range (ordI_range _ _) (ordI_range _ _) (ordS_range _ _)
theorem ordV_neg : ordV k' n' s' k n s = -ordV k n s k' n' s' := by unfold ordV; rw [ordI_neg k k', ordI_neg n n', ordS_neg s s', orI_neg]
theorem ordV_zero : ordV k n s k' n' s' = 0 ↔ k = k' ∧ n = n' ∧ s.toList = s'.toList := by unfold ordV; rw [orI_zero, ordI_zero, ordI_zero, ordS_zero]
theorem ordV_trans : Ord3 (ordV k n s k' n' s') (ordV k' n' s' k2 n2 s2) (ordV k n s k2 n2 s2) := orI_trans (ordI_trans _ _ _) (ordI_trans _ _ _) (ordS_trans _ _ _)
end
end Go.Proofs.YtbmgcibclmbelabDoor
