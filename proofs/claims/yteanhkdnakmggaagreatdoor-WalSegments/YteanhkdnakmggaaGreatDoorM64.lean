/- Layer 6, without the program: the chapter's first example. -/
import Derived.Test.YteanhkdnakmggaaGreatDoorM61
import Derived.KernelRfl
namespace Go.Proofs.YteanhkdnakmggaaGreatDoor
open Go

def a0 : St := ⟨1000, [], 0, -1, false⟩
def l0 : Lg := ⟨2, 5, 5, []⟩
def q1 : (Int × Int) × St × Lg := appendL a0 l0 [97]
def q2 : (Int × Int) × St × Lg := appendL q1.2.1 q1.2.2 [98]
def q3 : (Int × Int) × St × Lg := appendL q2.2.1 q2.2.2 [99]
theorem aw_open : openR a0 5 2 = (0, a0, some l0) := by kernel_rfl
theorem aw_1 : q1.1 = (5, 0) ∧ q1.2.1.steps = 1 ∧ q1.2.2.segs.isEmpty = false := ⟨by kernel_rfl, by kernel_rfl, by kernel_rfl⟩
theorem aw_2 : q2.1 = (6, 0) ∧ q2.2.1.steps = 2 ∧ q2.2.2.segs.isEmpty = false := ⟨by kernel_rfl, by kernel_rfl, by kernel_rfl⟩
theorem aw_3 : q3.1 = (7, 0) ∧ q3.2.2.safe = 7 ∧ q3.2.2.next = 8 := ⟨by kernel_rfl, by kernel_rfl, by kernel_rfl⟩
theorem aw_r6 : readL q3.2.2 6 = ([98], 0) := by kernel_rfl
theorem aw_r8 : readL q3.2.2 8 = ([], 61) := by kernel_rfl
theorem aw_fs : q3.2.1.fs = [([108, 111, 103, 46, 48, 48, 48, 48, 48, 48, 48, 48, 48, 48, 48, 53], (cat [[97], [98]], 14)), ([108, 111, 103, 46, 48, 48, 48, 48, 48, 48, 48, 48, 48, 48, 48, 55], (cat [[99]], 0))] := by kernel_rfl
theorem ne_of_empty {l : List Sg} (h : l.isEmpty = false) {P : Prop} : l = [] → P := fun e => by
  rw [e] at h
  cases h
end Go.Proofs.YteanhkdnakmggaaGreatDoor
