/- Plain mathematics of layer 19: the chapter's example. -/
import Derived.Test.YtefdhmdkcpgfcaaM190
namespace Go.Proofs.Ytefdhmdkcpgfcaa
open Go
def lkW : Lk := ⟨0, ⟨#[97]⟩, ⟨#[98]⟩, true⟩
def lkRd : Lk := ⟨0, ⟨#[97]⟩, ⟨#[99]⟩, false⟩
theorem lkWR : lkM lkW lkRd = true := by
  unfold lkM maxB endB noB ltB lkW lkRd
  simp only [ByteArray.toList_eq]
  decide
theorem lkRW : lkM lkRd lkW = true := by rw [lkM_comm]; exact lkWR
theorem lkRR : lkM lkRd lkRd = false := by
  unfold lkM lkRd
  simp
theorem right_lkW : lkR lkW = true := by
  unfold lkR noB ltB lkW
  simp only [ByteArray.toList_eq]
  decide
theorem right_lkRd : lkR lkRd = true := by
  unfold lkR noB ltB lkRd
  simp only [ByteArray.toList_eq]
  decide
def exT1 : Tb9 := ⟨[⟨3, [lkW]⟩], 3⟩
def exT2 : Tb9 := ⟨[⟨3, [lkW]⟩, ⟨5, [lkRd]⟩], 5⟩
theorem ask1 : askE t90 3 [lkW] = 0 ∧ askT t90 3 [lkW] = exT1 := by
  have h : askE t90 3 [lkW] = 0 := by unfold askE t90; simp [right_lkW]
  exact ⟨h, if_pos h⟩
theorem ask2 : askE exT1 5 [lkRd] = 0 ∧ askT exT1 5 [lkRd] = exT2 := by
  have h : askE exT1 5 [lkRd] = 0 := by unfold askE exT1; simp [right_lkRd]
  exact ⟨h, if_pos h⟩
theorem ask3 : askE exT2 4 [] = 1 ∧ askT exT2 4 [] = exT2 := by
  have h : askE exT2 4 [] = 1 := by unfold askE exT2; simp
  exact ⟨h, if_neg (by rw [h]; decide)⟩
theorem exW : waitI exT2 1 = [3] := by
  unfold waitI waitL exT2
  simp [anyM, lkRW]
theorem exG0 : grntI exT2 0 = true := by
  unfold grntI waitI waitL exT2
  simp
theorem exG1 : grntI exT2 1 = false := by
  unfold grntI
  rw [exW]
  rfl
theorem exReady : grntL exT2 = [3] := by
  unfold grntL
  rw [show exT2.ps.length = 2 from rfl, show List.range 2 = [0, 1] from rfl]
  simp [exG0, exG1]
  rfl
theorem exAt : atI exT2 5 = some 1 := by
  unfold atI exT2
  simp [List.findIdx?_cons]
theorem exWaits : waitR exT2 5 = ([3], 0) := by
  unfold waitR
  rw [exAt]
  exact congrArg (fun l => (l, (0 : Int))) exW
theorem exFree : freeE exT2 5 = 1 := by
  unfold freeE isGr
  rw [exAt]
  show (if grntI exT2 1 = true then _ else _) = _
  rw [exG1]
  rfl
end Go.Proofs.Ytefdhmdkcpgfcaa
