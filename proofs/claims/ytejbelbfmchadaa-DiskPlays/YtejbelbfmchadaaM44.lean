/- Layer 4, without the program: the chapter's first example. -/
import Derived.Test.YtejbelbfmchadaaM43
import Derived.KernelRfl
namespace Go.Proofs.Ytejbelbfmchadaa
open Go

def aw0 : St := ⟨10, [], 0, -1, false⟩
def aw1 : St := ⟨10, [([97], ([120, 121, 122], 0))], 1, -1, false⟩
def aw2 : St := ⟨10, [([97], ([120, 121, 122], 3))], 2, -1, false⟩
def aw3 : St := ⟨10, [([97], ([120, 121, 122, 49, 50, 51], 3))], 3, -1, false⟩
def aw4 : St := ⟨10, [([97], ([120, 121, 122, 49, 50], 5))], 3, -1, false⟩
theorem aw_new : newE 10 [] = 0 ∧ newSt 10 [] = aw0 := ⟨by decide, rfl⟩
theorem aw_app : appR aw0 [97] [120, 121, 122] = (0, aw1) := by kernel_rfl
theorem aw_syn : synR aw1 [97] = (0, aw2) := by kernel_rfl
theorem aw_app2 : appR aw2 [97] [49, 50, 51] = (0, aw3) := by kernel_rfl
theorem aw_crash : crashR aw3 [2] = aw4 := by kernel_rfl
theorem aw_syn2 : synR aw4 [98] = (41, aw4) := by kernel_rfl
end Go.Proofs.Ytejbelbfmchadaa
