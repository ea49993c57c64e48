/- Layer 4, without the program: a file that grows piece by piece. -/
import Derived.Test.YtejbelbfmchadaaM45
namespace Go.Proofs.Ytejbelbfmchadaa
open Go

def gst (k : Nat) (all : List UInt8) (safe steps : Nat) : St := ⟨1048576, if k = 0 then [] else [([108, 111, 103], (all, safe))], steps, -1, false⟩
theorem gst_succ (k : Nat) (all : List UInt8) (safe steps : Nat) : gst (k + 1) all safe steps = ⟨1048576, [([108, 111, 103], (all, safe))], steps, -1, false⟩ := by simp [gst]
theorem gst_zero (all : List UInt8) (safe steps : Nat) : gst 0 all safe steps = ⟨1048576, [], steps, -1, false⟩ := by simp [gst]
theorem g_name : nmOk [108, 111, 103] = true := by decide
theorem g_app {k : Nat} {all t : List UInt8} {safe steps : Nat} (h : all.length + t.length ≤ 1048576) (h0 : k = 0 → all = [] ∧ safe = 0) : appR (gst k all safe steps) [108, 111, 103] t = (0, gst (k + 1) (all ++ t) safe (steps + 1)) := by
  cases k with
  | zero =>
    obtain ⟨rfl, rfl⟩ := h0 rfl
    rw [gst_zero, gst_succ]
    have hr : roomE ⟨1048576, [], steps, -1, false⟩ [108, 111, 103] t.length = 0 := by
      have : ¬ 1048576 < t.length := by simp at h; omega
      simp [roomE, g_name, tot, getL, this]
    unfold appR
    rw [hr]
    rfl
  | succ k =>
    rw [gst_succ, gst_succ]
    have hr : roomE ⟨1048576, [([108, 111, 103], (all, safe))], steps, -1, false⟩ [108, 111, 103] t.length = 0 := by
      have : ¬ 1048576 < all.length + t.length := by omega
      simp [roomE, g_name, tot, getL, szF, this]
    unfold appR
    rw [hr]
    rfl
theorem g_syn (k : Nat) (all : List UInt8) (safe steps : Nat) : synR (gst (k + 1) all safe steps) [108, 111, 103] = (0, gst (k + 1) all all.length (steps + 1)) := by
  rw [gst_succ, gst_succ]
  rfl
theorem g_read (k : Nat) (all : List UInt8) (safe steps : Nat) : readR (gst (k + 1) all safe steps) [108, 111, 103] = (all, 0) := by
  rw [gst_succ]
  rfl
theorem g_free (k : Nat) (all : List UInt8) (safe steps : Nat) (h0 : k = 0 → all = []) : freeR (gst k all safe steps) = 1048576 - (all.length : Int) := by
  cases k with
  | zero => rw [h0 rfl, gst_zero]; simp [freeR, tot]
  | succ k => rw [gst_succ]; simp [freeR, tot, szF]
theorem g_new : newE 1048576 [] = 0 ∧ newSt 1048576 [] = gst 0 [] 0 0 := ⟨by decide, rfl⟩
/-- How many bytes texts have together. -/
def sumS (l : List ByteArray) : Nat := (l.map (·.size)).sum
theorem sumS_append (a b : List ByteArray) : sumS (a ++ b) = sumS a + sumS b := by simp [sumS]
theorem sumS_succ {l : List ByteArray} {k : Nat} (h : k < l.length) : sumS (l.take (k + 1)) = sumS (l.take k) + l[k].size := by
  rw [List.take_succ_eq_append_getElem h, sumS_append]
  simp [sumS]
theorem sumS_le (l : List ByteArray) (k : Nat) : sumS (l.take k) ≤ sumS l := by
  have h := congrArg sumS (List.take_append_drop k l)
  rw [sumS_append] at h
  omega
end Go.Proofs.Ytejbelbfmchadaa
