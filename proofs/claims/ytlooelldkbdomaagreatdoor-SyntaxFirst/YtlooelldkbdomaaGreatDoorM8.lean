/- Plain mathematics of layer 1: what a right value is, by its kind. -/
import Derived.Test.YtlooelldkbdomaaGreatDoorM3
import Derived.WalkKit
namespace Go.Proofs.YtlooelldkbdomaaGreatDoor

theorem empty_of {s : ByteArray} (h : s.toList.isEmpty = true) : s = ⟨#[]⟩ := by
  have e : s.data.toList = [] := by rw [← ByteArray.toList_eq]; simpa using h
  cases s with
  | mk d => simp at e; rw [e]
theorem right_bool {v : V3} (h : V3.right v = true) (k : v.1 = 2) : (v.2.1 = 0 ∨ v.2.1 = 1) ∧ v.2.2 = ⟨#[]⟩ := by
  unfold V3.right rgt at h
  rw [k] at h
  simp at h
  exact ⟨h.1, empty_of (by simpa using h.2)⟩
theorem right_null {v : V3} (h : V3.right v = true) (k : v.1 = 0) : v.2.1 = 0 ∧ v.2.2 = ⟨#[]⟩ := by
  unfold V3.right rgt at h
  rw [k] at h
  simp at h
  exact ⟨h.1, empty_of (by simpa using h.2)⟩
end Go.Proofs.YtlooelldkbdomaaGreatDoor
