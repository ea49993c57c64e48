/- Walks of layer 7: New without pairs. -/
import Derived.Test.YtlpannicklkghaaB19
import Derived.Test.YtlpannicklkghaaM88
namespace Go.Proofs.Ytlpannicklkghaa
open Go.RowKit

set_option maxHeartbeats 2000000 in
set_option maxRecDepth 100000 in
theorem rising_nil (w : World) : Calls Try.prog 28 #[.slice none 0 0] w fun e w' => e = .returned (.bool true) ∧ w' = w := by
  go_enter Try.func28, Try.ntmps28
  go_wp2
  go_loopw [3] (fun i wr => i = .int .i64 1 ∧ wr = w) (fun _ _ => 0)
  case atStart => exact ⟨rfl, rfl⟩
  case round =>
    obtain ⟨rfl, rfl⟩ := hrel
    go_wp2
    go_ret
    exact ⟨rfl, rfl⟩
theorem made_tree (w : World) (Z : Nat → Prop) (m : Nat) (hZ : ∀ k, w.heap.size ≤ k → Z k) : TreeIs ((w.alloc (Obj.cells #[.slice none 0 0, .pointer none] 74)).alloc (Obj.cells #[.int .i64 (m : Int), .int .i64 0, .pointer (some ⟨w.heap.size, 0, none⟩)] 76)) Z (w.heap.size + 1) m [[⟨w.heap.size, .slice none 0 0, []⟩]] [] := by
  have h0 : (w.alloc (Obj.cells #[.slice none 0 0, .pointer none] 74)).heap[w.heap.size]? = some (.cells #[.slice none 0 0, .pointer none] 74 (0, 0)) := heap_alloc_new w _
  have h1 := heap_alloc_new (w.alloc (Obj.cells #[.slice none 0 0, .pointer none] 74)) (Obj.cells #[.int .i64 (m : Int), .int .i64 0, .pointer (some ⟨w.heap.size, 0, none⟩)] 76)
  rw [World.size_alloc] at h1
  refine ⟨⟨w.heap.size, ⟨h1⟩, ?_⟩, ⟨fun x hx => ?_, fun x hx => ?_, fun x hx k e => ?_, ?_⟩, ⟨fun n hn => ?_, trivial⟩, rfl, List.Pairwise.nil⟩
  · exact good_leaf.2 ⟨⟨⟨rfl, List.Pairwise.nil, fun x hx => by simp at hx⟩, trivial⟩, fun n hn => by
      obtain rfl : n = ⟨w.heap.size, .slice none 0 0, []⟩ := by simpa using hn
      intro x hx
      simp at hx⟩
  · obtain rfl : x = (⟨w.heap.size, .slice none 0 0, []⟩, none) := by simpa [allX, linkN, hd] using hx
    exact ⟨(Below.heap_alloc _ _ _ (by simp)).trans h0, World.ownsRow_nil _ _ _ _⟩
  · obtain rfl : x = (⟨w.heap.size, .slice none 0 0, []⟩, none) := by simpa [allX, linkN, hd] using hx
    exact hZ _ (Nat.le_refl _)
  · obtain rfl : x = (⟨w.heap.size, .slice none 0 0, []⟩, none) := by simpa [allX, linkN, hd] using hx
    cases e
  · simp [allX, linkN]
  · obtain rfl : n = ⟨w.heap.size, .slice none 0 0, []⟩ := by simpa using hn
    exact ⟨Nat.zero_le _, Nat.zero_le _⟩
set_option maxHeartbeats 2000000 in
set_option maxRecDepth 100000 in
theorem new_nil (w : World) (m : Nat) (hm : 4 ≤ m) (hm2 : m ≤ 64) : Calls Try.prog 11 #[.int .i64 (m : Int), .slice none 0 0] w fun e w' => e = .returned (.tuple #[.pointer (some ⟨w.heap.size + 1, 0, none⟩), .int .i64 0]) ∧ w' = (w.alloc (Obj.cells #[.slice none 0 0, .pointer none] 74)).alloc (Obj.cells #[.int .i64 (m : Int), .int .i64 0, .pointer (some ⟨w.heap.size, 0, none⟩)] 76) := by
  have h1 : ¬ (m : Int) < 4 := by omega
  have h2 : ¬ (64 : Int) < (m : Int) := by omega
  go_enter Try.func11, Try.ntmps11
  go_wp2_with (go_at_call 28; refine (rising_nil _).mono ?_; rintro e w' ⟨rfl, hwe⟩; (have hwe2 := hwe.symm); clear hwe; subst hwe2)
  go_loopw [27] (fun i wr => i = .int .i64 0 ∧ wr = (w.alloc (Obj.cells #[.slice none 0 0, .pointer none] 74)).alloc (Obj.cells #[.int .i64 (m : Int), .int .i64 0, .pointer (some ⟨w.heap.size, 0, none⟩)] 76)) (fun _ _ => 0)
  case atStart => exact ⟨rfl, rfl⟩
  case round =>
    obtain ⟨rfl, rfl⟩ := hrel
    go_wp2
    refine bodyPost_ret (v := .tuple #[.pointer (some ⟨w.heap.size + 1, 0, none⟩), .int .i64 0]) (by simp [results, Try.results11, go_sem]) rfl ?_
    exact ⟨rfl, rfl⟩
set_option maxHeartbeats 2000000 in
set_option maxRecDepth 100000 in
theorem new_bad (w : World) (m : Int) (v : Value) (hm : m < 4 ∨ 64 < m) : Calls Try.prog 11 #[.int .i64 m, v] w fun e w' => e = .returned (.tuple #[.pointer none, .int .i64 70]) ∧ w' = w := by
  by_cases h1 : m < 4
  · go_enter Try.func11, Try.ntmps11
    go_wp2
    refine bodyPost_ret (v := .tuple #[.pointer none, .int .i64 70]) (by simp [results, Try.results11, go_sem]) rfl ?_
    exact ⟨rfl, rfl⟩
  · have h2 : (64 : Int) < m := by omega
    go_enter Try.func11, Try.ntmps11
    go_wp2
    refine bodyPost_ret (v := .tuple #[.pointer none, .int .i64 70]) (by simp [results, Try.results11, go_sem]) rfl ?_
    exact ⟨rfl, rfl⟩
end Go.Proofs.Ytlpannicklkghaa
