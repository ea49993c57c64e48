/- Walks of layer 1: lists of one value and of two. -/
import Derived.Test.YtenpggdmmgokpaaDoorW3
namespace Go.Proofs.YtenpggdmmgokpaaDoor
open Go.RowKit

theorem row1 (w : World) (k n : Int) (s : ByteArray) (t : TypeId) : Row (w.alloc (.cells #[.int .i64 k, .int .i64 n, .string s] t)) (some ⟨w.heap.size, 0, none⟩) [(k, n, s)] := by
  intro i hi
  match i, hi with
  | 0, _ => exact ⟨_, _, rfl, by simp, by simp, by simp⟩
theorem row2 (w : World) (k n : Int) (s : ByteArray) (k' n' : Int) (s' : ByteArray) (t : TypeId) : Row (w.alloc (.cells #[.int .i64 k, .int .i64 n, .string s, .int .i64 k', .int .i64 n', .string s'] t)) (some ⟨w.heap.size, 0, none⟩) [(k, n, s), (k', n', s')] := by
  intro i hi
  match i, hi with
  | 0, _ => exact ⟨_, _, rfl, by simp, by simp, by simp⟩
  | 1, _ => exact ⟨_, _, rfl, by simp, by simp, by simp⟩

theorem admit2 (kind k n : Int) (s : ByteArray) (k' n' : Int) (s' : ByteArray) (w : World) (b : Nat) (t : TypeId) (hb : b = w.heap.size) :
    Calls Tryd.prog 32 #[.int .i64 kind, .slice (some ⟨b, 0, none⟩) 2 2] (w.alloc (.cells #[.int .i64 k, .int .i64 n, .string s, .int .i64 k', .int .i64 n', .string s'] t)) fun e w' =>
      e = .returned (.int .i64 (adm kind [(k, n, s), (k', n', s')])) ∧ Below (w.alloc (.cells #[.int .i64 k, .int .i64 n, .string s, .int .i64 k', .int .i64 n', .string s'] t)).heap.size (w.alloc (.cells #[.int .i64 k, .int .i64 n, .string s, .int .i64 k', .int .i64 n', .string s'] t)) w' := by
  subst hb
  exact admit_any kind _ 2 [(k, n, s), (k', n', s')] _ (by simp) (row2 w k n s k' n' s' t)
theorem admit1 (kind k n : Int) (s : ByteArray) (w : World) (b : Nat) (t : TypeId) (hb : b = w.heap.size) :
    Calls Tryd.prog 32 #[.int .i64 kind, .slice (some ⟨b, 0, none⟩) 1 1] (w.alloc (.cells #[.int .i64 k, .int .i64 n, .string s] t)) fun e w' =>
      e = .returned (.int .i64 (adm kind [(k, n, s)])) ∧ Below (w.alloc (.cells #[.int .i64 k, .int .i64 n, .string s] t)).heap.size (w.alloc (.cells #[.int .i64 k, .int .i64 n, .string s] t)) w' := by
  subst hb
  exact admit_any kind _ 1 [(k, n, s)] _ (by simp) (row1 w k n s t)

end Go.Proofs.YtenpggdmmgokpaaDoor
