/- Walks of layer 1: lists of one value and of two. -/
import Derived.Test.YtfgpopkibjijgaaW3
namespace Go.Proofs.Ytfgpopkibjijgaa
open Go.RowKit

theorem row1 (w : World) (k n : Int) (s : ByteArray) (t : TypeId) : Row (w.alloc (.cells #[.int .i64 k, .int .i64 n, .string s] t)) (some ⟨w.heap.size, 0, none⟩) [(k, n, s)] := by
  intro i hi
  match i, hi with
  | 0, _ => exact ⟨_, _, rfl, by simp, by simp, by simp⟩
theorem row2 (w : World) (k n : Int) (s : ByteArray) (k' n' : Int) (s' : ByteArray) (t : TypeId) : Row (w.alloc (.cells #[.int .i64 k, .int .i64 n, .string s, .int .i64 k', .int .i64 n', .string s'] t)) (some ⟨w.heap.size, 0, none⟩) [(k, n, s), (k', n', s')] := by
  intro i hi
  match i, hi with
  | 0, _ => exact ⟨_, _, rfl, by simp, by simp, by simp⟩
  | 1, _ => exact ⟨_, _, rfl, by simp, by simp, by simp⟩



end Go.Proofs.Ytfgpopkibjijgaa
