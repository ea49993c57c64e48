/- Walks of layer 1: the sum of two; the first of a list. -/
import Derived.Test.YtfabcdjgakhdmabDoorW10
import Derived.Test.YtfabcdjgakhdmabDoorW3b
namespace Go.Proofs.YtfabcdjgakhdmabDoor
open Go.RowKit

theorem sum2 (k n : Int) (s : ByteArray) (k' n' : Int) (s' : ByteArray) (w : World) (b : Nat) (t : TypeId) (hb : b = w.heap.size) :
    Calls Tryd.prog 12 #[.slice (some ⟨b, 0, none⟩) 2 2] (w.alloc (.cells #[.int .i64 k, .int .i64 n, .string s, .int .i64 k', .int .i64 n', .string s'] t)) fun e w' =>
      e = .returned (.tuple #[.agg #[.int .i64 (sumR [(k, n, s), (k', n', s')]).1, .int .i64 (sumR [(k, n, s), (k', n', s')]).2.1, .string ⟨#[]⟩], .int .i64 (sumR [(k, n, s), (k', n', s')]).2.2]) ∧ Below (w.alloc (.cells #[.int .i64 k, .int .i64 n, .string s, .int .i64 k', .int .i64 n', .string s'] t)).heap.size (w.alloc (.cells #[.int .i64 k, .int .i64 n, .string s, .int .i64 k', .int .i64 n', .string s'] t)) w' := by
  subst hb
  exact sum_any _ 2 [(k, n, s), (k', n', s')] _ (by simp) (row2 w k n s k' n' s' t)
theorem Row.first {w : World} {a : Option Addr} {vs : List V3} (h : Row w a vs) (hl : 0 < vs.length) : ∃ b off, a = some ⟨b, off, none⟩ ∧ w.cell? ⟨b, off, none⟩ = some (.int .i64 (vs[0]).1) ∧ w.cell? ⟨b, off + 1, none⟩ = some (.int .i64 (vs[0]).2.1) ∧ w.cell? ⟨b, off + 2, none⟩ = some (.string (vs[0]).2.2) := by
  obtain ⟨b, off, e, c0, c1, c2⟩ := h 0 hl
  exact ⟨b, off, e, by simpa using c0, by simpa using c1, by simpa using c2⟩
theorem cell_lt {w : World} {b o : Nat} {v : Value} (h : w.cell? ⟨b, o, none⟩ = some v) : b < w.heap.size := by
  by_cases g : b < w.heap.size
  · exact g
  · simp [World.cell?, Array.getElem?_eq_none (by omega : w.heap.size ≤ b)] at h
end Go.Proofs.YtfabcdjgakhdmabDoor
