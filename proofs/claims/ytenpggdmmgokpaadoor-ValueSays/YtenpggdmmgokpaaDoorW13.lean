/- Walks of layer 1, thirteenth part: some of the chapter's examples, whose answers are fixed. -/
import Derived.Test.YtenpggdmmgokpaaDoorW2
import Derived.Test.YtenpggdmmgokpaaDoorW7
import Derived.Test.YtenpggdmmgokpaaDoorW10
import Derived.Test.YtenpggdmmgokpaaDoorW12
namespace Go.Proofs.YtenpggdmmgokpaaDoor
open Go.RowKit

theorem lnum_exact (n : Int) (w : World) :
    Calls Tryd.prog 12 #[.int .i64 n] w fun e w' => e = .returned (.agg #[.int .i64 1, .int .i64 n, .string ⟨#[]⟩]) ∧ w' = w.alloc (.cells #[.int .i64 1, .int .i64 n, .string ⟨#[]⟩] 23) := by
  go_enter Tryd.func12, Tryd.ntmps12
  go_wp2
  exact bodyPost_ret (v := .agg #[.int .i64 1, .int .i64 n, .string ⟨#[]⟩]) (by simp [results, Tryd.results12, go_sem]) rfl ⟨rfl, rfl⟩

theorem print_text (s : ByteArray) (w : World) (hs : (s.size : Int) ≤ 64) :
    Calls Tryd.prog 6 #[.agg #[.int .i64 3, .int .i64 0, .string s]] w fun e w' => e = .returned (.tuple #[.string ⟨(quo s).toArray⟩, .int .i64 0]) ∧ Below w.heap.size w w' := by
  have HR : Hid (rgt 3 0 s = true) := by show rgt 3 0 s = true; simp [rgt, hs]
  go_enter Tryd.func6, Tryd.ntmps6
  go_wp2_with fail
  refine (right_any _ _ _ _).mono ?_
  rintro e w' ⟨rfl, hb⟩
  rw [HR.out]
  (obtain ⟨hc, hf⟩ := bcell hb; have hz := hb.size; (try simp at hz); (try have hz0 : w.heap.size < w'.heap.size := by omega); (try have hz1 : w.heap.size + 1 < w'.heap.size := by omega); (try have hz2 : w.heap.size + 1 + 1 < w'.heap.size := by omega); (try have hz3 : w.heap.size + 1 + 1 + 1 < w'.heap.size := by omega))
  go_wp2_with (first | (go_at_call 19; refine (quote_any s _ (by omega)).mono ?_; rintro e w' ⟨rfl, hb⟩; obtain ⟨hc, hf⟩ := bcell hb; have hz := hb.size; (try simp at hz); (try have hz0 : w.heap.size < w'.heap.size := by omega); (try have hz1 : w.heap.size + 1 < w'.heap.size := by omega); (try have hz2 : w.heap.size + 1 + 1 < w'.heap.size := by omega); (try have hz3 : w.heap.size + 1 + 1 + 1 < w'.heap.size := by omega)))
  go_ret2
  exact ⟨rfl, by (repeat (first | exact Below.refl _ _ | assumption | refine Below.drew ?_ | refine below_drewN ?_ _ | refine Below.alloc ?_ (by first | omega | (simp; done) | (simp; omega)) _ | refine Below.setCell ?_ (by first | omega | (simp; done) | (simp; omega)) _ | refine Below.trans ?_ (Below.mono (by assumption) (by first | omega | (simp; done) | (simp; omega)))))⟩

theorem and2 (k n : Int) (s : ByteArray) (k' n' : Int) (s' : ByteArray) (w : World) (b : Nat) (t : TypeId) (hb : b = w.heap.size) :
    Calls Tryd.prog 15 #[.slice (some ⟨b, 0, none⟩) 2 2] (w.alloc (.cells #[.int .i64 k, .int .i64 n, .string s, .int .i64 k', .int .i64 n', .string s'] t)) fun e w' =>
      e = .returned (.tuple #[.agg #[.int .i64 (sett false [(k, n, s), (k', n', s')]).1, .int .i64 (sett false [(k, n, s), (k', n', s')]).2.1, .string ⟨#[]⟩], .int .i64 (sett false [(k, n, s), (k', n', s')]).2.2]) ∧ Below (w.alloc (.cells #[.int .i64 k, .int .i64 n, .string s, .int .i64 k', .int .i64 n', .string s'] t)).heap.size (w.alloc (.cells #[.int .i64 k, .int .i64 n, .string s, .int .i64 k', .int .i64 n', .string s'] t)) w' := by
  subst hb
  exact and_any _ 2 [(k, n, s), (k', n', s')] _ (by simp) (row2 w k n s k' n' s' t)

theorem row3 (w : World) (k n : Int) (s : ByteArray) (k' n' : Int) (s' : ByteArray) (k2 n2 : Int) (s2 : ByteArray) (t : TypeId) : Row (w.alloc (.cells #[.int .i64 k, .int .i64 n, .string s, .int .i64 k', .int .i64 n', .string s', .int .i64 k2, .int .i64 n2, .string s2] t)) (some ⟨w.heap.size, 0, none⟩) [(k, n, s), (k', n', s'), (k2, n2, s2)] := by
  intro i hi
  match i, hi with
  | 0, _ => exact ⟨_, _, rfl, by simp, by simp, by simp⟩
  | 1, _ => exact ⟨_, _, rfl, by simp, by simp, by simp⟩
  | 2, _ => exact ⟨_, _, rfl, by simp, by simp, by simp⟩
theorem sum3 (k n : Int) (s : ByteArray) (k' n' : Int) (s' : ByteArray) (k2 n2 : Int) (s2 : ByteArray) (w : World) (b : Nat) (t : TypeId) (hb : b = w.heap.size) :
    Calls Tryd.prog 17 #[.slice (some ⟨b, 0, none⟩) 3 3] (w.alloc (.cells #[.int .i64 k, .int .i64 n, .string s, .int .i64 k', .int .i64 n', .string s', .int .i64 k2, .int .i64 n2, .string s2] t)) fun e w' =>
      e = .returned (.tuple #[.agg #[.int .i64 (sumR [(k, n, s), (k', n', s'), (k2, n2, s2)]).1, .int .i64 (sumR [(k, n, s), (k', n', s'), (k2, n2, s2)]).2.1, .string ⟨#[]⟩], .int .i64 (sumR [(k, n, s), (k', n', s'), (k2, n2, s2)]).2.2]) ∧
      Below (w.alloc (.cells #[.int .i64 k, .int .i64 n, .string s, .int .i64 k', .int .i64 n', .string s', .int .i64 k2, .int .i64 n2, .string s2] t)).heap.size (w.alloc (.cells #[.int .i64 k, .int .i64 n, .string s, .int .i64 k', .int .i64 n', .string s', .int .i64 k2, .int .i64 n2, .string s2] t)) w' := by
  subst hb
  exact sum_any _ 3 [(k, n, s), (k', n', s'), (k2, n2, s2)] _ (by simp) (row3 w k n s k' n' s' k2 n2 s2 t)

theorem ex1 : rgt 1 4611686018427387904 ⟨#[]⟩ = true := by decide +kernel
theorem ex2 : rgt 2 2 ⟨#[]⟩ = false := by decide +kernel
theorem ex3 : ordV 1 3 ⟨#[]⟩ 2 0 ⟨#[]⟩ = -1 := by decide +kernel
theorem ex4 : cmpR 3 1 3 ⟨#[]⟩ 1 5 ⟨#[]⟩ = (2, 1, 0) := by decide +kernel
theorem ex5 : sett false [(2, 0, ⟨#[]⟩), (0, 0, ⟨#[]⟩)] = (2, 0, 0) := by decide +kernel
theorem ex6 : arR 4 1 (-7) ⟨#[]⟩ 1 2 ⟨#[]⟩ = (1, -3, 0) := by decide +kernel
theorem ex7 : sumR [(1, 4611686018427387904, ⟨#[]⟩), (1, 1, ⟨#[]⟩), (1, -1, ⟨#[]⟩)] = (1, 4611686018427387904, 0) := by decide +kernel
theorem ex8 : quo ⟨#[105, 116, 39, 115]⟩ = [39, 105, 116, 39, 39, 115, 39] := by decide +kernel
end Go.Proofs.YtenpggdmmgokpaaDoor
