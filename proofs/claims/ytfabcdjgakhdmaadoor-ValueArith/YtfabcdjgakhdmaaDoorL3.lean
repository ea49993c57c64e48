/- Walk of the law ValueArith. -/
import Derived.Test.YtfabcdjgakhdmaaDoorW14
import Derived.Test.YtfabcdjgakhdmaaDoorW16
import Derived.Test.YtfabcdjgakhdmaaDoorW17
namespace Go.Proofs.YtfabcdjgakhdmaaDoor
open Go.RowKit

set_option maxHeartbeats 4000000 in
set_option maxRecDepth 100000 in
theorem larith_any (op k n : Int) (s : ByteArray) (k' n' : Int) (s' : ByteArray) (w : World) :
    Calls Tryd.prog 5 #[.int .i64 op, .agg #[.int .i64 k, .int .i64 n, .string s], .agg #[.int .i64 k', .int .i64 n', .string s']] w fun e w' => e = .returned (.bool true) ∧ Below w.heap.size w w' := by
  go_enter Tryd.func5, Tryd.ntmps5
  go_wp2_with fail
  refine (awake_any _).mono ?_
  rintro e w1 ⟨rfl, hb0⟩
  obtain ⟨hc0, hf0⟩ := bcell hb0
  have hz0 := hb0.size
  (try simp at hz0)
  have q0_0 : w.heap.size < w1.heap.size := by omega
  have p0_0 : w.heap.size < w1.heap.size + 1 := by omega
  have q0_1 : w.heap.size + 1 < w1.heap.size := by omega
  have p0_1 : w.heap.size + 1 < w1.heap.size + 1 := by omega
  go_wp2_with fail
  refine (arith_any _ _ _ _ _ _ _ _).mono ?_
  rintro e w2 ⟨rfl, hb1⟩
  obtain ⟨hc1, hf1⟩ := bcell hb1
  have hz1 := hb1.size
  (try simp at hz1)
  have q1_0 : w.heap.size < w2.heap.size := by omega
  have p1_0 : w.heap.size < w2.heap.size + 1 := by omega
  have q1_1 : w.heap.size + 1 < w2.heap.size := by omega
  have p1_1 : w.heap.size + 1 < w2.heap.size + 1 := by omega
  go_wp2_with fail
  refine (rarith_any _ _ _ _ _ _ _ _).mono ?_
  rintro e w3 ⟨rfl, hb2⟩
  obtain ⟨hc2, hf2⟩ := bcell hb2
  have hz2 := hb2.size
  (try simp at hz2)
  have q2_0 : w.heap.size < w3.heap.size := by omega
  have p2_0 : w.heap.size < w3.heap.size + 1 := by omega
  have q2_1 : w.heap.size + 1 < w3.heap.size := by omega
  have p2_1 : w.heap.size + 1 < w3.heap.size + 1 := by omega
  have q2_2 : w2.heap.size < w3.heap.size := by omega
  have p2_2 : w2.heap.size < w3.heap.size + 1 := by omega
  go_wp2_with fail
  refine (neg_any _ _ _ _).mono ?_
  rintro e w4 ⟨rfl, hb3⟩
  obtain ⟨hc3, hf3⟩ := bcell hb3
  have hz3 := hb3.size
  (try simp at hz3)
  have q3_0 : w.heap.size < w4.heap.size := by omega
  have p3_0 : w.heap.size < w4.heap.size + 1 := by omega
  have q3_1 : w.heap.size + 1 < w4.heap.size := by omega
  have p3_1 : w.heap.size + 1 < w4.heap.size + 1 := by omega
  have q3_2 : w2.heap.size < w4.heap.size := by omega
  have p3_2 : w2.heap.size < w4.heap.size + 1 := by omega
  have q3_3 : w3.heap.size < w4.heap.size := by omega
  have p3_3 : w3.heap.size < w4.heap.size + 1 := by omega
  go_wp2_with fail
  refine (rneg_any _ _ _ _).mono ?_
  rintro e w5 ⟨rfl, hb4⟩
  obtain ⟨hc4, hf4⟩ := bcell hb4
  have hz4 := hb4.size
  (try simp at hz4)
  have q4_0 : w.heap.size < w5.heap.size := by omega
  have p4_0 : w.heap.size < w5.heap.size + 1 := by omega
  have q4_1 : w.heap.size + 1 < w5.heap.size := by omega
  have p4_1 : w.heap.size + 1 < w5.heap.size + 1 := by omega
  have q4_2 : w2.heap.size < w5.heap.size := by omega
  have p4_2 : w2.heap.size < w5.heap.size + 1 := by omega
  have q4_3 : w3.heap.size < w5.heap.size := by omega
  have p4_3 : w3.heap.size < w5.heap.size + 1 := by omega
  have q4_4 : w4.heap.size < w5.heap.size := by omega
  have p4_4 : w4.heap.size < w5.heap.size + 1 := by omega
  go_wp2
  go_ret
  refine ⟨ret_bool ?_, by (repeat (first | exact Below.refl _ _ | assumption | refine Below.drew ?_ | refine below_drewN ?_ _ | refine Below.alloc ?_ (by first | omega | (simp; done) | (simp; omega)) _ | refine Below.setCell ?_ (by first | omega | (simp; done) | (simp; omega)) _ | refine Below.trans ?_ (Below.mono (by assumption) (by first | omega | (simp; done) | (simp; omega)))))⟩
  rfl
end Go.Proofs.YtfabcdjgakhdmaaDoor
