/- Walk of the law ValueOrderly, one of four cases: the two are the same. -/
import Derived.Test.YtfabcdjgakhdmaaDoorW14
import Derived.Test.YtfabcdjgakhdmaaDoorM6
namespace Go.Proofs.YtfabcdjgakhdmaaDoor
open Go.RowKit

set_option maxHeartbeats 4000000 in
set_option maxRecDepth 100000 in
theorem orderly_a (k n : Int) (s : ByteArray) (s' : ByteArray) (k2 n2 : Int) (s2 : ByteArray) (w : World) (z v r1 r2 r3 q1 q2 : Int)
    (HX : Hid (ordV k n s k n s' = 0)) (HY : Hid (ordV k n s' k n s = -0)) (HZ : Hid (ordV k n s' k2 n2 s2 = z)) (HV : Hid (ordV k n s k2 n2 s2 = v)) (HS : Hid (ordV k n s k n s = 0))
    (C3 : Hid (cmpR 3 k n s k n s' = (r1, r2, r3))) (C6 : Hid (cmpR 6 k n s k n s' = (q1, q2, r3)))
    (_t1 : ¬ (0 ≤ 0 ∧ z ≤ 0 ∧ 0 < v)) (_t2 : ¬ (0 < 0 ∧ z ≤ 0 ∧ 0 ≤ v)) (hs : s.toList = s'.toList)
    (hfin : ((r3 ≠ 0 ∨ (r3 = 0 ∧ k = 0) ∨ (r3 = 0 ∧ k ≠ 0 ∧ k = 0)) ∧ r1 = 0 ∧ r2 = 0 ∧ q1 = 0 ∧ q2 = 0) ∨ (r3 = 0 ∧ k ≠ 0 ∧ k ≠ 0 ∧ r1 = 2 ∧ q1 = 2 ∧ ((0 < 0 ∧ r2 = 1 ∧ q2 = 0) ∨ (0 ≤ 0 ∧ r2 = 0 ∧ q2 = 1)))) :
    Calls Tryd.prog 8 #[.agg #[.int .i64 k, .int .i64 n, .string s], .agg #[.int .i64 k, .int .i64 n, .string s'], .agg #[.int .i64 k2, .int .i64 n2, .string s2]] w fun e w' => e = .returned (.bool true) ∧ Below w.heap.size w w' := by
  go_enter Tryd.func8, Tryd.ntmps8
  go_wp2_with (first | (go_at_call 9; refine (awake_any _).mono ?_; rintro e w' ⟨rfl, hb⟩; obtain ⟨hc, hf⟩ := bcell hb; have hz := hb.size; (try simp at hz); (try have hz0 : w.heap.size < w'.heap.size := by omega); (try have hz1 : w.heap.size + 1 < w'.heap.size := by omega); (try have hz2 : w.heap.size + 1 + 1 < w'.heap.size := by omega); (try have hz3 : w.heap.size + 1 + 1 + 1 < w'.heap.size := by omega)) | (go_at_call 12; refine (order_any _ _ _ _ _ _ _).mono ?_; rintro e w' ⟨rfl, hb⟩; (obtain ⟨hc, hf⟩ := bcell hb; have hz := hb.size; (try simp at hz); (try have hz0 : w.heap.size < w'.heap.size := by omega); (try have hz1 : w.heap.size + 1 < w'.heap.size := by omega); (try have hz2 : w.heap.size + 1 + 1 < w'.heap.size := by omega); (try have hz3 : w.heap.size + 1 + 1 + 1 < w'.heap.size := by omega)); (first | rw [HX.out] | rw [HY.out] | rw [HZ.out] | rw [HV.out] | rw [HS.out])))
  all_goals
    refine (compare_any _ _ _ _ _ _ _ _).mono ?_
    rintro e wy ⟨rfl, hby⟩
    obtain ⟨hcy, hfy⟩ := bcell hby
    have hzy := hby.size
    have hzy0 : w.heap.size < wy.heap.size := by omega
    have hzy1 : w.heap.size + 1 < wy.heap.size := by omega
    have hzy0' : w.heap.size < wy.heap.size + 1 := by omega
    have hzy1' : w.heap.size + 1 < wy.heap.size + 1 := by omega
    rw [C3.out]
    go_wp2_with fail
    refine (compare_any _ _ _ _ _ _ _ _).mono ?_
    rintro e wz ⟨rfl, hbz⟩
    obtain ⟨hcz, hfz⟩ := bcell hbz
    have hzz := hbz.size
    simp at hzz
    have hzzq : wy.heap.size < wz.heap.size := by omega
    have hzz0 : w.heap.size < wz.heap.size := by omega
    have hzz1 : w.heap.size + 1 < wz.heap.size := by omega
    rw [C6.out]
    have hbw : Below w.heap.size w wz := by (repeat (first | exact Below.refl _ _ | assumption | refine Below.drew ?_ | refine below_drewN ?_ _ | refine Below.alloc ?_ (by first | omega | (simp; done) | (simp; omega)) _ | refine Below.setCell ?_ (by first | omega | (simp; done) | (simp; omega)) _ | refine Below.trans ?_ (Below.mono (by assumption) (by first | omega | (simp; done) | (simp; omega)))))
    rcases hfin with ⟨hf1, rfl, rfl, rfl, rfl⟩ | ⟨rfl, hk, hk', rfl, rfl, hf2⟩
    · rcases hf1 with g1 | ⟨rfl, g2⟩ | ⟨rfl, g2, g3⟩
      · have g1' : (r3 != 0) = true := by simpa using g1
        clear g1
        go_wp2
        all_goals (go_ret; exact ⟨rfl, by (repeat (first | exact Below.refl _ _ | assumption | refine Below.drew ?_ | refine below_drewN ?_ _ | refine Below.alloc ?_ (by first | omega | (simp; done) | (simp; omega)) _ | refine Below.setCell ?_ (by first | omega | (simp; done) | (simp; omega)) _ | refine Below.trans ?_ (Below.mono (by assumption) (by first | omega | (simp; done) | (simp; omega)))))⟩)
      · have g2' : (k == 0) = true := by simpa using g2
        clear g2
        go_wp2
        all_goals (go_ret; exact ⟨rfl, by (repeat (first | exact Below.refl _ _ | assumption | refine Below.drew ?_ | refine below_drewN ?_ _ | refine Below.alloc ?_ (by first | omega | (simp; done) | (simp; omega)) _ | refine Below.setCell ?_ (by first | omega | (simp; done) | (simp; omega)) _ | refine Below.trans ?_ (Below.mono (by assumption) (by first | omega | (simp; done) | (simp; omega)))))⟩)
      · exact absurd g3 g2
    · have g2' : (k == 0) = false := by simpa using hk
      have g3' : (k == 0) = false := by simpa using hk'
      clear hk hk'
      rcases hf2 with ⟨hx, rfl, rfl⟩ | ⟨hx, rfl, rfl⟩
      · first
          | (exfalso; omega)
          | (have hxd : decide ((0 : Int) < 0) = true := by omega
             go_wp2
             all_goals (go_ret; exact ⟨rfl, by (repeat (first | exact Below.refl _ _ | assumption | refine Below.drew ?_ | refine below_drewN ?_ _ | refine Below.alloc ?_ (by first | omega | (simp; done) | (simp; omega)) _ | refine Below.setCell ?_ (by first | omega | (simp; done) | (simp; omega)) _ | refine Below.trans ?_ (Below.mono (by assumption) (by first | omega | (simp; done) | (simp; omega)))))⟩))
      · first
          | (exfalso; omega)
          | (have hxd : decide ((0 : Int) < 0) = false := by simp
             go_wp2
             all_goals (go_ret; exact ⟨rfl, by (repeat (first | exact Below.refl _ _ | assumption | refine Below.drew ?_ | refine below_drewN ?_ _ | refine Below.alloc ?_ (by first | omega | (simp; done) | (simp; omega)) _ | refine Below.setCell ?_ (by first | omega | (simp; done) | (simp; omega)) _ | refine Below.trans ?_ (Below.mono (by assumption) (by first | omega | (simp; done) | (simp; omega)))))⟩))
end Go.Proofs.YtfabcdjgakhdmaaDoor
