/- Walk of the law ValueReckons: neither block is entered. -/
import Derived.Test.YtfabcdjgakhdmabDoorW14
import Derived.Test.YtfabcdjgakhdmabDoorW23
import Derived.Test.YtfabcdjgakhdmabDoorM10
import Derived.Test.YtfabcdjgakhdmabDoorW24
namespace Go.Proofs.YtfabcdjgakhdmabDoor
open Go.RowKit

set_option maxHeartbeats 8000000 in
set_option maxRecDepth 100000 in
theorem reck_NN (k n : Int) (s : ByteArray) (k' n' : Int) (s' : ByteArray) (e1 : Int) (a : Option Addr) (cap : Nat) (vs : List V3) (w : World) (hlen : vs.length ≤ 536870911) (hrow : Row w a vs) (HA : Hid (arR 1 k n s k' n' s' = (0, 0, e1))) (HD : Hid (arR 4 k n s k' n' s' = (0, 0, e1))) (HM : Hid (arR 5 k n s k' n' s' = (0, 0, e1)))
    (t1 t2 t3 u1 u2 u3 : Int) (HT : Hid (sumR vs = (t1, t2, t3))) (HU : Hid (sumR (turnedL vs) = (u1, u2, u3))) (hb10 : (t3 == 10) = (u3 == 10)) (hb11 : (t3 == 11) = (u3 == 11))
    (htail : vs.length = 0 ∨ (∃ h : 0 < vs.length, t3 ≠ 0 ∨ (t3 = 0 ∧ (t1 ≠ 1 ∨ (t1 = 1 ∧ ((vs[0]).1 ≠ 1 ∨ ((vs[0]).1 = 1 ∧ arR 1 t1 t2 ⟨#[]⟩ (vs[0]).1 (vs[0]).2.1 (vs[0]).2.2 = (u1, u2, u3)))))))) :
    Calls Tryd.prog 4 #[.agg #[.int .i64 k, .int .i64 n, .string s], .agg #[.int .i64 k', .int .i64 n', .string s'], .slice a vs.length cap] w fun e w' => e = .returned (.bool true) ∧ Below w.heap.size w w' := by
  have HR : Hid (Row w a vs) := hrow
  clear hrow
  have hlen1 : vs.length ≤ 2147483648 := by omega
  have hlen2 : vs.length ≤ 2147483647 := by omega
  have hlen3 : (turnedL vs).length ≤ 2147483648 := by simp [turnedL]; omega
  have hbig : ¬ (536870911 : Int) < (vs.length : Int) := by omega
  go_enter Tryd.func4, Tryd.ntmps4
  go_wp2_with fail
  refine (awake_any _).mono ?_
  rintro e w1 ⟨rfl, hb1⟩
  obtain ⟨hc1, hf1⟩ := bcell hb1
  have hz1 := hb1.size
  (try simp at hz1)
  have q1_0 : w.heap.size < w1.heap.size := by omega
  have p1_0 : w.heap.size < w1.heap.size + 1 := by omega
  have q1_1 : w.heap.size + 1 < w1.heap.size := by omega
  have p1_1 : w.heap.size + 1 < w1.heap.size + 1 := by omega
  go_wp2_with fail
  refine (arith_any _ _ _ _ _ _ _ _).mono ?_
  rintro e w2 ⟨rfl, hb2⟩
  obtain ⟨hc2, hf2⟩ := bcell hb2
  have hz2 := hb2.size
  (try simp at hz2)
  have q2_0 : w.heap.size < w2.heap.size := by omega
  have p2_0 : w.heap.size < w2.heap.size + 1 := by omega
  have q2_1 : w.heap.size + 1 < w2.heap.size := by omega
  have p2_1 : w.heap.size + 1 < w2.heap.size + 1 := by omega
  rw [HA.out]
  go_wp2_with fail
  all_goals
    refine (arith_any _ _ _ _ _ _ _ _).mono ?_
    rintro e w3 ⟨rfl, hb3⟩
    obtain ⟨hc3, hf3⟩ := bcell hb3
    have hz3 := hb3.size
    (try simp at hz3)
    have q3_0 : w.heap.size < w3.heap.size := by omega
    have p3_0 : w.heap.size < w3.heap.size + 1 := by omega
    have q3_1 : w.heap.size + 1 < w3.heap.size := by omega
    have p3_1 : w.heap.size + 1 < w3.heap.size + 1 := by omega
    have q3_2 : w2.heap.size < w3.heap.size := by omega
    have p3_2 : w2.heap.size < w3.heap.size + 1 := by omega
    rw [HD.out]
    go_wp2_with fail
    refine (arith_any _ _ _ _ _ _ _ _).mono ?_
    rintro e w4 ⟨rfl, hb4⟩
    obtain ⟨hc4, hf4⟩ := bcell hb4
    have hz4 := hb4.size
    (try simp at hz4)
    have q4_0 : w.heap.size < w4.heap.size := by omega
    have p4_0 : w.heap.size < w4.heap.size + 1 := by omega
    have q4_1 : w.heap.size + 1 < w4.heap.size := by omega
    have p4_1 : w.heap.size + 1 < w4.heap.size + 1 := by omega
    have q4_2 : w2.heap.size < w4.heap.size := by omega
    have p4_2 : w2.heap.size < w4.heap.size + 1 := by omega
    have q4_3 : w3.heap.size < w4.heap.size := by omega
    have p4_3 : w3.heap.size < w4.heap.size + 1 := by omega
    rw [HM.out]
    go_wp2_with fail
    all_goals
      refine (sum_any a cap vs _ hlen1 (HR.out.later (by (repeat (first | exact Below.refl _ _ | assumption | refine Below.drew ?_ | refine below_drewN ?_ _ | refine Below.alloc ?_ (by first | omega | (simp; done) | (simp; omega)) _ | refine Below.setCell ?_ (by first | omega | (simp; done) | (simp; omega)) _ | refine Below.trans ?_ (Below.mono (by assumption) (by first | omega | (simp; done) | (simp; omega)))))))).mono ?_
      rintro e w5 ⟨rfl, hb5⟩
      obtain ⟨hc5, hf5⟩ := bcell hb5
      have hz5 := hb5.size
      (try simp at hz5)
      have q5_0 : w.heap.size < w5.heap.size := by omega
      have p5_0 : w.heap.size < w5.heap.size + 1 := by omega
      have q5_1 : w.heap.size + 1 < w5.heap.size := by omega
      have p5_1 : w.heap.size + 1 < w5.heap.size + 1 := by omega
      have q5_2 : w2.heap.size < w5.heap.size := by omega
      have p5_2 : w2.heap.size < w5.heap.size + 1 := by omega
      have q5_3 : w3.heap.size < w5.heap.size := by omega
      have p5_3 : w3.heap.size < w5.heap.size + 1 := by omega
      have q5_4 : w4.heap.size < w5.heap.size := by omega
      have p5_4 : w4.heap.size < w5.heap.size + 1 := by omega
      rw [HT.out]
      go_wp2_with fail
      refine (turned_any a cap vs _ hlen2 (HR.out.later (by (repeat (first | exact Below.refl _ _ | assumption | refine Below.drew ?_ | refine below_drewN ?_ _ | refine Below.alloc ?_ (by first | omega | (simp; done) | (simp; omega)) _ | refine Below.setCell ?_ (by first | omega | (simp; done) | (simp; omega)) _ | refine Below.trans ?_ (Below.mono (by assumption) (by first | omega | (simp; done) | (simp; omega)))))))).mono ?_
      rintro e w6 ⟨a', cap', rfl, hrow', hb6⟩
      obtain ⟨hc6, hf6⟩ := bcell hb6
      have hz6 := hb6.size
      (try simp at hz6)
      have q6_0 : w.heap.size < w6.heap.size := by omega
      have p6_0 : w.heap.size < w6.heap.size + 1 := by omega
      have q6_1 : w.heap.size + 1 < w6.heap.size := by omega
      have p6_1 : w.heap.size + 1 < w6.heap.size + 1 := by omega
      have q6_2 : w2.heap.size < w6.heap.size := by omega
      have p6_2 : w2.heap.size < w6.heap.size + 1 := by omega
      have q6_3 : w3.heap.size < w6.heap.size := by omega
      have p6_3 : w3.heap.size < w6.heap.size + 1 := by omega
      have q6_4 : w4.heap.size < w6.heap.size := by omega
      have p6_4 : w4.heap.size < w6.heap.size + 1 := by omega
      have q6_5 : w5.heap.size < w6.heap.size := by omega
      have p6_5 : w5.heap.size < w6.heap.size + 1 := by omega
      go_wp2_with fail
      refine (sum_any a' cap' (turnedL vs) _ hlen3 hrow').mono ?_
      rintro e w7 ⟨rfl, hb7⟩
      obtain ⟨hc7, hf7⟩ := bcell hb7
      have hz7 := hb7.size
      (try simp at hz7)
      have q7_0 : w.heap.size < w7.heap.size := by omega
      have p7_0 : w.heap.size < w7.heap.size + 1 := by omega
      have q7_1 : w.heap.size + 1 < w7.heap.size := by omega
      have p7_1 : w.heap.size + 1 < w7.heap.size + 1 := by omega
      have q7_2 : w2.heap.size < w7.heap.size := by omega
      have p7_2 : w2.heap.size < w7.heap.size + 1 := by omega
      have q7_3 : w3.heap.size < w7.heap.size := by omega
      have p7_3 : w3.heap.size < w7.heap.size + 1 := by omega
      have q7_4 : w4.heap.size < w7.heap.size := by omega
      have p7_4 : w4.heap.size < w7.heap.size + 1 := by omega
      have q7_5 : w5.heap.size < w7.heap.size := by omega
      have p7_5 : w5.heap.size < w7.heap.size + 1 := by omega
      rw [HU.out]
      have HB : Below w.heap.size w w7 := by (repeat (first | exact Below.refl _ _ | assumption | refine Below.drew ?_ | refine below_drewN ?_ _ | refine Below.alloc ?_ (by first | omega | (simp; done) | (simp; omega)) _ | refine Below.setCell ?_ (by first | omega | (simp; done) | (simp; omega)) _ | refine Below.trans ?_ (Below.mono (by assumption) (by first | omega | (simp; done) | (simp; omega)))))
      rcases htail with h0 | ⟨h0, h⟩
      · have g0 : ¬ (0 : Int) < (vs.length : Int) := by omega
        go_wp2
        all_goals (go_ret; exact ⟨ret_bool rfl, by (repeat (first | exact Below.refl _ _ | assumption | refine Below.drew ?_ | refine below_drewN ?_ _ | refine Below.alloc ?_ (by first | omega | (simp; done) | (simp; omega)) _ | refine Below.setCell ?_ (by first | omega | (simp; done) | (simp; omega)) _ | refine Below.trans ?_ (Below.mono (by assumption) (by first | omega | (simp; done) | (simp; omega)))))⟩)
      · have g0 : (0 : Int) < (vs.length : Int) := by omega
        rcases h with g3 | ⟨rfl, h⟩
        · have g3' : (t3 == 0) = false := by simpa using g3
          clear g3
          go_wp2
          all_goals (go_ret; exact ⟨ret_bool rfl, by (repeat (first | exact Below.refl _ _ | assumption | refine Below.drew ?_ | refine below_drewN ?_ _ | refine Below.alloc ?_ (by first | omega | (simp; done) | (simp; omega)) _ | refine Below.setCell ?_ (by first | omega | (simp; done) | (simp; omega)) _ | refine Below.trans ?_ (Below.mono (by assumption) (by first | omega | (simp; done) | (simp; omega)))))⟩)
        · obtain ⟨b, off, rfl, c0, c1, c2⟩ := (HR.out.later HB).first h0
          have hbl : b < w7.heap.size := cell_lt c0
          have hbl' : b < w7.heap.size + 1 := by omega
          have i00 : (0 : Int) ≤ 0 := by omega
          go_wp2
          all_goals
            go_region_held3 (fun w' => w'.cell? ⟨w5.heap.size, 0, none⟩ = some (.int .i64 t1) ∧ w'.cell? ⟨w5.heap.size, 1, none⟩ = some (.int .i64 t2) ∧ w'.cell? ⟨w5.heap.size, 2, none⟩ = some (.string ⟨#[]⟩) ∧ w'.cell? ⟨w7.heap.size, 0, none⟩ = some (.int .i64 u1) ∧ w'.cell? ⟨w7.heap.size, 1, none⟩ = some (.int .i64 u2) ∧ w'.cell? ⟨w7.heap.size, 2, none⟩ = some (.string ⟨#[]⟩) ∧ w'.cell? ⟨b, off, none⟩ = some (.int .i64 (vs[0]).1) ∧ w'.cell? ⟨b, off + 1, none⟩ = some (.int .i64 (vs[0]).2.1) ∧ w'.cell? ⟨b, off + 2, none⟩ = some (.string (vs[0]).2.2)) (go_simp)
              (first | (go_at_call 11; refine (arith_any _ _ _ _ _ _ _ _).mono ?_; rintro e wv ⟨rfl, hbv⟩; obtain ⟨hcv, hfv⟩ := bcell hbv; have hzv := hbv.size; (try simp at hzv); (have x1 : w5.heap.size < wv.heap.size := by omega); (have x2 : w7.heap.size < wv.heap.size := by omega); (have x3 : b < wv.heap.size := by omega)))
            all_goals
              rcases h with j1 | ⟨rfl, j1 | ⟨j1, hV⟩⟩
              · have j1' : (t1 == 1) = false := by simpa using j1
                clear j1
                go_wp2
                all_goals (go_ret; exact ⟨ret_bool rfl, by (repeat (first | exact Below.refl _ _ | assumption | refine Below.drew ?_ | refine below_drewN ?_ _ | refine Below.alloc ?_ (by first | omega | (simp; done) | (simp; omega)) _ | refine Below.setCell ?_ (by first | omega | (simp; done) | (simp; omega)) _ | refine Below.trans ?_ (Below.mono (by assumption) (by first | omega | (simp; done) | (simp; omega)))))⟩)
              · have j1' : ((vs[0]).1 == 1) = false := by simpa using j1
                clear j1
                go_wp2
                all_goals (go_ret; exact ⟨ret_bool rfl, by (repeat (first | exact Below.refl _ _ | assumption | refine Below.drew ?_ | refine below_drewN ?_ _ | refine Below.alloc ?_ (by first | omega | (simp; done) | (simp; omega)) _ | refine Below.setCell ?_ (by first | omega | (simp; done) | (simp; omega)) _ | refine Below.trans ?_ (Below.mono (by assumption) (by first | omega | (simp; done) | (simp; omega)))))⟩)
              · have j1' : ((vs[0]).1 == 1) = true := by simpa using j1
                clear j1
                go_wp2
                all_goals (go_ret; exact ⟨ret_bool rfl, by (repeat (first | exact Below.refl _ _ | assumption | refine Below.drew ?_ | refine below_drewN ?_ _ | refine Below.alloc ?_ (by first | omega | (simp; done) | (simp; omega)) _ | refine Below.setCell ?_ (by first | omega | (simp; done) | (simp; omega)) _ | refine Below.trans ?_ (Below.mono (by assumption) (by first | omega | (simp; done) | (simp; omega)))))⟩)
end Go.Proofs.YtfabcdjgakhdmabDoor
