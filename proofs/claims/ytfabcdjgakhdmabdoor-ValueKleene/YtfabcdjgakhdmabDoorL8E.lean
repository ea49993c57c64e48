/- Walk of the law ValueKleene: an error. -/
import Derived.Test.YtfabcdjgakhdmabDoorW14
import Derived.Test.YtfabcdjgakhdmabDoorW23
import Derived.Test.YtfabcdjgakhdmabDoorW24
import Derived.Test.YtfabcdjgakhdmabDoorM11
import Derived.Test.YtfabcdjgakhdmabDoorC3
namespace Go.Proofs.YtfabcdjgakhdmabDoor
open Go.RowKit

set_option maxHeartbeats 8000000 in
set_option maxRecDepth 100000 in
theorem kleene_E (a : Option Addr) (cap : Nat) (vs : List V3) (b : Option Addr) (capm : Nat) (us : List V3) (w : World) (hl : vs.length ≤ 536870911) (hm : us.length ≤ 536870911) (hrow : Row w a vs) (hrowm : Row w b us) (er : Int) (he : (er != 0) = true) (HA : Hid (sett false vs = (0, 0, er))) (HAt : Hid (sett false (turnedL vs) = (0, 0, er))) (HC : Hid (sett true vs = (0, 0, er))) (HCt : Hid (sett true (turnedL vs) = (0, 0, er))) :
    Calls Tryd.prog 3 #[.slice a vs.length cap, .slice b us.length capm] w fun e w' => e = .returned (.bool true) ∧ Below w.heap.size w w' := by
  have HR : Hid (Row w a vs) := hrow
  have HM : Hid (Row w b us) := hrowm
  clear hrow hrowm
  have hlen1 : vs.length ≤ 2147483648 := by omega
  have hlen2 : vs.length ≤ 2147483647 := by omega
  have hlen3 : (turnedL vs).length ≤ 2147483648 := by simp [turnedL]; omega
  have hlen4 : us.length ≤ 2147483648 := by omega
  have hbig1 : ¬ (536870911 : Int) < (vs.length : Int) := by omega
  have hbig2 : ¬ (536870911 : Int) < (us.length : Int) := by omega
  go_enter Tryd.func3, Tryd.ntmps3
  go_wp2_with fail
  refine (awake_any _).mono ?_
  rintro e w1 ⟨rfl, hb1⟩
  obtain ⟨hc1, hf1⟩ := bcell hb1
  have hz1 := hb1.size
  (try simp at hz1)
  go_wp2_with fail
  refine (and_any a cap vs _ hlen1 (HR.out.later (by (repeat (first | exact Below.refl _ _ | assumption | refine Below.drew ?_ | refine below_drewN ?_ _ | refine Below.alloc ?_ (by first | omega | (simp; done) | (simp; omega)) _ | refine Below.setCell ?_ (by first | omega | (simp; done) | (simp; omega)) _ | refine Below.trans ?_ (Below.mono (by assumption) (by first | omega | (simp; done) | (simp; omega)))))))).mono ?_
  rintro e w2 ⟨rfl, hb2⟩
  obtain ⟨hc2, hf2⟩ := bcell hb2
  have hz2 := hb2.size
  (try simp at hz2)
  rw [HA.out]
  go_wp2_with fail
  refine (turned_any a cap vs _ hlen2 (HR.out.later (by (repeat (first | exact Below.refl _ _ | assumption | refine Below.drew ?_ | refine below_drewN ?_ _ | refine Below.alloc ?_ (by first | omega | (simp; done) | (simp; omega)) _ | refine Below.setCell ?_ (by first | omega | (simp; done) | (simp; omega)) _ | refine Below.trans ?_ (Below.mono (by assumption) (by first | omega | (simp; done) | (simp; omega)))))))).mono ?_
  rintro e w3 ⟨a', cap', rfl, hrow1, hb3⟩
  obtain ⟨hc3, hf3⟩ := bcell hb3
  have hz3 := hb3.size
  (try simp at hz3)
  have q3_0 : w2.heap.size < w3.heap.size := by omega
  have p3_0 : w2.heap.size < w3.heap.size + 1 := by omega
  have HR1 : Hid (Row w3 a' (turnedL vs)) := hrow1
  clear hrow1
  go_wp2_with fail
  refine (and_any a' cap' (turnedL vs) _ hlen3 HR1.out).mono ?_
  rintro e w4 ⟨rfl, hb4⟩
  obtain ⟨hc4, hf4⟩ := bcell hb4
  have hz4 := hb4.size
  (try simp at hz4)
  have q4_0 : w2.heap.size < w4.heap.size := by omega
  have p4_0 : w2.heap.size < w4.heap.size + 1 := by omega
  rw [HAt.out]
  go_wp2_with fail
  refine (vor_any a cap vs _ hlen1 (HR.out.later (by (repeat (first | exact Below.refl _ _ | assumption | refine Below.drew ?_ | refine below_drewN ?_ _ | refine Below.alloc ?_ (by first | omega | (simp; done) | (simp; omega)) _ | refine Below.setCell ?_ (by first | omega | (simp; done) | (simp; omega)) _ | refine Below.trans ?_ (Below.mono (by assumption) (by first | omega | (simp; done) | (simp; omega)))))))).mono ?_
  rintro e w5 ⟨rfl, hb5⟩
  obtain ⟨hc5, hf5⟩ := bcell hb5
  have hz5 := hb5.size
  (try simp at hz5)
  have q5_0 : w2.heap.size < w5.heap.size := by omega
  have p5_0 : w2.heap.size < w5.heap.size + 1 := by omega
  have q5_1 : w4.heap.size < w5.heap.size := by omega
  have p5_1 : w4.heap.size < w5.heap.size + 1 := by omega
  rw [HC.out]
  go_wp2_with fail
  refine (turned_any a cap vs _ hlen2 (HR.out.later (by (repeat (first | exact Below.refl _ _ | assumption | refine Below.drew ?_ | refine below_drewN ?_ _ | refine Below.alloc ?_ (by first | omega | (simp; done) | (simp; omega)) _ | refine Below.setCell ?_ (by first | omega | (simp; done) | (simp; omega)) _ | refine Below.trans ?_ (Below.mono (by assumption) (by first | omega | (simp; done) | (simp; omega)))))))).mono ?_
  rintro e w6 ⟨a2, cap2, rfl, hrow2, hb6⟩
  obtain ⟨hc6, hf6⟩ := bcell hb6
  have hz6 := hb6.size
  (try simp at hz6)
  have q6_0 : w2.heap.size < w6.heap.size := by omega
  have p6_0 : w2.heap.size < w6.heap.size + 1 := by omega
  have q6_1 : w4.heap.size < w6.heap.size := by omega
  have p6_1 : w4.heap.size < w6.heap.size + 1 := by omega
  have q6_2 : w5.heap.size < w6.heap.size := by omega
  have p6_2 : w5.heap.size < w6.heap.size + 1 := by omega
  have HR2 : Hid (Row w6 a2 (turnedL vs)) := hrow2
  clear hrow2
  go_wp2_with fail
  refine (vor_any a2 cap2 (turnedL vs) _ hlen3 HR2.out).mono ?_
  rintro e w7 ⟨rfl, hb7⟩
  obtain ⟨hc7, hf7⟩ := bcell hb7
  have hz7 := hb7.size
  (try simp at hz7)
  have q7_0 : w2.heap.size < w7.heap.size := by omega
  have p7_0 : w2.heap.size < w7.heap.size + 1 := by omega
  have q7_1 : w4.heap.size < w7.heap.size := by omega
  have p7_1 : w4.heap.size < w7.heap.size + 1 := by omega
  have q7_2 : w5.heap.size < w7.heap.size := by omega
  have p7_2 : w5.heap.size < w7.heap.size + 1 := by omega
  rw [HCt.out]
  go_wp2
  go_ret
  exact ⟨ret_bool rfl, by (repeat (first | exact Below.refl _ _ | assumption | refine Below.drew ?_ | refine below_drewN ?_ _ | refine Below.alloc ?_ (by first | omega | (simp; done) | (simp; omega)) _ | refine Below.setCell ?_ (by first | omega | (simp; done) | (simp; omega)) _ | refine Below.trans ?_ (Below.mono (by assumption) (by first | omega | (simp; done) | (simp; omega)))))⟩
end Go.Proofs.YtfabcdjgakhdmabDoor
