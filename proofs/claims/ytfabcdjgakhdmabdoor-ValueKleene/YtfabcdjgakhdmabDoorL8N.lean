/- Walk of the law ValueKleene: no error. -/
import Derived.Test.YtfabcdjgakhdmabDoorW14
import Derived.Test.YtfabcdjgakhdmabDoorW23
import Derived.Test.YtfabcdjgakhdmabDoorW24
import Derived.Test.YtfabcdjgakhdmabDoorM11
import Derived.Test.YtfabcdjgakhdmabDoorC3
namespace Go.Proofs.YtfabcdjgakhdmabDoor
open Go.RowKit

theorem and_len (a : Option Addr) (cap : Nat) (vs : List V3) (w : World) (n : Nat) (hn : vs.length = n) (hlen : vs.length ≤ 2147483648) (hrow : Row w a vs) :
    Calls Tryd.prog 7 #[.slice a n cap] w fun e w' => e = .returned (.tuple #[.agg #[.int .i64 (sett false vs).1, .int .i64 (sett false vs).2.1, .string ⟨#[]⟩], .int .i64 (sett false vs).2.2]) ∧ Below w.heap.size w w' := by
  subst hn
  exact and_any a cap vs w hlen hrow
theorem vor_len (a : Option Addr) (cap : Nat) (vs : List V3) (w : World) (n : Nat) (hn : vs.length = n) (hlen : vs.length ≤ 2147483648) (hrow : Row w a vs) :
    Calls Tryd.prog 9 #[.slice a n cap] w fun e w' => e = .returned (.tuple #[.agg #[.int .i64 (sett true vs).1, .int .i64 (sett true vs).2.1, .string ⟨#[]⟩], .int .i64 (sett true vs).2.2]) ∧ Below w.heap.size w w' := by
  subst hn
  exact vor_any a cap vs w hlen hrow
theorem own_later {w w' : World} {base : Nat} {e : TypeId} {size : Nat} {v : Value} {n : Nat} {xs : List Value} (h : w.ownsRow base e size v n xs) (hb : Below w.heap.size w w') : w'.ownsRow base e size v n xs :=
  h.kept (row := none) ⟨hb.os, hb.tape, hb.output, hb.size, fun k hk _ => hb.block k hk⟩ (by cases v.ownBlock <;> simp)

set_option maxHeartbeats 8000000 in
set_option maxRecDepth 100000 in
theorem kleene_N (a : Option Addr) (cap : Nat) (vs : List V3) (b : Option Addr) (capm : Nat) (us : List V3) (w : World) (hl : vs.length ≤ 536870911) (hm : us.length ≤ 536870911) (hrow : Row w a vs) (hrowm : Row w b us) (a1 a2 c1 c2 x1 x2 z1 z2 p1 p2 p3 : Int) (HAD : Hid (adm 2 vs = 0)) (HA : Hid (sett false vs = (a1, a2, 0))) (HAt : Hid (sett false (turnedL vs) = (a1, a2, 0))) (HC : Hid (sett true vs = (c1, c2, 0))) (HCt : Hid (sett true (turnedL vs) = (c1, c2, 0)))
    (HX : Hid (sett true (vs.map notV) = (x1, x2, 0))) (HY : Hid (notR a1 a2 ⟨#[]⟩ = (x1, x2, 0))) (HZ : Hid (sett false (vs.map notV) = (z1, z2, 0))) (HW : Hid (notR c1 c2 ⟨#[]⟩ = (z1, z2, 0))) (HP : Hid (sett false us = (p1, p2, p3)))
    (hfin : (p3 != 0) = true ∨ (p3 = 0 ∧ ∃ s1 s2 : Int, sett false (vs ++ us) = (s1, s2, 0) ∧ sett false [(a1, a2, (⟨#[]⟩ : ByteArray)), (p1, p2, (⟨#[]⟩ : ByteArray))] = (s1, s2, 0))) :
    Calls Tryd.prog 3 #[.slice a vs.length cap, .slice b us.length capm] w fun e w' => e = .returned (.bool true) ∧ Below w.heap.size w w' := by
  obtain ⟨i0, hi, iz0, iz1, iz2⟩ := info_parts Tryd.info23
  have HR : Hid (Row w a vs) := hrow
  have HM : Hid (Row w b us) := hrowm
  clear hrow hrowm
  have hlen1 : vs.length ≤ 2147483648 := by omega
  have hlen2 : vs.length ≤ 2147483647 := by omega
  have hlen3 : (turnedL vs).length ≤ 2147483648 := by simp [turnedL]; omega
  have hlen4 : us.length ≤ 2147483648 := by omega
  have hbig1 : ¬ (536870911 : Int) < (vs.length : Int) := by omega
  have hbig2 : ¬ (536870911 : Int) < (us.length : Int) := by omega
  go_enter Tryd.func3, Tryd.ntmps3
  go_wp2_with fail
  refine (awake_any _).mono ?_
  rintro e w1 ⟨rfl, hb1⟩
  obtain ⟨hc1, hf1⟩ := bcell hb1
  have hz1 := hb1.size
  (try simp at hz1)
  go_wp2_with fail
  refine (and_any a cap vs _ hlen1 (HR.out.later (by (repeat (first | exact Below.refl _ _ | assumption | refine Below.drew ?_ | refine below_drewN ?_ _ | refine Below.alloc ?_ (by first | omega | (simp; done) | (simp; omega)) _ | refine Below.setCell ?_ (by first | omega | (simp; done) | (simp; omega)) _ | refine Below.trans ?_ (Below.mono (by assumption) (by first | omega | (simp; done) | (simp; omega)))))))).mono ?_
  rintro e w2 ⟨rfl, hb2⟩
  obtain ⟨hc2, hf2⟩ := bcell hb2
  have hz2 := hb2.size
  (try simp at hz2)
  rw [HA.out]
  go_wp2_with fail
  refine (turned_any a cap vs _ hlen2 (HR.out.later (by (repeat (first | exact Below.refl _ _ | assumption | refine Below.drew ?_ | refine below_drewN ?_ _ | refine Below.alloc ?_ (by first | omega | (simp; done) | (simp; omega)) _ | refine Below.setCell ?_ (by first | omega | (simp; done) | (simp; omega)) _ | refine Below.trans ?_ (Below.mono (by assumption) (by first | omega | (simp; done) | (simp; omega)))))))).mono ?_
  rintro e w3 ⟨a', cap', rfl, hrow1, hb3⟩
  obtain ⟨hc3, hf3⟩ := bcell hb3
  have hz3 := hb3.size
  (try simp at hz3)
  have q3_0 : w2.heap.size < w3.heap.size := by omega
  have p3_0 : w2.heap.size < w3.heap.size + 1 := by omega
  have HR1 : Hid (Row w3 a' (turnedL vs)) := hrow1
  clear hrow1
  go_wp2_with fail
  refine (and_any a' cap' (turnedL vs) _ hlen3 HR1.out).mono ?_
  rintro e w4 ⟨rfl, hb4⟩
  obtain ⟨hc4, hf4⟩ := bcell hb4
  have hz4 := hb4.size
  (try simp at hz4)
  have q4_0 : w2.heap.size < w4.heap.size := by omega
  have p4_0 : w2.heap.size < w4.heap.size + 1 := by omega
  rw [HAt.out]
  go_wp2_with fail
  refine (vor_any a cap vs _ hlen1 (HR.out.later (by (repeat (first | exact Below.refl _ _ | assumption | refine Below.drew ?_ | refine below_drewN ?_ _ | refine Below.alloc ?_ (by first | omega | (simp; done) | (simp; omega)) _ | refine Below.setCell ?_ (by first | omega | (simp; done) | (simp; omega)) _ | refine Below.trans ?_ (Below.mono (by assumption) (by first | omega | (simp; done) | (simp; omega)))))))).mono ?_
  rintro e w5 ⟨rfl, hb5⟩
  obtain ⟨hc5, hf5⟩ := bcell hb5
  have hz5 := hb5.size
  (try simp at hz5)
  have q5_0 : w2.heap.size < w5.heap.size := by omega
  have p5_0 : w2.heap.size < w5.heap.size + 1 := by omega
  have q5_1 : w4.heap.size < w5.heap.size := by omega
  have p5_1 : w4.heap.size < w5.heap.size + 1 := by omega
  rw [HC.out]
  go_wp2_with fail
  refine (turned_any a cap vs _ hlen2 (HR.out.later (by (repeat (first | exact Below.refl _ _ | assumption | refine Below.drew ?_ | refine below_drewN ?_ _ | refine Below.alloc ?_ (by first | omega | (simp; done) | (simp; omega)) _ | refine Below.setCell ?_ (by first | omega | (simp; done) | (simp; omega)) _ | refine Below.trans ?_ (Below.mono (by assumption) (by first | omega | (simp; done) | (simp; omega)))))))).mono ?_
  rintro e w6 ⟨at2, capt, rfl, hrow2, hb6⟩
  obtain ⟨hc6, hf6⟩ := bcell hb6
  have hz6 := hb6.size
  (try simp at hz6)
  have q6_0 : w2.heap.size < w6.heap.size := by omega
  have p6_0 : w2.heap.size < w6.heap.size + 1 := by omega
  have q6_1 : w4.heap.size < w6.heap.size := by omega
  have p6_1 : w4.heap.size < w6.heap.size + 1 := by omega
  have q6_2 : w5.heap.size < w6.heap.size := by omega
  have p6_2 : w5.heap.size < w6.heap.size + 1 := by omega
  have HR2 : Hid (Row w6 at2 (turnedL vs)) := hrow2
  clear hrow2
  go_wp2_with fail
  refine (vor_any at2 capt (turnedL vs) _ hlen3 HR2.out).mono ?_
  rintro e w7 ⟨rfl, hb7⟩
  obtain ⟨hc7, hf7⟩ := bcell hb7
  have hz7 := hb7.size
  (try simp at hz7)
  have q7_0 : w2.heap.size < w7.heap.size := by omega
  have p7_0 : w2.heap.size < w7.heap.size + 1 := by omega
  have q7_1 : w4.heap.size < w7.heap.size := by omega
  have p7_1 : w4.heap.size < w7.heap.size + 1 := by omega
  have q7_2 : w5.heap.size < w7.heap.size := by omega
  have p7_2 : w5.heap.size < w7.heap.size + 1 := by omega
  rw [HCt.out]
  have hsz7 : w.heap.size ≤ w7.heap.size := by omega
  have HB7 : Below w.heap.size w w7 := by (repeat (first | exact Below.refl _ _ | assumption | refine Below.drew ?_ | refine below_drewN ?_ _ | refine Below.alloc ?_ (by first | omega | (simp; done) | (simp; omega)) _ | refine Below.setCell ?_ (by first | omega | (simp; done) | (simp; omega)) _ | refine Below.trans ?_ (Below.mono (by assumption) (by first | omega | (simp; done) | (simp; omega)))))
  go_wp2
  go_loopw [14, 15] (fun v i wr => ∃ k : Nat, k ≤ vs.length ∧ i = .int .i64 k ∧ wr.ownsRow (w7.heap.size + 1) 25 3 v k (vc ((vs.map notV).take k)) ∧ Below (w7.heap.size + 1) (w7.alloc (.cells #[.int .i64 c1, .int .i64 c2, .string ⟨#[]⟩] 25)) wr) (fun _ i _ => vs.length - (intOf i).toNat)
  case atStart => exact ⟨0, Nat.zero_le _, rfl, by simpa [vc] using World.ownsRow_nil (w7.alloc (.cells #[.int .i64 c1, .int .i64 c2, .string ⟨#[]⟩] 25)) (w7.heap.size + 1) 25 3, Below.refl _ _⟩
  case round =>
    obtain ⟨k, hk, rfl, hown, hb⟩ := hrel
    have hszr := hb.size
    simp at hszr
    have hbw : Below w.heap.size w wr := (HB7.alloc hsz7 _).trans (hb.mono (by omega))
    by_cases hlt : k < vs.length
    · obtain ⟨bb, off, rfl, d0', d1', d2'⟩ := HR.out k hlt
      have d0 := cell_later hbw d0'
      have d1 := cell_later hbw d1'
      have d2 := cell_later hbw d2'
      clear d0' d1' d2'
      have hN := not_err HAD.out (List.getElem_mem hlt)
      have hlti : (k : Int) < (vs.length : Int) := by omega
      have HS : Hid ((vs.map notV).take (k + 1) = (vs.map notV).take k ++ [notV (vs[k])]) := by
        show _ = _
        rw [List.take_succ_eq_append_getElem (by simpa using hlt), List.getElem_map]
      have HOW : Hid (wr.ownsRow (w7.heap.size + 1) 25 3 u14 k (vc ((vs.map notV).take k))) := hown
      clear hown
      go_wp2_with (first | (go_at_call 10; refine (not_any _ _ _ _).mono ?_; rintro e wn ⟨rfl, hbn⟩; obtain ⟨hcn, hfn⟩ := bcell hbn; have hzn := hbn.size) | (at_builtin; refine wpList_append_own _ rfl _ _ 22 rfl (w7.heap.size + 1) 25 i0 _ 3 32 Tryd.underlying22 hi iz0 iz1 iz2 rfl (by decide) _ _ _ rfl (((own_later HOW.out hbn).alloc _).alloc _) ⟨wn.heap.size + 1, 0, none⟩ 1 1 (vc [notV (vs[k])]) rfl rfl ?c1 ?c2 ?c3 ?c4 ?c5 ?_))
      case c1 =>
        intro j u hj
        match j, hj with
        | 0, hj => simp [vc, notV] at hj; subst hj; simp [Addr.add]
        | 1, hj => simp [vc, notV] at hj; subst hj; simp [Addr.add]
        | 2, hj => simp [vc, notV] at hj; subst hj; simp [Addr.add]
      case c2 => exact vc_one _
      case c3 => unfold maxLen; omega
      case c4 => omega
      case c5 => simp; omega
      · intro v' wa hown' hgrow _
        have hlt' := HOW.out.lt
        have hbb : Below (w7.heap.size + 1) (w7.alloc (.cells #[.int .i64 c1, .int .i64 c2, .string ⟨#[]⟩] 25)) wa := (((hb.trans (hbn.mono (by omega))).alloc (by omega) _).alloc (by simp; omega) _).grown hgrow (by simp; omega) fun k hk => (hlt' k hk).1
        rw [← vc_append] at hown'
        have HO2 : Hid (wa.ownsRow (w7.heap.size + 1) 25 3 v' (k + 1) (vc ((vs.map notV).take (k + 1)))) := by
          show World.ownsRow _ _ _ _ _ _ _
          rw [HS.out]; exact hown'
        clear hown' hgrow hlt'
        go_wp2
        go_roundw
        case rel => exact ⟨k + 1, by omega, by go_num, HO2.out, hbb⟩
        case measure => simp [intOf]; omega
    · have hk' : k = vs.length := by omega
      subst hk'
      rw [List.take_of_length_le (by simp)] at hown
      obtain ⟨an, capn, rfl, hrown⟩ := Row.of_own hown
      have HRN : Hid (Row wr an (vs.map notV)) := hrown
      have hlenn : (vs.map notV).length ≤ 2147483648 := by simpa using hlen1
      have hbL : Below (w7.alloc (.cells #[.int .i64 c1, .int .i64 c2, .string ⟨#[]⟩] 25)).heap.size (w7.alloc (.cells #[.int .i64 c1, .int .i64 c2, .string ⟨#[]⟩] 25)) wr := by simpa using hb
      clear hown hrown hb
      have hk0 : ¬ ((vs.length : Int) < (vs.length : Int)) := by omega
      obtain ⟨hcL, hfL⟩ := bcell hbL
      have hzL := hbL.size
      (try simp at hzL)
      have qL_0 : w2.heap.size < wr.heap.size := by omega
      have pL_0 : w2.heap.size < wr.heap.size + 1 := by omega
      have qL_1 : w4.heap.size < wr.heap.size := by omega
      have pL_1 : w4.heap.size < wr.heap.size + 1 := by omega
      have qL_2 : w5.heap.size < wr.heap.size := by omega
      have pL_2 : w5.heap.size < wr.heap.size + 1 := by omega
      have qL_3 : w7.heap.size < wr.heap.size := by omega
      have pL_3 : w7.heap.size < wr.heap.size + 1 := by omega
      go_wp2_with fail
      refine (vor_len an capn (vs.map notV) _ vs.length (by simp) hlenn (HRN.out.later (by (repeat (first | exact Below.refl _ _ | assumption | refine Below.drew ?_ | refine below_drewN ?_ _ | refine Below.alloc ?_ (by first | omega | (simp; done) | (simp; omega)) _ | refine Below.setCell ?_ (by first | omega | (simp; done) | (simp; omega)) _ | refine Below.trans ?_ (Below.mono (by assumption) (by first | omega | (simp; done) | (simp; omega)))))))).mono ?_
      rintro e w21 ⟨rfl, hb21⟩
      obtain ⟨hc21, hf21⟩ := bcell hb21
      have hz21 := hb21.size
      (try simp at hz21)
      have q21_0 : w2.heap.size < w21.heap.size := by omega
      have p21_0 : w2.heap.size < w21.heap.size + 1 := by omega
      have q21_1 : w4.heap.size < w21.heap.size := by omega
      have p21_1 : w4.heap.size < w21.heap.size + 1 := by omega
      have q21_2 : w5.heap.size < w21.heap.size := by omega
      have p21_2 : w5.heap.size < w21.heap.size + 1 := by omega
      have q21_3 : w7.heap.size < w21.heap.size := by omega
      have p21_3 : w7.heap.size < w21.heap.size + 1 := by omega
      rw [HX.out]
      go_wp2_with fail
      refine (not_any _ _ _ _).mono ?_
      rintro e w22 ⟨rfl, hb22⟩
      obtain ⟨hc22, hf22⟩ := bcell hb22
      have hz22 := hb22.size
      (try simp at hz22)
      have q22_0 : w2.heap.size < w22.heap.size := by omega
      have p22_0 : w2.heap.size < w22.heap.size + 1 := by omega
      have q22_1 : w4.heap.size < w22.heap.size := by omega
      have p22_1 : w4.heap.size < w22.heap.size + 1 := by omega
      have q22_2 : w5.heap.size < w22.heap.size := by omega
      have p22_2 : w5.heap.size < w22.heap.size + 1 := by omega
      have q22_3 : w7.heap.size < w22.heap.size := by omega
      have p22_3 : w7.heap.size < w22.heap.size + 1 := by omega
      have q22_4 : w21.heap.size < w22.heap.size := by omega
      have p22_4 : w21.heap.size < w22.heap.size + 1 := by omega
      rw [HY.out]
      go_wp2_with fail
      refine (and_len an capn (vs.map notV) _ vs.length (by simp) hlenn (HRN.out.later (by (repeat (first | exact Below.refl _ _ | assumption | refine Below.drew ?_ | refine below_drewN ?_ _ | refine Below.alloc ?_ (by first | omega | (simp; done) | (simp; omega)) _ | refine Below.setCell ?_ (by first | omega | (simp; done) | (simp; omega)) _ | refine Below.trans ?_ (Below.mono (by assumption) (by first | omega | (simp; done) | (simp; omega)))))))).mono ?_
      rintro e w23 ⟨rfl, hb23⟩
      obtain ⟨hc23, hf23⟩ := bcell hb23
      have hz23 := hb23.size
      (try simp at hz23)
      have q23_0 : w2.heap.size < w23.heap.size := by omega
      have p23_0 : w2.heap.size < w23.heap.size + 1 := by omega
      have q23_1 : w4.heap.size < w23.heap.size := by omega
      have p23_1 : w4.heap.size < w23.heap.size + 1 := by omega
      have q23_2 : w5.heap.size < w23.heap.size := by omega
      have p23_2 : w5.heap.size < w23.heap.size + 1 := by omega
      have q23_3 : w7.heap.size < w23.heap.size := by omega
      have p23_3 : w7.heap.size < w23.heap.size + 1 := by omega
      have q23_4 : w21.heap.size < w23.heap.size := by omega
      have p23_4 : w21.heap.size < w23.heap.size + 1 := by omega
      have q23_5 : w22.heap.size < w23.heap.size := by omega
      have p23_5 : w22.heap.size < w23.heap.size + 1 := by omega
      rw [HZ.out]
      go_wp2_with fail
      refine (not_any _ _ _ _).mono ?_
      rintro e w24 ⟨rfl, hb24⟩
      obtain ⟨hc24, hf24⟩ := bcell hb24
      have hz24 := hb24.size
      (try simp at hz24)
      have q24_0 : w2.heap.size < w24.heap.size := by omega
      have p24_0 : w2.heap.size < w24.heap.size + 1 := by omega
      have q24_1 : w4.heap.size < w24.heap.size := by omega
      have p24_1 : w4.heap.size < w24.heap.size + 1 := by omega
      have q24_2 : w5.heap.size < w24.heap.size := by omega
      have p24_2 : w5.heap.size < w24.heap.size + 1 := by omega
      have q24_3 : w7.heap.size < w24.heap.size := by omega
      have p24_3 : w7.heap.size < w24.heap.size + 1 := by omega
      have q24_4 : w21.heap.size < w24.heap.size := by omega
      have p24_4 : w21.heap.size < w24.heap.size + 1 := by omega
      have q24_5 : w22.heap.size < w24.heap.size := by omega
      have p24_5 : w22.heap.size < w24.heap.size + 1 := by omega
      have q24_6 : w23.heap.size < w24.heap.size := by omega
      have p24_6 : w23.heap.size < w24.heap.size + 1 := by omega
      rw [HW.out]
      go_wp2_with fail
      refine (and_any b capm us _ hlen4 (HM.out.later (by (repeat (first | exact Below.refl _ _ | assumption | refine Below.drew ?_ | refine below_drewN ?_ _ | refine Below.alloc ?_ (by first | omega | (simp; done) | (simp; omega)) _ | refine Below.setCell ?_ (by first | omega | (simp; done) | (simp; omega)) _ | refine Below.trans ?_ (Below.mono (by assumption) (by first | omega | (simp; done) | (simp; omega)))))))).mono ?_
      rintro e w25 ⟨rfl, hb25⟩
      obtain ⟨hc25, hf25⟩ := bcell hb25
      have hz25 := hb25.size
      (try simp at hz25)
      have q25_0 : w2.heap.size < w25.heap.size := by omega
      have p25_0 : w2.heap.size < w25.heap.size + 1 := by omega
      have q25_1 : w4.heap.size < w25.heap.size := by omega
      have p25_1 : w4.heap.size < w25.heap.size + 1 := by omega
      have q25_2 : w5.heap.size < w25.heap.size := by omega
      have p25_2 : w5.heap.size < w25.heap.size + 1 := by omega
      have q25_3 : w7.heap.size < w25.heap.size := by omega
      have p25_3 : w7.heap.size < w25.heap.size + 1 := by omega
      have q25_4 : w21.heap.size < w25.heap.size := by omega
      have p25_4 : w21.heap.size < w25.heap.size + 1 := by omega
      have q25_5 : w22.heap.size < w25.heap.size := by omega
      have p25_5 : w22.heap.size < w25.heap.size + 1 := by omega
      have q25_6 : w23.heap.size < w25.heap.size := by omega
      have p25_6 : w23.heap.size < w25.heap.size + 1 := by omega
      have q25_7 : w24.heap.size < w25.heap.size := by omega
      have p25_7 : w24.heap.size < w25.heap.size + 1 := by omega
      rw [HP.out]
      have HBW : Below w.heap.size w w25 := by (repeat (first | exact Below.refl _ _ | assumption | refine Below.drew ?_ | refine below_drewN ?_ _ | refine Below.alloc ?_ (by first | omega | (simp; done) | (simp; omega)) _ | refine Below.setCell ?_ (by first | omega | (simp; done) | (simp; omega)) _ | refine Below.trans ?_ (Below.mono (by assumption) (by first | omega | (simp; done) | (simp; omega)))))
      have hsz25 : w.heap.size ≤ w25.heap.size := by omega
      rcases hfin with g3 | ⟨rfl, s1, s2, e1, e2⟩
      · go_wp2
        go_ret
        exact ⟨ret_bool rfl, by (repeat (first | exact Below.refl _ _ | assumption | refine Below.drew ?_ | refine below_drewN ?_ _ | refine Below.alloc ?_ (by first | omega | (simp; done) | (simp; omega)) _ | refine Below.setCell ?_ (by first | omega | (simp; done) | (simp; omega)) _ | refine Below.trans ?_ (Below.mono (by assumption) (by first | omega | (simp; done) | (simp; omega)))))⟩
      · have HE1 : Hid (sett false (vs ++ us) = (s1, s2, 0)) := e1
        have HE2 : Hid (sett false [(a1, a2, (⟨#[]⟩ : ByteArray)), (p1, p2, (⟨#[]⟩ : ByteArray))] = (s1, s2, 0)) := e2
        clear e1 e2
        have HBY : Below w.heap.size w (w25.alloc (.cells #[.int .i64 p1, .int .i64 p2, .string ⟨#[]⟩] 25)) := HBW.alloc hsz25 _
        have HCL := (HR.out.later HBY).cells
        have HN0 := World.ownsRow_nil (w25.alloc (.cells #[.int .i64 p1, .int .i64 p2, .string ⟨#[]⟩] 25)) (w25.heap.size + 1) 25 3
        have HH1 : Hid (0 < (vc vs).length → ∃ ad, a = some ad ∧ ∀ j u, (vc vs)[j]? = some u → (w25.alloc (.cells #[.int .i64 p1, .int .i64 p2, .string ⟨#[]⟩] 25)).cell? (ad.add j) = some u) := HCL
        have HH0 : Hid ((w25.alloc (.cells #[.int .i64 p1, .int .i64 p2, .string ⟨#[]⟩] 25)).ownsRow (w25.heap.size + 1) 25 3 (.slice none 0 0) 0 []) := HN0
        clear HCL HN0
        go_wp2_with (first | (at_builtin; refine wpList_append_whole _ rfl (.tmp 159) (.tmp 160) 22 rfl (w25.heap.size + 1) 25 i0 _ 3 32 Tryd.underlying22 hi iz0 iz1 iz2 rfl (by decide) _ _ _ rfl HH0.out a vs.length cap (vc vs) rfl (vc_length vs) HH1.out (vc_one vs) (by unfold maxLen; omega) (by omega) (by simp) ?_; intro v1 wp hownp hgrp; (have HOP : Hid (wp.ownsRow (w25.heap.size + 1) 25 3 v1 (0 + vs.length) ([] ++ vc vs)) := hownp); (have hbp : Below (w25.alloc (.cells #[.int .i64 p1, .int .i64 p2, .string ⟨#[]⟩] 25)).heap.size (w25.alloc (.cells #[.int .i64 p1, .int .i64 p2, .string ⟨#[]⟩] 25)) wp := (Below.refl _ _).grown hgrp (Nat.le_refl _) (fun k hk => by cases hk)); (have HBP : Below w.heap.size w wp := HBY.trans (hbp.mono (by simp; omega))); (have HPC : Hid (0 < (vc us).length → ∃ ad, b = some ad ∧ ∀ j u, (vc us)[j]? = some u → wp.cell? (ad.add j) = some u) := (HM.out.later HBP).cells); (have hzp := hbp.size); clear hownp hgrp) | (at_builtin; refine wpList_append_whole _ rfl (.tmp 162) (.tmp 163) 22 rfl (w25.heap.size + 1) 25 i0 _ 3 32 Tryd.underlying22 hi iz0 iz1 iz2 rfl (by decide) _ _ _ rfl HOP.out b us.length capm (vc us) rfl (vc_length us) HPC.out (vc_one us) (by unfold maxLen; omega) (by omega) (by simp at hzp; omega) ?_; intro v2 wq hownq hgrq; (have hltp := HOP.out.lt); (have hbq : Below (w25.alloc (.cells #[.int .i64 p1, .int .i64 p2, .string ⟨#[]⟩] 25)).heap.size (w25.alloc (.cells #[.int .i64 p1, .int .i64 p2, .string ⟨#[]⟩] 25)) wq := hbp.grown hgrq hzp (fun k hk => by have := (hltp k hk).1; simpa using this)); (have hq : wq.ownsRow (w25.heap.size + 1) 25 3 v2 (0 + vs.length + us.length) (vc (vs ++ us)) := by rw [vc_append]; simpa using hownq); clear hownq hgrq hltp; obtain ⟨ab, capb, rfl, hrb⟩ := Row.of_own hq; (have HRB : Hid (Row wq ab (vs ++ us)) := hrb); clear hq hrb) | fail)
        obtain ⟨hcQ, hfQ⟩ := bcell hbq
        have hzQ := hbq.size
        (try simp at hzQ)
        have qQ_0 : w2.heap.size < wq.heap.size := by omega
        have pQ_0 : w2.heap.size < wq.heap.size + 1 := by omega
        have qQ_1 : w4.heap.size < wq.heap.size := by omega
        have pQ_1 : w4.heap.size < wq.heap.size + 1 := by omega
        have qQ_2 : w5.heap.size < wq.heap.size := by omega
        have pQ_2 : w5.heap.size < wq.heap.size + 1 := by omega
        have qQ_3 : w7.heap.size < wq.heap.size := by omega
        have pQ_3 : w7.heap.size < wq.heap.size + 1 := by omega
        have qQ_4 : w21.heap.size < wq.heap.size := by omega
        have pQ_4 : w21.heap.size < wq.heap.size + 1 := by omega
        have qQ_5 : w22.heap.size < wq.heap.size := by omega
        have pQ_5 : w22.heap.size < wq.heap.size + 1 := by omega
        have qQ_6 : w23.heap.size < wq.heap.size := by omega
        have pQ_6 : w23.heap.size < wq.heap.size + 1 := by omega
        have qQ_7 : w24.heap.size < wq.heap.size := by omega
        have pQ_7 : w24.heap.size < wq.heap.size + 1 := by omega
        have qQ_8 : w25.heap.size < wq.heap.size := by omega
        have pQ_8 : w25.heap.size < wq.heap.size + 1 := by omega
        have hlenb : (vs ++ us).length ≤ 2147483648 := by simp; omega
        go_wp2_with fail
        refine (and_len ab capb (vs ++ us) _ (vs.length + us.length) (by simp) hlenb HRB.out).mono ?_
        rintro e w31 ⟨rfl, hb31⟩
        obtain ⟨hc31, hf31⟩ := bcell hb31
        have hz31 := hb31.size
        (try simp at hz31)
        have q31_0 : w2.heap.size < w31.heap.size := by omega
        have p31_0 : w2.heap.size < w31.heap.size + 1 := by omega
        have q31_1 : w4.heap.size < w31.heap.size := by omega
        have p31_1 : w4.heap.size < w31.heap.size + 1 := by omega
        have q31_2 : w5.heap.size < w31.heap.size := by omega
        have p31_2 : w5.heap.size < w31.heap.size + 1 := by omega
        have q31_3 : w7.heap.size < w31.heap.size := by omega
        have p31_3 : w7.heap.size < w31.heap.size + 1 := by omega
        have q31_4 : w21.heap.size < w31.heap.size := by omega
        have p31_4 : w21.heap.size < w31.heap.size + 1 := by omega
        have q31_5 : w22.heap.size < w31.heap.size := by omega
        have p31_5 : w22.heap.size < w31.heap.size + 1 := by omega
        have q31_6 : w23.heap.size < w31.heap.size := by omega
        have p31_6 : w23.heap.size < w31.heap.size + 1 := by omega
        have q31_7 : w24.heap.size < w31.heap.size := by omega
        have p31_7 : w24.heap.size < w31.heap.size + 1 := by omega
        have q31_8 : w25.heap.size < w31.heap.size := by omega
        have p31_8 : w25.heap.size < w31.heap.size + 1 := by omega
        rw [HE1.out]
        go_wp2_with fail
        refine (and2 _ _ _ _ _ _ _ _ _ (by simp)).mono ?_
        rintro e w32 ⟨rfl, hb32⟩
        obtain ⟨hc32, hf32⟩ := bcell hb32
        have hz32 := hb32.size
        (try simp at hz32)
        have q32_0 : w2.heap.size < w32.heap.size := by omega
        have p32_0 : w2.heap.size < w32.heap.size + 1 := by omega
        have q32_1 : w4.heap.size < w32.heap.size := by omega
        have p32_1 : w4.heap.size < w32.heap.size + 1 := by omega
        have q32_2 : w5.heap.size < w32.heap.size := by omega
        have p32_2 : w5.heap.size < w32.heap.size + 1 := by omega
        have q32_3 : w7.heap.size < w32.heap.size := by omega
        have p32_3 : w7.heap.size < w32.heap.size + 1 := by omega
        have q32_4 : w21.heap.size < w32.heap.size := by omega
        have p32_4 : w21.heap.size < w32.heap.size + 1 := by omega
        have q32_5 : w22.heap.size < w32.heap.size := by omega
        have p32_5 : w22.heap.size < w32.heap.size + 1 := by omega
        have q32_6 : w23.heap.size < w32.heap.size := by omega
        have p32_6 : w23.heap.size < w32.heap.size + 1 := by omega
        have q32_7 : w24.heap.size < w32.heap.size := by omega
        have p32_7 : w24.heap.size < w32.heap.size + 1 := by omega
        have q32_8 : w25.heap.size < w32.heap.size := by omega
        have p32_8 : w25.heap.size < w32.heap.size + 1 := by omega
        have q32_9 : w31.heap.size < w32.heap.size := by omega
        have p32_9 : w31.heap.size < w32.heap.size + 1 := by omega
        rw [HE2.out]
        go_wp2
        go_ret
        exact ⟨ret_bool rfl, by (repeat (first | exact Below.refl _ _ | assumption | refine Below.drew ?_ | refine below_drewN ?_ _ | refine Below.alloc ?_ (by first | omega | (simp; done) | (simp; omega)) _ | refine Below.setCell ?_ (by first | omega | (simp; done) | (simp; omega)) _ | refine Below.trans ?_ (Below.mono (by assumption) (by first | omega | (simp; done) | (simp; omega)))))⟩
end Go.Proofs.YtfabcdjgakhdmabDoor
