/- Walks of layer 8: whether something holds of each. -/
import Derived.Test.YtkgkkcefnonejaaGreatT3
namespace Go.Proofs.YtkgkkcefnonejaaGreat
open Go.RowKit

set_option maxHeartbeats 4000000 in
set_option maxRecDepth 100000 in
theorem evTb_any (w0 w : World) (a : Option Addr) (cap : Nat) (l : List Tb) (x0 : Nat) (H : Nat → Bool) (Inv : Nat → World → Prop) (hl : l.length ≤ 1000000) (hr : RowR 5 (TbR w0) w0 a l) (h0 : Inv 0 w) (hb : Below w0.heap.size w0 w)
    (hI : ∀ k w1 w2, Inv k w1 → Below w1.heap.size w1 w2 → Inv k w2)
    (hC : ∀ k (h : k < l.length) vs w1, TbR w0 l[k] vs → Inv k w1 → Below w0.heap.size w0 w1 → Calls Tryz.prog 37 #[.agg vs.toArray, .pointer (some ⟨x0, 0, none⟩)] w1 fun e w2 => e = .returned (.bool (H k)) ∧ (H k = true → Inv (k + 1) w2) ∧ Below w0.heap.size w0 w2) :
    Calls Tryz.prog 36 #[.slice a l.length cap, .func (.func 37) #[] #[.pointer (some ⟨x0, 0, none⟩)]] w fun e w' => e = .returned (.bool (allB l.length H)) ∧ (allB l.length H = true → Inv l.length w') ∧ Below w0.heap.size w0 w' := by
  have HR := Lib.hid hr
  have HI := Lib.hid hI
  have HC := Lib.hid hC
  have H0 := Lib.hid h0
  have HB0 := Lib.hid hb
  clear hr hI hC h0 hb
  go_enter Tryz.func36, Tryz.ntmps36
  go_wp2
  go_loopw [9] (fun i wr => ∃ k : Nat, k ≤ l.length ∧ i = .int .i64 k ∧ (∀ j, j < k → H j = true) ∧ Inv k wr ∧ Below w0.heap.size w0 wr) (fun i _ => l.length - (intOf i).toNat)
  case atStart => exact ⟨0, Nat.zero_le _, rfl, fun j g => absurd g (Nat.not_lt_zero _), H0.out, HB0.out⟩
  case round =>
    clear H0 HB0
    obtain ⟨k, hk, rfl, hall, hinv, hb1⟩ := hrel
    have HA := Lib.hid hall
    have HV := Lib.hid hinv
    have HB := Lib.hid hb1
    have hsz := hb1.size
    clear hall hinv hb1
    by_cases hlt : k < l.length
    · have hlti : (k : Int) < (l.length : Int) := by omega
      obtain ⟨b, off, v0, v1, v2, v3, v4, rfl, hR, c0, c1, c2, c3, c4⟩ := HR.out.at5 hlt
      have HRk := Lib.hid hR
      obtain ⟨pc, cc, pk, ck, px, cx, hR, _, _, _⟩ := hR
      simp only [List.cons.injEq, and_true] at hR
      obtain ⟨rfl, rfl, rfl, rfl, rfl⟩ := hR
      have d0 := (HB.out.cell (cell_lt c0)).trans c0
      have d1 := (HB.out.cell (cell_lt c1)).trans c1
      have d2 := (HB.out.cell (cell_lt c2)).trans c2
      have d3 := (HB.out.cell (cell_lt c3)).trans c3
      have d4 := (HB.out.cell (cell_lt c4)).trans c4
      clear c0 c1 c2 c3 c4
      go_wp2_with fail
      refine (HC.out k hlt _ _ HRk.out (HI.out _ _ _ HV.out (by (repeat (first | exact Below.refl _ _ | assumption | refine Below.drew ?_ | refine below_drewN ?_ _ | refine Below.alloc ?_ (by first | omega | (simp; done) | (simp; omega)) _ | refine Below.setCell ?_ (by first | omega | (simp; done) | (simp; omega)) _ | refine Below.trans ?_ (Below.mono (by assumption) (by first | omega | (simp; done) | (simp; omega))))))) (HB.out.trans (Below.mono (by (repeat (first | exact Below.refl _ _ | assumption | refine Below.drew ?_ | refine below_drewN ?_ _ | refine Below.alloc ?_ (by first | omega | (simp; done) | (simp; omega)) _ | refine Below.setCell ?_ (by first | omega | (simp; done) | (simp; omega)) _ | refine Below.trans ?_ (Below.mono (by assumption) (by first | omega | (simp; done) | (simp; omega)))))) hsz))).mono ?_
      rintro e w2 ⟨rfl, hn, hb2⟩
      have HN := Lib.hid hn
      have HB2 := Lib.hid hb2
      clear hn hb2 d0 d1 d2 d3 d4
      cases hH : H k with
      | false =>
        have HE : Hid (allB l.length H = false) := allB_false k hlt hH
        go_wp2
        go_ret
        exact ⟨ret_bool HE.out.symm, fun h => (by rw [HE.out] at h; cases h), HB2.out⟩
      | true =>
        have HN2 := Lib.hid (HN.out hH)
        have HA2 : Hid (∀ j, j < k + 1 → H j = true) := fun j hj => by
          by_cases e : j = k
          · rw [e]; exact hH
          · exact HA.out j (by omega)
        clear HN HA
        go_wp2
        go_roundw
        case rel => exact ⟨k + 1, by omega, by go_num, HA2.out, HN2.out, HB2.out⟩
        case measure => simp [intOf]; omega
    · have hk' : k = l.length := by omega
      subst hk'
      go_wp2
      go_ret
      exact ⟨ret_bool (allB_iff.2 HA.out).symm, fun _ => HV.out, HB.out⟩

set_option maxHeartbeats 4000000 in
set_option maxRecDepth 100000 in
theorem evPc_any (w0 w : World) (a : Option Addr) (cap : Nat) (l : List Pc) (x0 : Nat) (H : Nat → Bool) (Inv : Nat → World → Prop) (hl : l.length ≤ 1000000) (hr : RowR 5 (PcR w0) w0 a l) (h0 : Inv 0 w) (hb : Below w0.heap.size w0 w)
    (hI : ∀ k w1 w2, Inv k w1 → Below w1.heap.size w1 w2 → Inv k w2)
    (hC : ∀ k (h : k < l.length) vs w1, PcR w0 l[k] vs → Inv k w1 → Below w0.heap.size w0 w1 → Calls Tryz.prog 40 #[.agg vs.toArray, .pointer (some ⟨x0, 0, none⟩)] w1 fun e w2 => e = .returned (.bool (H k)) ∧ (H k = true → Inv (k + 1) w2) ∧ Below w0.heap.size w0 w2) :
    Calls Tryz.prog 39 #[.slice a l.length cap, .func (.func 40) #[] #[.pointer (some ⟨x0, 0, none⟩)]] w fun e w' => e = .returned (.bool (allB l.length H)) ∧ Below w0.heap.size w0 w' := by
  have HR := Lib.hid hr
  have HI := Lib.hid hI
  have HC := Lib.hid hC
  have H0 := Lib.hid h0
  have HB0 := Lib.hid hb
  clear hr hI hC h0 hb
  go_enter Tryz.func39, Tryz.ntmps39
  go_wp2
  go_loopw [9] (fun i wr => ∃ k : Nat, k ≤ l.length ∧ i = .int .i64 k ∧ (∀ j, j < k → H j = true) ∧ Inv k wr ∧ Below w0.heap.size w0 wr) (fun i _ => l.length - (intOf i).toNat)
  case atStart => exact ⟨0, Nat.zero_le _, rfl, fun j g => absurd g (Nat.not_lt_zero _), H0.out, HB0.out⟩
  case round =>
    clear H0 HB0
    obtain ⟨k, hk, rfl, hall, hinv, hb1⟩ := hrel
    have HA := Lib.hid hall
    have HV := Lib.hid hinv
    have HB := Lib.hid hb1
    have hsz := hb1.size
    clear hall hinv hb1
    by_cases hlt : k < l.length
    · have hlti : (k : Int) < (l.length : Int) := by omega
      obtain ⟨b, off, v0, v1, v2, v3, v4, rfl, hR, c0, c1, c2, c3, c4⟩ := HR.out.at5 hlt
      have HRk := Lib.hid hR
      obtain ⟨pp, cp, pb, cb, hR, _, _⟩ := hR
      simp only [List.cons.injEq, and_true] at hR
      obtain ⟨rfl, rfl, rfl, rfl, rfl⟩ := hR
      have d0 := (HB.out.cell (cell_lt c0)).trans c0
      have d1 := (HB.out.cell (cell_lt c1)).trans c1
      have d2 := (HB.out.cell (cell_lt c2)).trans c2
      have d3 := (HB.out.cell (cell_lt c3)).trans c3
      have d4 := (HB.out.cell (cell_lt c4)).trans c4
      clear c0 c1 c2 c3 c4
      go_wp2_with fail
      refine (HC.out k hlt _ _ HRk.out (HI.out _ _ _ HV.out (by (repeat (first | exact Below.refl _ _ | assumption | refine Below.drew ?_ | refine below_drewN ?_ _ | refine Below.alloc ?_ (by first | omega | (simp; done) | (simp; omega)) _ | refine Below.setCell ?_ (by first | omega | (simp; done) | (simp; omega)) _ | refine Below.trans ?_ (Below.mono (by assumption) (by first | omega | (simp; done) | (simp; omega))))))) (HB.out.trans (Below.mono (by (repeat (first | exact Below.refl _ _ | assumption | refine Below.drew ?_ | refine below_drewN ?_ _ | refine Below.alloc ?_ (by first | omega | (simp; done) | (simp; omega)) _ | refine Below.setCell ?_ (by first | omega | (simp; done) | (simp; omega)) _ | refine Below.trans ?_ (Below.mono (by assumption) (by first | omega | (simp; done) | (simp; omega)))))) hsz))).mono ?_
      rintro e w2 ⟨rfl, hn, hb2⟩
      have HN := Lib.hid hn
      have HB2 := Lib.hid hb2
      clear hn hb2 d0 d1 d2 d3 d4
      cases hH : H k with
      | false =>
        have HE : Hid (allB l.length H = false) := allB_false k hlt hH
        go_wp2
        go_ret
        exact ⟨ret_bool HE.out.symm, HB2.out⟩
      | true =>
        have HN2 := Lib.hid (HN.out hH)
        have HA2 : Hid (∀ j, j < k + 1 → H j = true) := fun j hj => by
          by_cases e : j = k
          · rw [e]; exact hH
          · exact HA.out j (by omega)
        clear HN HA
        go_wp2
        go_roundw
        case rel => exact ⟨k + 1, by omega, by go_num, HA2.out, HN2.out, HB2.out⟩
        case measure => simp [intOf]; omega
    · have hk' : k = l.length := by omega
      subst hk'
      go_wp2
      go_ret
      exact ⟨ret_bool (allB_iff.2 HA.out).symm, HB.out⟩

set_option maxHeartbeats 4000000 in
set_option maxRecDepth 100000 in
theorem evCol_any (w0 w : World) (a : Option Addr) (cap : Nat) (l : List Col) (x0 : Nat) (H : Nat → Bool) (Inv : Nat → World → Prop) (hl : l.length ≤ 1000000) (hr : RowR 3 ColR w0 a l) (h0 : Inv 0 w) (hb : Below w0.heap.size w0 w)
    (hI : ∀ k w1 w2, Inv k w1 → Below w1.heap.size w1 w2 → Inv k w2)
    (hC : ∀ k (h : k < l.length) vs w1, ColR l[k] vs → Inv k w1 → Below w0.heap.size w0 w1 → Calls Tryz.prog 125 #[.agg vs.toArray, .pointer (some ⟨x0, 0, none⟩)] w1 fun e w2 => e = .returned (.bool (H k)) ∧ (H k = true → Inv (k + 1) w2) ∧ Below w0.heap.size w0 w2) :
    Calls Tryz.prog 124 #[.slice a l.length cap, .func (.func 125) #[] #[.pointer (some ⟨x0, 0, none⟩)]] w fun e w' => e = .returned (.bool (allB l.length H)) ∧ Below w0.heap.size w0 w' := by
  have HR := Lib.hid hr
  have HI := Lib.hid hI
  have HC := Lib.hid hC
  have H0 := Lib.hid h0
  have HB0 := Lib.hid hb
  clear hr hI hC h0 hb
  go_enter Tryz.func124, Tryz.ntmps124
  go_wp2
  go_loopw [9] (fun i wr => ∃ k : Nat, k ≤ l.length ∧ i = .int .i64 k ∧ (∀ j, j < k → H j = true) ∧ Inv k wr ∧ Below w0.heap.size w0 wr) (fun i _ => l.length - (intOf i).toNat)
  case atStart => exact ⟨0, Nat.zero_le _, rfl, fun j g => absurd g (Nat.not_lt_zero _), H0.out, HB0.out⟩
  case round =>
    clear H0 HB0
    obtain ⟨k, hk, rfl, hall, hinv, hb1⟩ := hrel
    have HA := Lib.hid hall
    have HV := Lib.hid hinv
    have HB := Lib.hid hb1
    have hsz := hb1.size
    clear hall hinv hb1
    by_cases hlt : k < l.length
    · have hlti : (k : Int) < (l.length : Int) := by omega
      obtain ⟨b, off, v0, v1, v2, rfl, hR, c0, c1, c2⟩ := HR.out.at3 hlt
      have HRk := Lib.hid hR
      simp only [ColR] at hR
      simp only [List.cons.injEq, and_true] at hR
      obtain ⟨rfl, rfl, rfl⟩ := hR
      have d0 := (HB.out.cell (cell_lt c0)).trans c0
      have d1 := (HB.out.cell (cell_lt c1)).trans c1
      have d2 := (HB.out.cell (cell_lt c2)).trans c2
      clear c0 c1 c2
      go_wp2_with fail
      refine (HC.out k hlt _ _ HRk.out (HI.out _ _ _ HV.out (by (repeat (first | exact Below.refl _ _ | assumption | refine Below.drew ?_ | refine below_drewN ?_ _ | refine Below.alloc ?_ (by first | omega | (simp; done) | (simp; omega)) _ | refine Below.setCell ?_ (by first | omega | (simp; done) | (simp; omega)) _ | refine Below.trans ?_ (Below.mono (by assumption) (by first | omega | (simp; done) | (simp; omega))))))) (HB.out.trans (Below.mono (by (repeat (first | exact Below.refl _ _ | assumption | refine Below.drew ?_ | refine below_drewN ?_ _ | refine Below.alloc ?_ (by first | omega | (simp; done) | (simp; omega)) _ | refine Below.setCell ?_ (by first | omega | (simp; done) | (simp; omega)) _ | refine Below.trans ?_ (Below.mono (by assumption) (by first | omega | (simp; done) | (simp; omega)))))) hsz))).mono ?_
      rintro e w2 ⟨rfl, hn, hb2⟩
      have HN := Lib.hid hn
      have HB2 := Lib.hid hb2
      clear hn hb2 d0 d1 d2
      cases hH : H k with
      | false =>
        have HE : Hid (allB l.length H = false) := allB_false k hlt hH
        go_wp2
        go_ret
        exact ⟨ret_bool HE.out.symm, HB2.out⟩
      | true =>
        have HN2 := Lib.hid (HN.out hH)
        have HA2 : Hid (∀ j, j < k + 1 → H j = true) := fun j hj => by
          by_cases e : j = k
          · rw [e]; exact hH
          · exact HA.out j (by omega)
        clear HN HA
        go_wp2
        go_roundw
        case rel => exact ⟨k + 1, by omega, by go_num, HA2.out, HN2.out, HB2.out⟩
        case measure => simp [intOf]; omega
    · have hk' : k = l.length := by omega
      subst hk'
      go_wp2
      go_ret
      exact ⟨ret_bool (allB_iff.2 HA.out).symm, HB.out⟩

set_option maxHeartbeats 4000000 in
set_option maxRecDepth 100000 in
theorem evIntA_any (w0 w : World) (a : Option Addr) (cap : Nat) (l : List Int) (x0 : Nat) (H : Nat → Bool) (Inv : Nat → World → Prop) (hl : l.length ≤ 1000000) (hr : RowR 1 IntR w0 a l) (h0 : Inv 0 w) (hb : Below w0.heap.size w0 w)
    (hI : ∀ k w1 w2, Inv k w1 → Below w1.heap.size w1 w2 → Inv k w2)
    (hC : ∀ k (h : k < l.length) w1, Inv k w1 → Below w0.heap.size w0 w1 → Calls Tryz.prog 130 #[.int .i64 l[k], .pointer (some ⟨x0, 0, none⟩)] w1 fun e w2 => e = .returned (.bool (H k)) ∧ (H k = true → Inv (k + 1) w2) ∧ Below w0.heap.size w0 w2) :
    Calls Tryz.prog 129 #[.slice a l.length cap, .func (.func 130) #[] #[.pointer (some ⟨x0, 0, none⟩)]] w fun e w' => e = .returned (.bool (allB l.length H)) ∧ Below w0.heap.size w0 w' := by
  have HR := Lib.hid hr
  have HI := Lib.hid hI
  have HC := Lib.hid hC
  have H0 := Lib.hid h0
  have HB0 := Lib.hid hb
  clear hr hI hC h0 hb
  go_enter Tryz.func129, Tryz.ntmps129
  go_wp2
  go_loopw [9] (fun i wr => ∃ k : Nat, k ≤ l.length ∧ i = .int .i64 k ∧ (∀ j, j < k → H j = true) ∧ Inv k wr ∧ Below w0.heap.size w0 wr) (fun i _ => l.length - (intOf i).toNat)
  case atStart => exact ⟨0, Nat.zero_le _, rfl, fun j g => absurd g (Nat.not_lt_zero _), H0.out, HB0.out⟩
  case round =>
    clear H0 HB0
    obtain ⟨k, hk, rfl, hall, hinv, hb1⟩ := hrel
    have HA := Lib.hid hall
    have HV := Lib.hid hinv
    have HB := Lib.hid hb1
    have hsz := hb1.size
    clear hall hinv hb1
    by_cases hlt : k < l.length
    · have hlti : (k : Int) < (l.length : Int) := by omega
      obtain ⟨b, off, v0, rfl, hR, c0⟩ := HR.out.at1 hlt
      simp only [IntR] at hR
      simp only [List.cons.injEq, and_true] at hR
      obtain rfl := hR
      have d0 := (HB.out.cell (cell_lt c0)).trans c0
      clear c0
      go_wp2_with fail
      refine (HC.out k hlt _ HV.out HB.out).mono ?_
      rintro e w2 ⟨rfl, hn, hb2⟩
      have HN := Lib.hid hn
      have HB2 := Lib.hid hb2
      clear hn hb2 d0
      cases hH : H k with
      | false =>
        have HE : Hid (allB l.length H = false) := allB_false k hlt hH
        go_wp2
        go_ret
        exact ⟨ret_bool HE.out.symm, HB2.out⟩
      | true =>
        have HN2 := Lib.hid (HN.out hH)
        have HA2 : Hid (∀ j, j < k + 1 → H j = true) := fun j hj => by
          by_cases e : j = k
          · rw [e]; exact hH
          · exact HA.out j (by omega)
        clear HN HA
        go_wp2
        go_roundw
        case rel => exact ⟨k + 1, by omega, by go_num, HA2.out, HN2.out, HB2.out⟩
        case measure => simp [intOf]; omega
    · have hk' : k = l.length := by omega
      subst hk'
      go_wp2
      go_ret
      exact ⟨ret_bool (allB_iff.2 HA.out).symm, HB.out⟩

set_option maxHeartbeats 4000000 in
set_option maxRecDepth 100000 in
theorem evIntB_any (w0 w : World) (a : Option Addr) (cap : Nat) (l : List Int) (x0 x1 : Nat) (H : Nat → Bool) (Inv : Nat → World → Prop) (hl : l.length ≤ 1000000) (hr : RowR 1 IntR w0 a l) (h0 : Inv 0 w) (hb : Below w0.heap.size w0 w)
    (hI : ∀ k w1 w2, Inv k w1 → Below w1.heap.size w1 w2 → Inv k w2)
    (hC : ∀ k (h : k < l.length) w1, Inv k w1 → Below w0.heap.size w0 w1 → Calls Tryz.prog 142 #[.int .i64 l[k], .pointer (some ⟨x0, 0, none⟩), .pointer (some ⟨x1, 0, none⟩)] w1 fun e w2 => e = .returned (.bool (H k)) ∧ (H k = true → Inv (k + 1) w2) ∧ Below w0.heap.size w0 w2) :
    Calls Tryz.prog 129 #[.slice a l.length cap, .func (.func 142) #[] #[.pointer (some ⟨x0, 0, none⟩), .pointer (some ⟨x1, 0, none⟩)]] w fun e w' => e = .returned (.bool (allB l.length H)) ∧ Below w0.heap.size w0 w' := by
  have HR := Lib.hid hr
  have HI := Lib.hid hI
  have HC := Lib.hid hC
  have H0 := Lib.hid h0
  have HB0 := Lib.hid hb
  clear hr hI hC h0 hb
  go_enter Tryz.func129, Tryz.ntmps129
  go_wp2
  go_loopw [9] (fun i wr => ∃ k : Nat, k ≤ l.length ∧ i = .int .i64 k ∧ (∀ j, j < k → H j = true) ∧ Inv k wr ∧ Below w0.heap.size w0 wr) (fun i _ => l.length - (intOf i).toNat)
  case atStart => exact ⟨0, Nat.zero_le _, rfl, fun j g => absurd g (Nat.not_lt_zero _), H0.out, HB0.out⟩
  case round =>
    clear H0 HB0
    obtain ⟨k, hk, rfl, hall, hinv, hb1⟩ := hrel
    have HA := Lib.hid hall
    have HV := Lib.hid hinv
    have HB := Lib.hid hb1
    have hsz := hb1.size
    clear hall hinv hb1
    by_cases hlt : k < l.length
    · have hlti : (k : Int) < (l.length : Int) := by omega
      obtain ⟨b, off, v0, rfl, hR, c0⟩ := HR.out.at1 hlt
      simp only [IntR] at hR
      simp only [List.cons.injEq, and_true] at hR
      obtain rfl := hR
      have d0 := (HB.out.cell (cell_lt c0)).trans c0
      clear c0
      go_wp2_with fail
      refine (HC.out k hlt _ HV.out HB.out).mono ?_
      rintro e w2 ⟨rfl, hn, hb2⟩
      have HN := Lib.hid hn
      have HB2 := Lib.hid hb2
      clear hn hb2 d0
      cases hH : H k with
      | false =>
        have HE : Hid (allB l.length H = false) := allB_false k hlt hH
        go_wp2
        go_ret
        exact ⟨ret_bool HE.out.symm, HB2.out⟩
      | true =>
        have HN2 := Lib.hid (HN.out hH)
        have HA2 : Hid (∀ j, j < k + 1 → H j = true) := fun j hj => by
          by_cases e : j = k
          · rw [e]; exact hH
          · exact HA.out j (by omega)
        clear HN HA
        go_wp2
        go_roundw
        case rel => exact ⟨k + 1, by omega, by go_num, HA2.out, HN2.out, HB2.out⟩
        case measure => simp [intOf]; omega
    · have hk' : k = l.length := by omega
      subst hk'
      go_wp2
      go_ret
      exact ⟨ret_bool (allB_iff.2 HA.out).symm, HB.out⟩

set_option maxHeartbeats 4000000 in
set_option maxRecDepth 100000 in
theorem evIx_any (w0 w : World) (a : Option Addr) (cap : Nat) (l : List Ix) (x0 x1 : Nat) (H : Nat → Bool) (Inv : Nat → World → Prop) (hl : l.length ≤ 1000000) (hr : RowR 3 (IxR w0) w0 a l) (h0 : Inv 0 w) (hb : Below w0.heap.size w0 w)
    (hI : ∀ k w1 w2, Inv k w1 → Below w1.heap.size w1 w2 → Inv k w2)
    (hC : ∀ k (h : k < l.length) vs w1, IxR w0 l[k] vs → Inv k w1 → Below w0.heap.size w0 w1 → Calls Tryz.prog 132 #[.agg vs.toArray, .pointer (some ⟨x0, 0, none⟩), .pointer (some ⟨x1, 0, none⟩)] w1 fun e w2 => e = .returned (.bool (H k)) ∧ (H k = true → Inv (k + 1) w2) ∧ Below w0.heap.size w0 w2) :
    Calls Tryz.prog 131 #[.slice a l.length cap, .func (.func 132) #[] #[.pointer (some ⟨x0, 0, none⟩), .pointer (some ⟨x1, 0, none⟩)]] w fun e w' => e = .returned (.bool (allB l.length H)) ∧ Below w0.heap.size w0 w' := by
  have HR := Lib.hid hr
  have HI := Lib.hid hI
  have HC := Lib.hid hC
  have H0 := Lib.hid h0
  have HB0 := Lib.hid hb
  clear hr hI hC h0 hb
  go_enter Tryz.func131, Tryz.ntmps131
  go_wp2
  go_loopw [9] (fun i wr => ∃ k : Nat, k ≤ l.length ∧ i = .int .i64 k ∧ (∀ j, j < k → H j = true) ∧ Inv k wr ∧ Below w0.heap.size w0 wr) (fun i _ => l.length - (intOf i).toNat)
  case atStart => exact ⟨0, Nat.zero_le _, rfl, fun j g => absurd g (Nat.not_lt_zero _), H0.out, HB0.out⟩
  case round =>
    clear H0 HB0
    obtain ⟨k, hk, rfl, hall, hinv, hb1⟩ := hrel
    have HA := Lib.hid hall
    have HV := Lib.hid hinv
    have HB := Lib.hid hb1
    have hsz := hb1.size
    clear hall hinv hb1
    by_cases hlt : k < l.length
    · have hlti : (k : Int) < (l.length : Int) := by omega
      obtain ⟨b, off, v0, v1, v2, rfl, hR, c0, c1, c2⟩ := HR.out.at3 hlt
      have HRk := Lib.hid hR
      obtain ⟨p, cp, hR, _⟩ := hR
      simp only [List.cons.injEq, and_true] at hR
      obtain ⟨rfl, rfl, rfl⟩ := hR
      have d0 := (HB.out.cell (cell_lt c0)).trans c0
      have d1 := (HB.out.cell (cell_lt c1)).trans c1
      have d2 := (HB.out.cell (cell_lt c2)).trans c2
      clear c0 c1 c2
      go_wp2_with fail
      refine (HC.out k hlt _ _ HRk.out (HI.out _ _ _ HV.out (by (repeat (first | exact Below.refl _ _ | assumption | refine Below.drew ?_ | refine below_drewN ?_ _ | refine Below.alloc ?_ (by first | omega | (simp; done) | (simp; omega)) _ | refine Below.setCell ?_ (by first | omega | (simp; done) | (simp; omega)) _ | refine Below.trans ?_ (Below.mono (by assumption) (by first | omega | (simp; done) | (simp; omega))))))) (HB.out.trans (Below.mono (by (repeat (first | exact Below.refl _ _ | assumption | refine Below.drew ?_ | refine below_drewN ?_ _ | refine Below.alloc ?_ (by first | omega | (simp; done) | (simp; omega)) _ | refine Below.setCell ?_ (by first | omega | (simp; done) | (simp; omega)) _ | refine Below.trans ?_ (Below.mono (by assumption) (by first | omega | (simp; done) | (simp; omega)))))) hsz))).mono ?_
      rintro e w2 ⟨rfl, hn, hb2⟩
      have HN := Lib.hid hn
      have HB2 := Lib.hid hb2
      clear hn hb2 d0 d1 d2
      cases hH : H k with
      | false =>
        have HE : Hid (allB l.length H = false) := allB_false k hlt hH
        go_wp2
        go_ret
        exact ⟨ret_bool HE.out.symm, HB2.out⟩
      | true =>
        have HN2 := Lib.hid (HN.out hH)
        have HA2 : Hid (∀ j, j < k + 1 → H j = true) := fun j hj => by
          by_cases e : j = k
          · rw [e]; exact hH
          · exact HA.out j (by omega)
        clear HN HA
        go_wp2
        go_roundw
        case rel => exact ⟨k + 1, by omega, by go_num, HA2.out, HN2.out, HB2.out⟩
        case measure => simp [intOf]; omega
    · have hk' : k = l.length := by omega
      subst hk'
      go_wp2
      go_ret
      exact ⟨ret_bool (allB_iff.2 HA.out).symm, HB.out⟩

set_option maxHeartbeats 4000000 in
set_option maxRecDepth 100000 in
theorem evPm_any (w0 w : World) (a : Option Addr) (cap : Nat) (l : List Pm) (x0 : Nat) (H : Nat → Bool) (Inv : Nat → World → Prop) (hl : l.length ≤ 1000000) (hr : RowR 2 PmR w0 a l) (h0 : Inv 0 w) (hb : Below w0.heap.size w0 w)
    (hI : ∀ k w1 w2, Inv k w1 → Below w1.heap.size w1 w2 → Inv k w2)
    (hC : ∀ k (h : k < l.length) vs w1, PmR l[k] vs → Inv k w1 → Below w0.heap.size w0 w1 → Calls Tryz.prog 134 #[.agg vs.toArray, .pointer (some ⟨x0, 0, none⟩)] w1 fun e w2 => e = .returned (.bool (H k)) ∧ (H k = true → Inv (k + 1) w2) ∧ Below w0.heap.size w0 w2) :
    Calls Tryz.prog 133 #[.slice a l.length cap, .func (.func 134) #[] #[.pointer (some ⟨x0, 0, none⟩)]] w fun e w' => e = .returned (.bool (allB l.length H)) ∧ Below w0.heap.size w0 w' := by
  have HR := Lib.hid hr
  have HI := Lib.hid hI
  have HC := Lib.hid hC
  have H0 := Lib.hid h0
  have HB0 := Lib.hid hb
  clear hr hI hC h0 hb
  go_enter Tryz.func133, Tryz.ntmps133
  go_wp2
  go_loopw [9] (fun i wr => ∃ k : Nat, k ≤ l.length ∧ i = .int .i64 k ∧ (∀ j, j < k → H j = true) ∧ Inv k wr ∧ Below w0.heap.size w0 wr) (fun i _ => l.length - (intOf i).toNat)
  case atStart => exact ⟨0, Nat.zero_le _, rfl, fun j g => absurd g (Nat.not_lt_zero _), H0.out, HB0.out⟩
  case round =>
    clear H0 HB0
    obtain ⟨k, hk, rfl, hall, hinv, hb1⟩ := hrel
    have HA := Lib.hid hall
    have HV := Lib.hid hinv
    have HB := Lib.hid hb1
    have hsz := hb1.size
    clear hall hinv hb1
    by_cases hlt : k < l.length
    · have hlti : (k : Int) < (l.length : Int) := by omega
      obtain ⟨b, off, v0, v1, rfl, hR, c0, c1⟩ := HR.out.at2 hlt
      have HRk := Lib.hid hR
      simp only [PmR] at hR
      simp only [List.cons.injEq, and_true] at hR
      obtain ⟨rfl, rfl⟩ := hR
      have d0 := (HB.out.cell (cell_lt c0)).trans c0
      have d1 := (HB.out.cell (cell_lt c1)).trans c1
      clear c0 c1
      go_wp2_with fail
      refine (HC.out k hlt _ _ HRk.out (HI.out _ _ _ HV.out (by (repeat (first | exact Below.refl _ _ | assumption | refine Below.drew ?_ | refine below_drewN ?_ _ | refine Below.alloc ?_ (by first | omega | (simp; done) | (simp; omega)) _ | refine Below.setCell ?_ (by first | omega | (simp; done) | (simp; omega)) _ | refine Below.trans ?_ (Below.mono (by assumption) (by first | omega | (simp; done) | (simp; omega))))))) (HB.out.trans (Below.mono (by (repeat (first | exact Below.refl _ _ | assumption | refine Below.drew ?_ | refine below_drewN ?_ _ | refine Below.alloc ?_ (by first | omega | (simp; done) | (simp; omega)) _ | refine Below.setCell ?_ (by first | omega | (simp; done) | (simp; omega)) _ | refine Below.trans ?_ (Below.mono (by assumption) (by first | omega | (simp; done) | (simp; omega)))))) hsz))).mono ?_
      rintro e w2 ⟨rfl, hn, hb2⟩
      have HN := Lib.hid hn
      have HB2 := Lib.hid hb2
      clear hn hb2 d0 d1
      cases hH : H k with
      | false =>
        have HE : Hid (allB l.length H = false) := allB_false k hlt hH
        go_wp2
        go_ret
        exact ⟨ret_bool HE.out.symm, HB2.out⟩
      | true =>
        have HN2 := Lib.hid (HN.out hH)
        have HA2 : Hid (∀ j, j < k + 1 → H j = true) := fun j hj => by
          by_cases e : j = k
          · rw [e]; exact hH
          · exact HA.out j (by omega)
        clear HN HA
        go_wp2
        go_roundw
        case rel => exact ⟨k + 1, by omega, by go_num, HA2.out, HN2.out, HB2.out⟩
        case measure => simp [intOf]; omega
    · have hk' : k = l.length := by omega
      subst hk'
      go_wp2
      go_ret
      exact ⟨ret_bool (allB_iff.2 HA.out).symm, HB.out⟩

set_option maxHeartbeats 4000000 in
set_option maxRecDepth 100000 in
theorem evStr_any (w0 w : World) (a : Option Addr) (cap : Nat) (l : List ByteArray) (H : Nat → Bool) (Inv : Nat → World → Prop) (hl : l.length ≤ 1000000) (hr : RowR 1 StrR w0 a l) (h0 : Inv 0 w) (hb : Below w0.heap.size w0 w)
    (hI : ∀ k w1 w2, Inv k w1 → Below w1.heap.size w1 w2 → Inv k w2)
    (hC : ∀ k (h : k < l.length) w1, Inv k w1 → Below w0.heap.size w0 w1 → Calls Tryz.prog 136 #[.string l[k]] w1 fun e w2 => e = .returned (.bool (H k)) ∧ (H k = true → Inv (k + 1) w2) ∧ Below w0.heap.size w0 w2) :
    Calls Tryz.prog 135 #[.slice a l.length cap, .func (.func 136) #[] #[]] w fun e w' => e = .returned (.bool (allB l.length H)) ∧ Below w0.heap.size w0 w' := by
  have HR := Lib.hid hr
  have HI := Lib.hid hI
  have HC := Lib.hid hC
  have H0 := Lib.hid h0
  have HB0 := Lib.hid hb
  clear hr hI hC h0 hb
  go_enter Tryz.func135, Tryz.ntmps135
  go_wp2
  go_loopw [9] (fun i wr => ∃ k : Nat, k ≤ l.length ∧ i = .int .i64 k ∧ (∀ j, j < k → H j = true) ∧ Inv k wr ∧ Below w0.heap.size w0 wr) (fun i _ => l.length - (intOf i).toNat)
  case atStart => exact ⟨0, Nat.zero_le _, rfl, fun j g => absurd g (Nat.not_lt_zero _), H0.out, HB0.out⟩
  case round =>
    clear H0 HB0
    obtain ⟨k, hk, rfl, hall, hinv, hb1⟩ := hrel
    have HA := Lib.hid hall
    have HV := Lib.hid hinv
    have HB := Lib.hid hb1
    have hsz := hb1.size
    clear hall hinv hb1
    by_cases hlt : k < l.length
    · have hlti : (k : Int) < (l.length : Int) := by omega
      obtain ⟨b, off, v0, rfl, hR, c0⟩ := HR.out.at1 hlt
      simp only [StrR] at hR
      simp only [List.cons.injEq, and_true] at hR
      obtain rfl := hR
      have d0 := (HB.out.cell (cell_lt c0)).trans c0
      clear c0
      go_wp2_with fail
      refine (HC.out k hlt _ HV.out HB.out).mono ?_
      rintro e w2 ⟨rfl, hn, hb2⟩
      have HN := Lib.hid hn
      have HB2 := Lib.hid hb2
      clear hn hb2 d0
      cases hH : H k with
      | false =>
        have HE : Hid (allB l.length H = false) := allB_false k hlt hH
        go_wp2
        go_ret
        exact ⟨ret_bool HE.out.symm, HB2.out⟩
      | true =>
        have HN2 := Lib.hid (HN.out hH)
        have HA2 : Hid (∀ j, j < k + 1 → H j = true) := fun j hj => by
          by_cases e : j = k
          · rw [e]; exact hH
          · exact HA.out j (by omega)
        clear HN HA
        go_wp2
        go_roundw
        case rel => exact ⟨k + 1, by omega, by go_num, HA2.out, HN2.out, HB2.out⟩
        case measure => simp [intOf]; omega
    · have hk' : k = l.length := by omega
      subst hk'
      go_wp2
      go_ret
      exact ⟨ret_bool (allB_iff.2 HA.out).symm, HB.out⟩

end Go.Proofs.YtkgkkcefnonejaaGreat
