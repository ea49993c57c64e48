/- Walks of layer 8: which procedures may be, and which catalogs. -/
import Derived.Test.YtkgkkcefnonejaaGreatT8
namespace Go.Proofs.YtkgkkcefnonejaaGreat
open Go.RowKit

theorem body1_any (s : ByteArray) (w : World) :
    Calls Tryz.prog 136 #[.string s] w fun e w' => e = .returned (.bool (srcB s)) ∧ w' = w := by
  have hfr : fromB 1 1000 (s.size : Int) = srcB s := by
    rw [Bool.eq_iff_iff]
    simp [fromB, srcB]
    omega
  go_enter Tryz.func136, Tryz.ntmps136
  go_wp2_with (first | (go_at_call 79; refine (from_any _ _ _ _).mono ?_; rintro e w' ⟨rfl, he⟩; rw [hfr, he]; clear he))
  go_ret
  exact ⟨rfl, rfl⟩

theorem mayBody_len {l : List ByteArray} (h : ¬ (1 ≤ l.length ∧ l.length ≤ 8)) : mayBody l = false := by
  cases e : mayBody l with
  | false => rfl
  | true =>
    simp only [mayBody, Bool.and_eq_true, decide_eq_true_eq] at e
    exact absurd e.1 h

set_option maxHeartbeats 4000000 in
set_option maxRecDepth 100000 in
theorem body_any (a : Option Addr) (cap : Nat) (l : List ByteArray) (w : World) (hr : RowR 1 StrR w a l) :
    Calls Tryz.prog 78 #[.slice a l.length cap] w fun e w' => e = .returned (.bool (mayBody l)) ∧ Below w.heap.size w w' := by
  have HR := Lib.hid hr
  clear hr
  by_cases hl : 1 ≤ l.length ∧ l.length ≤ 8
  · have hfr : fromB 1 8 (l.length : Int) = true := by simp [fromB]; omega
    have hl' : l.length ≤ 1000000 := by omega
    have HE : Hid (mayBody l = allB l.length (fun i => (l[i]?).any srcB)) := by
      show mayBody l = _
      simp [mayBody, hl.1, hl.2]
    go_enter Tryz.func78, Tryz.ntmps78
    go_wp2_with (first
      | (go_at_call 79; refine (from_any _ _ _ _).mono ?_; rintro e w' ⟨rfl, he⟩; rw [hfr, he]; clear he)
      | (go_at_call 135; refine (evStr_any w _ a cap l (fun i => (l[i]?).any srcB) (fun k wr => True) hl' HR.out trivial (Below.refl _ _) (fun _ _ _ _ _ => trivial) ?_).mono ?_))
    · rintro k hk v1 - hv
      refine (body1_any l[k] v1).mono ?_
      rintro e v2 ⟨rfl, rfl⟩
      exact ⟨ret_bool (by simp [hk]), fun _ => trivial, hv⟩
    · rintro e w2 ⟨rfl, hb2⟩
      go_wp2
      go_ret
      exact ⟨ret_bool HE.out.symm, hb2⟩
  · have hfr : fromB 1 8 (l.length : Int) = false := fromB_no (a := 1) (b := 8) hl
    have HE : Hid (mayBody l = false) := mayBody_len hl
    clear hl
    go_enter Tryz.func78, Tryz.ntmps78
    go_wp2_with (first | (go_at_call 79; refine (from_any _ _ _ _).mono ?_; rintro e w' ⟨rfl, he⟩; rw [hfr, he]; clear he))
    go_ret
    exact ⟨ret_bool HE.out.symm, by (repeat (first | exact Below.refl _ _ | assumption | refine Below.drew ?_ | refine below_drewN ?_ _ | refine Below.alloc ?_ (by first | omega | (simp; done) | (simp; omega)) _ | refine Below.setCell ?_ (by first | omega | (simp; done) | (simp; omega)) _ | refine Below.trans ?_ (Below.mono (by assumption) (by first | omega | (simp; done) | (simp; omega)))))⟩

set_option maxHeartbeats 8000000 in
set_option maxRecDepth 100000 in
theorem proc_any (p : Pc) (vs : List Value) (w : World) (hR : PcR w p vs) :
    Calls Tryz.prog 41 #[.agg vs.toArray] w fun e w' => e = .returned (.bool (mayPc p)) ∧ Below w.heap.size w w' := by
  obtain ⟨pp, cp, pb, cb, rfl, r1, r2⟩ := hR
  have HR1 := Lib.hid r1
  have HR2 := Lib.hid r2
  clear r1 r2
  cases h1 : isNm (bs p.nm) with
  | false =>
    have HE : Hid (mayPc p = false) := by
      show mayPc p = false
      simp [mayPc, h1]
    go_enter Tryz.func41, Tryz.ntmps41
    go_wp2_with (first
      | (go_at_call 73; refine (name_any _ _).mono ?_; rintro e w1 ⟨rfl, he⟩; rw [h1, he]; clear he))
    go_ret
    exact ⟨ret_bool HE.out.symm, by (repeat (first | exact Below.refl _ _ | assumption | refine Below.drew ?_ | refine below_drewN ?_ _ | refine Below.alloc ?_ (by first | omega | (simp; done) | (simp; omega)) _ | refine Below.setCell ?_ (by first | omega | (simp; done) | (simp; omega)) _ | refine Below.trans ?_ (Below.mono (by assumption) (by first | omega | (simp; done) | (simp; omega)))))⟩
  | true =>
    cases h2 : mayPms p.prms with
    | false =>
      have HE : Hid (mayPc p = false) := by
        show mayPc p = false
        simp [mayPc, h2]
      go_enter Tryz.func41, Tryz.ntmps41
      go_wp2_with (first
        | (go_at_call 73; refine (name_any _ _).mono ?_; rintro e w1 ⟨rfl, he⟩; rw [h1, he]; clear he)
        | (go_at_call 77; refine (params_any pp cp p.prms _ (HR1.out.later (by (repeat (first | exact Below.refl _ _ | assumption | refine Below.drew ?_ | refine below_drewN ?_ _ | refine Below.alloc ?_ (by first | omega | (simp; done) | (simp; omega)) _ | refine Below.setCell ?_ (by first | omega | (simp; done) | (simp; omega)) _ | refine Below.trans ?_ (Below.mono (by assumption) (by first | omega | (simp; done) | (simp; omega)))))) fun _ _ h => h)).mono ?_; rintro e w2 ⟨rfl, hb2⟩; rw [h2]; obtain ⟨hc2, hf2⟩ := bcell hb2; have hs2 := hb2.size; simp at hs2; have hz2 : w.heap.size < w2.heap.size := by omega))
      go_ret
      exact ⟨ret_bool HE.out.symm, by (repeat (first | exact Below.refl _ _ | assumption | refine Below.drew ?_ | refine below_drewN ?_ _ | refine Below.alloc ?_ (by first | omega | (simp; done) | (simp; omega)) _ | refine Below.setCell ?_ (by first | omega | (simp; done) | (simp; omega)) _ | refine Below.trans ?_ (Below.mono (by assumption) (by first | omega | (simp; done) | (simp; omega)))))⟩
    | true =>
      cases h3 : mayBody p.body with
      | false =>
        have HE : Hid (mayPc p = false) := by
          show mayPc p = false
          simp [mayPc, h3]
        go_enter Tryz.func41, Tryz.ntmps41
        go_wp2_with (first
          | (go_at_call 73; refine (name_any _ _).mono ?_; rintro e w1 ⟨rfl, he⟩; rw [h1, he]; clear he)
          | (go_at_call 77; refine (params_any pp cp p.prms _ (HR1.out.later (by (repeat (first | exact Below.refl _ _ | assumption | refine Below.drew ?_ | refine below_drewN ?_ _ | refine Below.alloc ?_ (by first | omega | (simp; done) | (simp; omega)) _ | refine Below.setCell ?_ (by first | omega | (simp; done) | (simp; omega)) _ | refine Below.trans ?_ (Below.mono (by assumption) (by first | omega | (simp; done) | (simp; omega)))))) fun _ _ h => h)).mono ?_; rintro e w2 ⟨rfl, hb2⟩; rw [h2]; obtain ⟨hc2, hf2⟩ := bcell hb2; have hs2 := hb2.size; simp at hs2; have hz2 : w.heap.size < w2.heap.size := by omega)
          | (go_at_call 78; refine (body_any pb cb p.body _ (HR2.out.later (by (repeat (first | exact Below.refl _ _ | assumption | refine Below.drew ?_ | refine below_drewN ?_ _ | refine Below.alloc ?_ (by first | omega | (simp; done) | (simp; omega)) _ | refine Below.setCell ?_ (by first | omega | (simp; done) | (simp; omega)) _ | refine Below.trans ?_ (Below.mono (by assumption) (by first | omega | (simp; done) | (simp; omega)))))) fun _ _ h => h)).mono ?_; rintro e w3 ⟨rfl, hb3⟩; rw [h3]; obtain ⟨hc3, hf3⟩ := bcell hb3; have hs3 := hb3.size; have hz3 : w.heap.size < w3.heap.size := by omega))
        go_ret
        exact ⟨ret_bool HE.out.symm, by (repeat (first | exact Below.refl _ _ | assumption | refine Below.drew ?_ | refine below_drewN ?_ _ | refine Below.alloc ?_ (by first | omega | (simp; done) | (simp; omega)) _ | refine Below.setCell ?_ (by first | omega | (simp; done) | (simp; omega)) _ | refine Below.trans ?_ (Below.mono (by assumption) (by first | omega | (simp; done) | (simp; omega)))))⟩
      | true =>
        cases h4 : budB p.rows with
        | false =>
          have h5 : fromB 0 1048576 p.rows = false := h4
          have HE : Hid (mayPc p = false) := by
            show mayPc p = false
            simp [mayPc, h4]
          go_enter Tryz.func41, Tryz.ntmps41
          go_wp2_with (first
            | (go_at_call 73; refine (name_any _ _).mono ?_; rintro e w1 ⟨rfl, he⟩; rw [h1, he]; clear he)
            | (go_at_call 77; refine (params_any pp cp p.prms _ (HR1.out.later (by (repeat (first | exact Below.refl _ _ | assumption | refine Below.drew ?_ | refine below_drewN ?_ _ | refine Below.alloc ?_ (by first | omega | (simp; done) | (simp; omega)) _ | refine Below.setCell ?_ (by first | omega | (simp; done) | (simp; omega)) _ | refine Below.trans ?_ (Below.mono (by assumption) (by first | omega | (simp; done) | (simp; omega)))))) fun _ _ h => h)).mono ?_; rintro e w2 ⟨rfl, hb2⟩; rw [h2]; obtain ⟨hc2, hf2⟩ := bcell hb2; have hs2 := hb2.size; simp at hs2; have hz2 : w.heap.size < w2.heap.size := by omega)
            | (go_at_call 78; refine (body_any pb cb p.body _ (HR2.out.later (by (repeat (first | exact Below.refl _ _ | assumption | refine Below.drew ?_ | refine below_drewN ?_ _ | refine Below.alloc ?_ (by first | omega | (simp; done) | (simp; omega)) _ | refine Below.setCell ?_ (by first | omega | (simp; done) | (simp; omega)) _ | refine Below.trans ?_ (Below.mono (by assumption) (by first | omega | (simp; done) | (simp; omega)))))) fun _ _ h => h)).mono ?_; rintro e w3 ⟨rfl, hb3⟩; rw [h3]; obtain ⟨hc3, hf3⟩ := bcell hb3; have hs3 := hb3.size; have hz3 : w.heap.size < w3.heap.size := by omega)
            | (go_at_call 79; refine (from_any _ _ _ _).mono ?_; rintro e w4 ⟨rfl, he⟩; (try rw [h5]); rw [he]; clear he))
          go_ret
          exact ⟨ret_bool HE.out.symm, by (repeat (first | exact Below.refl _ _ | assumption | refine Below.drew ?_ | refine below_drewN ?_ _ | refine Below.alloc ?_ (by first | omega | (simp; done) | (simp; omega)) _ | refine Below.setCell ?_ (by first | omega | (simp; done) | (simp; omega)) _ | refine Below.trans ?_ (Below.mono (by assumption) (by first | omega | (simp; done) | (simp; omega)))))⟩
        | true =>
          have HE : Hid (mayPc p = fromB 0 1048576 p.bytes) := by
            show mayPc p = _
            rw [mayPc, h1, h2, h3, h4]
            rfl
          have h5 : fromB 0 1048576 p.rows = true := h4
          go_enter Tryz.func41, Tryz.ntmps41
          go_wp2_with (first
              | (go_at_call 73; refine (name_any _ _).mono ?_; rintro e w1 ⟨rfl, he⟩; rw [h1, he]; clear he)
              | (go_at_call 77; refine (params_any pp cp p.prms _ (HR1.out.later (by (repeat (first | exact Below.refl _ _ | assumption | refine Below.drew ?_ | refine below_drewN ?_ _ | refine Below.alloc ?_ (by first | omega | (simp; done) | (simp; omega)) _ | refine Below.setCell ?_ (by first | omega | (simp; done) | (simp; omega)) _ | refine Below.trans ?_ (Below.mono (by assumption) (by first | omega | (simp; done) | (simp; omega)))))) fun _ _ h => h)).mono ?_; rintro e w2 ⟨rfl, hb2⟩; rw [h2]; obtain ⟨hc2, hf2⟩ := bcell hb2; have hs2 := hb2.size; simp at hs2; have hz2 : w.heap.size < w2.heap.size := by omega)
              | (go_at_call 78; refine (body_any pb cb p.body _ (HR2.out.later (by (repeat (first | exact Below.refl _ _ | assumption | refine Below.drew ?_ | refine below_drewN ?_ _ | refine Below.alloc ?_ (by first | omega | (simp; done) | (simp; omega)) _ | refine Below.setCell ?_ (by first | omega | (simp; done) | (simp; omega)) _ | refine Below.trans ?_ (Below.mono (by assumption) (by first | omega | (simp; done) | (simp; omega)))))) fun _ _ h => h)).mono ?_; rintro e w3 ⟨rfl, hb3⟩; rw [h3]; obtain ⟨hc3, hf3⟩ := bcell hb3; have hs3 := hb3.size; have hz3 : w.heap.size < w3.heap.size := by omega)
              | (go_at_call 79; refine (from_any _ _ _ _).mono ?_; rintro e w4 ⟨rfl, he⟩; (try rw [h5]); rw [he]; clear he))
          go_ret
          exact ⟨ret_bool HE.out.symm, by (repeat (first | exact Below.refl _ _ | assumption | refine Below.drew ?_ | refine below_drewN ?_ _ | refine Below.alloc ?_ (by first | omega | (simp; done) | (simp; omega)) _ | refine Below.setCell ?_ (by first | omega | (simp; done) | (simp; omega)) _ | refine Below.trans ?_ (Below.mono (by assumption) (by first | omega | (simp; done) | (simp; omega)))))⟩
end Go.Proofs.YtkgkkcefnonejaaGreat
