/- Walks of layer 10: the token that a piece is, by its first byte. -/
import Derived.Test.YtlooelldkbdomaaGreatDoorA6
import Derived.Test.YtlooelldkbdomaaGreatDoorA56
namespace Go.Proofs.YtlooelldkbdomaaGreatDoor
open Go.RowKit

/-- The token of a piece, by its first byte's class. -/
noncomputable def tokC (c : Int) (p : ByteArray) : Tk × Int :=
  if c = 1 then ((1, 0, ⟨#[]⟩), 0)
  else if c = 4 then (if (parR p.data.toList).2 = 0 then ((2, (parR p.data.toList).1.2.1, ⟨#[]⟩), 0) else (tk0, 101))
  else if c = 5 ∨ c = 6 ∨ c = 7 then (if isWord p = true then ((4, 0, p), 0) else if isName p = true then ((3, 0, p), 0) else (tk0, 102))
  else if c = 8 then (if isName (p.extract 1 p.size) = true then ((6, 0, p.extract 1 p.size), 0) else (tk0, 102))
  else if c = 9 then (if (parR p.data.toList).2 = 0 then ((5, 0, (parR p.data.toList).1.2.2), 0) else (tk0, 103))
  else if c = 10 then ((7, 0, p), 0) else (tk0, 100)
theorem tokR_cls (p : ByteArray) : tokR p.data.toList = tokC (clsAt p 0) p := by
  cases hp : p.data.toList with
  | nil =>
    have : ¬ 0 < p.size := by
      have : p.data.toList.length = p.size := by simp
      rw [hp] at this
      simp at this
      omega
    rw [clsAt_out this]
    rfl
  | cons c l =>
    have hz : p.data.toList.length = p.size := by simp
    have h0 : 0 < p.size := by rw [hp] at hz; simp at hz; omega
    have hc : p[0] = c := by
      have := bl_in h0
      rw [bl, List.drop_zero, hp] at this
      exact (List.cons.inj this).1.symm
    have hl : ofL (c :: l) = p := by rw [← hp, ofL_list]
    have hx : ofL l = p.extract 1 p.size := by
      rw [← ofL_list (p.extract 1 p.size)]
      congr 1
      have : (p.extract 1 p.size).data.toList = p.data.toList.drop 1 := by
        rw [ByteArray.data_extract]
        simp [List.extract_eq_take_drop]
        rw [← hz, List.take_of_length_le]
        simp
      rw [this, hp]
      rfl
    rw [clsAt_in h0, hc]
    simp only [tokR, tokC]
    rw [if_neg (cls_one c), hl, hx, hp]

set_option maxHeartbeats 4000000 in
theorem tok_none (p : ByteArray) (w : World) (_hs : p.size ≤ 2147483648) (hc : clsAt p 0 = 1) : Calls Tryz.prog 48 #[.string p] w (TkP (tokR p.data.toList) w) := by
  rw [tokR_cls, hc, show tokC 1 p = ((1, 0, ⟨#[]⟩), 0) from rfl]
  have HQ : Hid (∀ w, Calls Tryz.prog 67 #[.string p, .int .i64 0] w fun e w' => e = .returned (.int .i64 (1)) ∧ w' = w) := by have := classAt_any p 0; rw [hc] at this; exact this
  clear hc
  go_enter Tryz.func48, Tryz.ntmps48
  go_wp2_with (first | (go_at_call 67; refine (HQ.out _).mono ?_; rintro e' w' ⟨rfl, he⟩; rw [he]; clear he))
  exact bodyPost_ret (v := tkE (((1, 0, ⟨#[]⟩), 0))) (by simp [results, Tryz.results48, go_sem, tkE, tkA, *]) rfl ⟨rfl, by (repeat (first | exact Below.refl _ _ | assumption | refine Below.drew ?_ | refine below_drewN ?_ _ | refine Below.alloc ?_ (by first | omega | (simp; done) | (simp; omega)) _ | refine Below.setCell ?_ (by first | omega | (simp; done) | (simp; omega)) _ | refine Below.trans ?_ (Below.mono (by assumption) (by first | omega | (simp; done) | (simp; omega)))))⟩

set_option maxHeartbeats 4000000 in
theorem tok_other0 (p : ByteArray) (w : World) (_hs : p.size ≤ 2147483648) (hc : clsAt p 0 = 0) : Calls Tryz.prog 48 #[.string p] w (TkP (tokR p.data.toList) w) := by
  rw [tokR_cls, hc, show tokC 0 p = (tk0, 100) from by unfold tokC; simp]
  have HQ : Hid (∀ w, Calls Tryz.prog 67 #[.string p, .int .i64 0] w fun e w' => e = .returned (.int .i64 (0)) ∧ w' = w) := by have := classAt_any p 0; rw [hc] at this; exact this
  clear hc
  go_enter Tryz.func48, Tryz.ntmps48
  go_wp2_with (first | (go_at_call 67; refine (HQ.out _).mono ?_; rintro e' w' ⟨rfl, he⟩; rw [he]; clear he))
  exact bodyPost_ret (v := tkE ((tk0, 100))) (by simp [results, Tryz.results48, go_sem, tkE, tkA, tk0, *]) rfl ⟨rfl, by (repeat (first | exact Below.refl _ _ | assumption | refine Below.drew ?_ | refine below_drewN ?_ _ | refine Below.alloc ?_ (by first | omega | (simp; done) | (simp; omega)) _ | refine Below.setCell ?_ (by first | omega | (simp; done) | (simp; omega)) _ | refine Below.trans ?_ (Below.mono (by assumption) (by first | omega | (simp; done) | (simp; omega)))))⟩

set_option maxHeartbeats 4000000 in
theorem tok_other2 (p : ByteArray) (w : World) (_hs : p.size ≤ 2147483648) (hc : clsAt p 0 = 2) : Calls Tryz.prog 48 #[.string p] w (TkP (tokR p.data.toList) w) := by
  rw [tokR_cls, hc, show tokC 2 p = (tk0, 100) from by unfold tokC; simp]
  have HQ : Hid (∀ w, Calls Tryz.prog 67 #[.string p, .int .i64 0] w fun e w' => e = .returned (.int .i64 (2)) ∧ w' = w) := by have := classAt_any p 0; rw [hc] at this; exact this
  clear hc
  go_enter Tryz.func48, Tryz.ntmps48
  go_wp2_with (first | (go_at_call 67; refine (HQ.out _).mono ?_; rintro e' w' ⟨rfl, he⟩; rw [he]; clear he))
  exact bodyPost_ret (v := tkE ((tk0, 100))) (by simp [results, Tryz.results48, go_sem, tkE, tkA, tk0, *]) rfl ⟨rfl, by (repeat (first | exact Below.refl _ _ | assumption | refine Below.drew ?_ | refine below_drewN ?_ _ | refine Below.alloc ?_ (by first | omega | (simp; done) | (simp; omega)) _ | refine Below.setCell ?_ (by first | omega | (simp; done) | (simp; omega)) _ | refine Below.trans ?_ (Below.mono (by assumption) (by first | omega | (simp; done) | (simp; omega)))))⟩

set_option maxHeartbeats 4000000 in
theorem tok_other3 (p : ByteArray) (w : World) (_hs : p.size ≤ 2147483648) (hc : clsAt p 0 = 3) : Calls Tryz.prog 48 #[.string p] w (TkP (tokR p.data.toList) w) := by
  rw [tokR_cls, hc, show tokC 3 p = (tk0, 100) from by unfold tokC; simp]
  have HQ : Hid (∀ w, Calls Tryz.prog 67 #[.string p, .int .i64 0] w fun e w' => e = .returned (.int .i64 (3)) ∧ w' = w) := by have := classAt_any p 0; rw [hc] at this; exact this
  clear hc
  go_enter Tryz.func48, Tryz.ntmps48
  go_wp2_with (first | (go_at_call 67; refine (HQ.out _).mono ?_; rintro e' w' ⟨rfl, he⟩; rw [he]; clear he))
  exact bodyPost_ret (v := tkE ((tk0, 100))) (by simp [results, Tryz.results48, go_sem, tkE, tkA, tk0, *]) rfl ⟨rfl, by (repeat (first | exact Below.refl _ _ | assumption | refine Below.drew ?_ | refine below_drewN ?_ _ | refine Below.alloc ?_ (by first | omega | (simp; done) | (simp; omega)) _ | refine Below.setCell ?_ (by first | omega | (simp; done) | (simp; omega)) _ | refine Below.trans ?_ (Below.mono (by assumption) (by first | omega | (simp; done) | (simp; omega)))))⟩

set_option maxHeartbeats 4000000 in
theorem tok_num (p : ByteArray) (w : World) (hs : p.size ≤ 2147483648) (hv : SV w) (hc : clsAt p 0 = 4) : Calls Tryz.prog 48 #[.string p] w (TkP (tokR p.data.toList) w) := by
  rw [tokR_cls, hc, show tokC 4 p = (if (parR p.data.toList).2 = 0 then ((2, (parR p.data.toList).1.2.1, ⟨#[]⟩), 0) else (tk0, 101)) from by unfold tokC; simp]
  have HQ : Hid (∀ w, Calls Tryz.prog 67 #[.string p, .int .i64 0] w fun e w' => e = .returned (.int .i64 (4)) ∧ w' = w) := by have := classAt_any p 0; rw [hc] at this; exact this
  clear hc
  have HSV := Lib.hid hv
  clear hv
  obtain ⟨⟨⟨k, n, t⟩, z⟩, hr⟩ : ∃ r : Tk × Int, (if (parR p.data.toList).2 = 0 then ((2, (parR p.data.toList).1.2.1, ⟨#[]⟩), 0) else (tk0, 101)) = r := ⟨_, rfl⟩
  have HK : Hid (∀ W, SV W → Calls Tryz.prog 84 #[.string p] W (TkP ((k, n, t), z) W)) := by
    show ∀ W, _
    intro W h
    rw [← hr]
    exact numTok_any p W hs h
  rw [hr]
  clear hr
  go_enter Tryz.func48, Tryz.ntmps48
  go_wp2_with (first | (go_at_call 67; refine (HQ.out _).mono ?_; rintro e' w' ⟨rfl, he⟩; rw [he]; clear he) | (go_at_call 84; refine (HK.out _ (HSV.out.alloc _)).mono ?_; rintro e w1 ⟨rfl, hb⟩; simp only [tkE, tkA]; obtain ⟨hc, hf⟩ := bcell hb; have hz := hb.size; (try simp at hz); have hz0 : w.heap.size < w1.heap.size := by omega))
  exact bodyPost_ret (v := tkE (((k, n, t), z))) (by simp [results, Tryz.results48, go_sem, tkE, tkA, *]) rfl ⟨rfl, by (repeat (first | exact Below.refl _ _ | assumption | refine Below.drew ?_ | refine below_drewN ?_ _ | refine Below.alloc ?_ (by first | omega | (simp; done) | (simp; omega)) _ | refine Below.setCell ?_ (by first | omega | (simp; done) | (simp; omega)) _ | refine Below.trans ?_ (Below.mono (by assumption) (by first | omega | (simp; done) | (simp; omega)))))⟩

set_option maxHeartbeats 4000000 in
theorem tok_name5 (p : ByteArray) (w : World) (hs : p.size ≤ 2147483648) (hc : clsAt p 0 = 5) : Calls Tryz.prog 48 #[.string p] w (TkP (tokR p.data.toList) w) := by
  rw [tokR_cls, hc, show tokC 5 p = (if isWord p = true then ((4, 0, p), 0) else if isName p = true then ((3, 0, p), 0) else (tk0, 102)) from by unfold tokC; simp]
  have HQ : Hid (∀ w, Calls Tryz.prog 67 #[.string p, .int .i64 0] w fun e w' => e = .returned (.int .i64 (5)) ∧ w' = w) := by have := classAt_any p 0; rw [hc] at this; exact this
  clear hc
  obtain ⟨⟨⟨k, n, t⟩, z⟩, hr⟩ : ∃ r : Tk × Int, (if isWord p = true then ((4, 0, p), 0) else if isName p = true then ((3, 0, p), 0) else (tk0, 102)) = r := ⟨_, rfl⟩
  have HK : Hid (∀ W, Calls Tryz.prog 85 #[.string p] W (TkP ((k, n, t), z) W)) := by
    show ∀ W, _
    intro W
    rw [← hr]
    exact nameOrWord_any p W hs
  rw [hr]
  clear hr
  go_enter Tryz.func48, Tryz.ntmps48
  go_wp2_with (first | (go_at_call 67; refine (HQ.out _).mono ?_; rintro e' w' ⟨rfl, he⟩; rw [he]; clear he) | (go_at_call 85; refine (HK.out _).mono ?_; rintro e w1 ⟨rfl, hb⟩; simp only [tkE, tkA]; obtain ⟨hc, hf⟩ := bcell hb; have hz := hb.size; (try simp at hz); have hz0 : w.heap.size < w1.heap.size := by omega))
  exact bodyPost_ret (v := tkE (((k, n, t), z))) (by simp [results, Tryz.results48, go_sem, tkE, tkA, *]) rfl ⟨rfl, by (repeat (first | exact Below.refl _ _ | assumption | refine Below.drew ?_ | refine below_drewN ?_ _ | refine Below.alloc ?_ (by first | omega | (simp; done) | (simp; omega)) _ | refine Below.setCell ?_ (by first | omega | (simp; done) | (simp; omega)) _ | refine Below.trans ?_ (Below.mono (by assumption) (by first | omega | (simp; done) | (simp; omega)))))⟩

set_option maxHeartbeats 4000000 in
theorem tok_name6 (p : ByteArray) (w : World) (hs : p.size ≤ 2147483648) (hc : clsAt p 0 = 6) : Calls Tryz.prog 48 #[.string p] w (TkP (tokR p.data.toList) w) := by
  rw [tokR_cls, hc, show tokC 6 p = (if isWord p = true then ((4, 0, p), 0) else if isName p = true then ((3, 0, p), 0) else (tk0, 102)) from by unfold tokC; simp]
  have HQ : Hid (∀ w, Calls Tryz.prog 67 #[.string p, .int .i64 0] w fun e w' => e = .returned (.int .i64 (6)) ∧ w' = w) := by have := classAt_any p 0; rw [hc] at this; exact this
  clear hc
  obtain ⟨⟨⟨k, n, t⟩, z⟩, hr⟩ : ∃ r : Tk × Int, (if isWord p = true then ((4, 0, p), 0) else if isName p = true then ((3, 0, p), 0) else (tk0, 102)) = r := ⟨_, rfl⟩
  have HK : Hid (∀ W, Calls Tryz.prog 85 #[.string p] W (TkP ((k, n, t), z) W)) := by
    show ∀ W, _
    intro W
    rw [← hr]
    exact nameOrWord_any p W hs
  rw [hr]
  clear hr
  go_enter Tryz.func48, Tryz.ntmps48
  go_wp2_with (first | (go_at_call 67; refine (HQ.out _).mono ?_; rintro e' w' ⟨rfl, he⟩; rw [he]; clear he) | (go_at_call 85; refine (HK.out _).mono ?_; rintro e w1 ⟨rfl, hb⟩; simp only [tkE, tkA]; obtain ⟨hc, hf⟩ := bcell hb; have hz := hb.size; (try simp at hz); have hz0 : w.heap.size < w1.heap.size := by omega))
  exact bodyPost_ret (v := tkE (((k, n, t), z))) (by simp [results, Tryz.results48, go_sem, tkE, tkA, *]) rfl ⟨rfl, by (repeat (first | exact Below.refl _ _ | assumption | refine Below.drew ?_ | refine below_drewN ?_ _ | refine Below.alloc ?_ (by first | omega | (simp; done) | (simp; omega)) _ | refine Below.setCell ?_ (by first | omega | (simp; done) | (simp; omega)) _ | refine Below.trans ?_ (Below.mono (by assumption) (by first | omega | (simp; done) | (simp; omega)))))⟩

set_option maxHeartbeats 4000000 in
theorem tok_name7 (p : ByteArray) (w : World) (hs : p.size ≤ 2147483648) (hc : clsAt p 0 = 7) : Calls Tryz.prog 48 #[.string p] w (TkP (tokR p.data.toList) w) := by
  rw [tokR_cls, hc, show tokC 7 p = (if isWord p = true then ((4, 0, p), 0) else if isName p = true then ((3, 0, p), 0) else (tk0, 102)) from by unfold tokC; simp]
  have HQ : Hid (∀ w, Calls Tryz.prog 67 #[.string p, .int .i64 0] w fun e w' => e = .returned (.int .i64 (7)) ∧ w' = w) := by have := classAt_any p 0; rw [hc] at this; exact this
  clear hc
  obtain ⟨⟨⟨k, n, t⟩, z⟩, hr⟩ : ∃ r : Tk × Int, (if isWord p = true then ((4, 0, p), 0) else if isName p = true then ((3, 0, p), 0) else (tk0, 102)) = r := ⟨_, rfl⟩
  have HK : Hid (∀ W, Calls Tryz.prog 85 #[.string p] W (TkP ((k, n, t), z) W)) := by
    show ∀ W, _
    intro W
    rw [← hr]
    exact nameOrWord_any p W hs
  rw [hr]
  clear hr
  go_enter Tryz.func48, Tryz.ntmps48
  go_wp2_with (first | (go_at_call 67; refine (HQ.out _).mono ?_; rintro e' w' ⟨rfl, he⟩; rw [he]; clear he) | (go_at_call 85; refine (HK.out _).mono ?_; rintro e w1 ⟨rfl, hb⟩; simp only [tkE, tkA]; obtain ⟨hc, hf⟩ := bcell hb; have hz := hb.size; (try simp at hz); have hz0 : w.heap.size < w1.heap.size := by omega))
  exact bodyPost_ret (v := tkE (((k, n, t), z))) (by simp [results, Tryz.results48, go_sem, tkE, tkA, *]) rfl ⟨rfl, by (repeat (first | exact Below.refl _ _ | assumption | refine Below.drew ?_ | refine below_drewN ?_ _ | refine Below.alloc ?_ (by first | omega | (simp; done) | (simp; omega)) _ | refine Below.setCell ?_ (by first | omega | (simp; done) | (simp; omega)) _ | refine Below.trans ?_ (Below.mono (by assumption) (by first | omega | (simp; done) | (simp; omega)))))⟩

set_option maxHeartbeats 4000000 in
theorem tok_param (p : ByteArray) (w : World) (hs : p.size ≤ 2147483648) (HZ1 : 0 < p.size) (hc : clsAt p 0 = 8) : Calls Tryz.prog 48 #[.string p] w (TkP (tokR p.data.toList) w) := by
  rw [tokR_cls, hc, show tokC 8 p = (if isName (p.extract 1 p.size) = true then ((6, 0, p.extract 1 p.size), 0) else (tk0, 102)) from by unfold tokC; simp]
  have HQ : Hid (∀ w, Calls Tryz.prog 67 #[.string p, .int .i64 0] w fun e w' => e = .returned (.int .i64 (8)) ∧ w' = w) := by have := classAt_any p 0; rw [hc] at this; exact this
  clear hc
  obtain ⟨⟨⟨k, n, t⟩, z⟩, hr⟩ : ∃ r : Tk × Int, (if isName (p.extract 1 p.size) = true then ((6, 0, p.extract 1 p.size), 0) else (tk0, 102)) = r := ⟨_, rfl⟩
  have HK : Hid (∀ W, Calls Tryz.prog 86 #[.string (p.extract 1 p.size)] W (TkP ((k, n, t), z) W)) := by
    show ∀ W, _
    intro W
    rw [← hr]
    exact param_any _ W (by simp; omega)
  rw [hr]
  clear hr
  have h1 : (1 : Int) ≤ (p.size : Int) := by have := HZ1; omega
  go_enter Tryz.func48, Tryz.ntmps48
  go_wp2_with (first | (go_at_call 67; refine (HQ.out _).mono ?_; rintro e' w' ⟨rfl, he⟩; rw [he]; clear he) | (go_at_call 86; refine (HK.out _).mono ?_; rintro e w1 ⟨rfl, hb⟩; simp only [tkE, tkA]; obtain ⟨hc, hf⟩ := bcell hb; have hz := hb.size; (try simp at hz); have hz0 : w.heap.size < w1.heap.size := by omega))
  exact bodyPost_ret (v := tkE (((k, n, t), z))) (by simp [results, Tryz.results48, go_sem, tkE, tkA, *]) rfl ⟨rfl, by (repeat (first | exact Below.refl _ _ | assumption | refine Below.drew ?_ | refine below_drewN ?_ _ | refine Below.alloc ?_ (by first | omega | (simp; done) | (simp; omega)) _ | refine Below.setCell ?_ (by first | omega | (simp; done) | (simp; omega)) _ | refine Below.trans ?_ (Below.mono (by assumption) (by first | omega | (simp; done) | (simp; omega)))))⟩

set_option maxHeartbeats 4000000 in
theorem tok_text (p : ByteArray) (w : World) (hs : p.size ≤ 2147483648) (hv : SV w) (hc : clsAt p 0 = 9) : Calls Tryz.prog 48 #[.string p] w (TkP (tokR p.data.toList) w) := by
  rw [tokR_cls, hc, show tokC 9 p = (if (parR p.data.toList).2 = 0 then ((5, 0, (parR p.data.toList).1.2.2), 0) else (tk0, 103)) from by unfold tokC; simp]
  have HQ : Hid (∀ w, Calls Tryz.prog 67 #[.string p, .int .i64 0] w fun e w' => e = .returned (.int .i64 (9)) ∧ w' = w) := by have := classAt_any p 0; rw [hc] at this; exact this
  clear hc
  have HSV := Lib.hid hv
  clear hv
  obtain ⟨⟨⟨k, n, t⟩, z⟩, hr⟩ : ∃ r : Tk × Int, (if (parR p.data.toList).2 = 0 then ((5, 0, (parR p.data.toList).1.2.2), 0) else (tk0, 103)) = r := ⟨_, rfl⟩
  have HK : Hid (∀ W, SV W → Calls Tryz.prog 87 #[.string p] W (TkP ((k, n, t), z) W)) := by
    show ∀ W, _
    intro W h
    rw [← hr]
    exact text_tok p W hs h
  rw [hr]
  clear hr
  go_enter Tryz.func48, Tryz.ntmps48
  go_wp2_with (first | (go_at_call 67; refine (HQ.out _).mono ?_; rintro e' w' ⟨rfl, he⟩; rw [he]; clear he) | (go_at_call 87; refine (HK.out _ (HSV.out.alloc _)).mono ?_; rintro e w1 ⟨rfl, hb⟩; simp only [tkE, tkA]; obtain ⟨hc, hf⟩ := bcell hb; have hz := hb.size; (try simp at hz); have hz0 : w.heap.size < w1.heap.size := by omega))
  exact bodyPost_ret (v := tkE (((k, n, t), z))) (by simp [results, Tryz.results48, go_sem, tkE, tkA, *]) rfl ⟨rfl, by (repeat (first | exact Below.refl _ _ | assumption | refine Below.drew ?_ | refine below_drewN ?_ _ | refine Below.alloc ?_ (by first | omega | (simp; done) | (simp; omega)) _ | refine Below.setCell ?_ (by first | omega | (simp; done) | (simp; omega)) _ | refine Below.trans ?_ (Below.mono (by assumption) (by first | omega | (simp; done) | (simp; omega)))))⟩

set_option maxHeartbeats 4000000 in
theorem tok_sign (p : ByteArray) (w : World) (hs : p.size ≤ 2147483648) (hc : clsAt p 0 = 10) : Calls Tryz.prog 48 #[.string p] w (TkP (tokR p.data.toList) w) := by
  rw [tokR_cls, hc, show tokC 10 p = ((7, 0, p), 0) from by unfold tokC; simp]
  have HQ : Hid (∀ w, Calls Tryz.prog 67 #[.string p, .int .i64 0] w fun e w' => e = .returned (.int .i64 (10)) ∧ w' = w) := by have := classAt_any p 0; rw [hc] at this; exact this
  clear hc
  go_enter Tryz.func48, Tryz.ntmps48
  go_wp2_with (first | (go_at_call 67; refine (HQ.out _).mono ?_; rintro e' w' ⟨rfl, he⟩; rw [he]; clear he) | (go_at_call 88; refine (lettered_any _ _ _ hs).mono ?_; rintro e w' ⟨rfl, hb⟩; (obtain ⟨hc, hf⟩ := bcell hb; have hz := hb.size; (try simp at hz); (try have hz0 : w.heap.size < w'.heap.size := by omega); (try have hz1 : w.heap.size + 1 < w'.heap.size := by omega); (try have hz2 : w.heap.size + 1 + 1 < w'.heap.size := by omega); (try have hz3 : w.heap.size + 1 + 1 + 1 < w'.heap.size := by omega))))
  exact bodyPost_ret (v := tkE (((7, 0, p), 0))) (by simp [results, Tryz.results48, go_sem, tkE, tkA, *]) rfl ⟨rfl, by (repeat (first | exact Below.refl _ _ | assumption | refine Below.drew ?_ | refine below_drewN ?_ _ | refine Below.alloc ?_ (by first | omega | (simp; done) | (simp; omega)) _ | refine Below.setCell ?_ (by first | omega | (simp; done) | (simp; omega)) _ | refine Below.trans ?_ (Below.mono (by assumption) (by first | omega | (simp; done) | (simp; omega)))))⟩

theorem token_any (p : ByteArray) (w : World) (hs : p.size ≤ 2147483648) (hv : SV w) : Calls Tryz.prog 48 #[.string p] w (TkP (tokR p.data.toList) w) := by
  rcases clsAt_range p 0 with h | h | h | h | h | h | h | h | h | h | h
  · exact tok_other0 p w hs h
  · exact tok_none p w hs h
  · exact tok_other2 p w hs h
  · exact tok_other3 p w hs h
  · exact tok_num p w hs hv h
  · exact tok_name5 p w hs h
  · exact tok_name6 p w hs h
  · exact tok_name7 p w hs h
  · exact tok_param p w hs (clsAt_lt (by rw [h]; decide)) h
  · exact tok_text p w hs hv h
  · exact tok_sign p w hs h
end Go.Proofs.YtlooelldkbdomaaGreatDoor
