/- Walks of layer 19: the program's Held, Ready, Granted, Waits, Locks. -/
import Derived.Test.YtefdhmdkcpgfcaaIJ
namespace Go.Proofs.Ytefdhmdkcpgfcaa
open Go.RowKit

set_option maxRecDepth 100000 in
theorem held1_any (p : Pl9) (q : Option Addr) (c : Nat) (w : World) : Calls Try.prog 39 #[plV p q c] w fun e w' => e = .returned (.bool true) ∧ Below w.heap.size w w' := by
  go_enter Try.func39, Try.ntmps39
  go_wp2
  go_ret
  exact ⟨rfl, by (repeat (first | exact Below.refl _ _ | assumption | refine Below.drew ?_ | refine below_drewN ?_ _ | refine Below.alloc ?_ (by first | omega | (simp; done) | (simp; omega)) _ | refine Below.setCell ?_ (by first | omega | (simp; done) | (simp; omega)) _ | refine Below.trans ?_ (Below.mono (by assumption) (by first | omega | (simp; done) | (simp; omega)))))⟩
theorem IV9.up {w w1 w2 : World} {l : List Int} {v : Value} (h : IV9 w1 l v w2) (hb : Below w.heap.size w w1) : IV9 w l v w2 := ⟨h.1.mono hb.size fun _ _ h => h, hb.trans (h.2.mono hb.size)⟩
theorem IV9.none {w w' : World} (hb : Below w.heap.size w w') : IV9 w [] (.slice none 0 0) w' := ⟨OwnR.nil _ _ _ _ _, hb⟩

set_option maxHeartbeats 2000000 in
set_option maxRecDepth 100000 in
theorem pheld_any (T : Tb9) (t B : Nat) (Z : Nat → Prop) (w : World) (h : PT9 w B Z t T) (hs : Sz9 T) : Calls Try.prog 16 #[.pointer (some ⟨t, 0, none⟩)] w fun e w' => ∃ v, e = .returned v ∧ IV9 w (openL T) v w' := by
  have HP := Lib.hid (places_all T t B Z w h hs (fun _ => true) (fun k => (openL T).take k) rfl (fun k g => openL_take g) fun k g q c W _ _ => held1_any T.ps[k] q c W)
  have HE : Hid ((openL T).take T.ps.length = openL T) := Lib.hid (List.take_of_length_le (by unfold openL; rw [List.length_map]; exact Nat.le_refl _))
  rw [HE.out] at HP
  clear h hs
  go_enter Try.func16, Try.ntmps16
  go_wp2_with (first | (go_at_call 38; refine HP.out.mono ?_; rintro e w1 ⟨v, rfl, hv⟩; (have HV := Lib.hid hv); clear hv))
  go_ret
  exact ⟨v, rfl, HV.out⟩

set_option maxHeartbeats 2000000 in
set_option maxRecDepth 100000 in
theorem pready_any (T : Tb9) (t B : Nat) (Z : Nat → Prop) (w : World) (h : PT9 w B Z t T) (hs : Sz9 T) : Calls Try.prog 18 #[.pointer (some ⟨t, 0, none⟩)] w fun e w' => ∃ v, e = .returned v ∧ IV9 w (grntL T) v w' := by
  have HP := Lib.hid (places_grnt T t B Z w h hs (grntI T) (grTo T) rfl (fun k g => grTo_succ g) fun k g q c W hb hr => granted1_any T t B Z k q c W (h.later hb) hs g hr)
  rw [show grTo T T.ps.length = grntL T from rfl] at HP
  clear h hs
  go_enter Try.func18, Try.ntmps18
  go_wp2_with (first | (go_at_call 38; refine HP.out.mono ?_; rintro e w1 ⟨v, rfl, hv⟩; (have HV := Lib.hid hv); clear hv))
  go_ret
  exact ⟨v, rfl, HV.out⟩

set_option maxHeartbeats 4000000 in
set_option maxRecDepth 100000 in
theorem pgranted_any (T : Tb9) (t B : Nat) (Z : Nat → Prop) (pos : Int) (w : World) (h : PT9 w B Z t T) (hs : Sz9 T) : Calls Try.prog 37 #[.pointer (some ⟨t, 0, none⟩), .int .i64 pos] w fun e w' => e = .returned (.bool (isGr T pos)) ∧ Below w.heap.size w w' := by
  have HF := Lib.hid (find19_any T t B Z pos w h hs)
  cases hat : atI T pos with
  | none =>
    have HE : Hid (isGr T pos = false) := Lib.hid (by unfold isGr; rw [hat])
    unfold FindI at HF
    rw [hat] at HF
    rw [HE.out]
    clear h hs hat
    go_enter Try.func37, Try.ntmps37
    go_wp2_with (first | (go_at_call 42; refine HF.out.mono ?_; rintro e w1 ⟨⟨j, hj, rfl, hi⟩, hb⟩; (have HB := Lib.hid hb); clear hi hb))
    go_ret
    exact ⟨rfl, HB.out⟩
  | some i =>
    obtain ⟨hi, _⟩ := atI_lt hat
    have HE : Hid (isGr T pos = grntI T i) := Lib.hid (by unfold isGr; rw [hat])
    unfold FindI at HF
    rw [hat] at HF
    rw [HE.out]
    obtain ⟨q0, cap, hbox, hrow⟩ := h.reads
    have hzt : t < w.heap.size := (Array.getElem?_eq_some_iff.1 hbox).1
    have c0 := (two_of hbox).1.1
    have hpl := place_at hrow hi
    obtain ⟨b, off, qk, ck, rfl, p0, p1, hrk⟩ := hpl
    have HG := Lib.hid (fun (W : World) (hb : Below w.heap.size w W) => granted1_any T t B Z i qk ck W (h.later hb) hs hi (hrk.later hb fun _ _ h => h))
    obtain ⟨x, hx⟩ : ∃ x, T.ps[i] = x := ⟨_, rfl⟩
    obtain ⟨m, hm⟩ : ∃ m, grntI T i = m := ⟨_, rfl⟩
    rw [hx] at p0 p1 HG
    rw [hm] at HG ⊢
    have HC := Lib.hid (And.intro c0 (And.intro p0 p1))
    have hlti : (i : Int) < (T.ps.length : Int) := by omega
    clear h hs hat hbox hrow hrk hx hm c0 p0 p1
    go_enter Try.func37, Try.ntmps37
    go_wp2_with (first
      | (go_at_call 42; refine HF.out.mono ?_; rintro e w1 ⟨⟨j, hj, rfl, hj2⟩, hb⟩; (have hij := hj2 i rfl); subst hij; (have HB := Lib.hid hb); (have d0 := cell_later hb HC.out.1); (have d1 := cell_later hb HC.out.2.1); (have d2 := cell_later hb HC.out.2.2); clear hj2 hb)
      | (go_at_call 40; refine (HG.out _ HB.out).mono ?_; rintro e w2 ⟨rfl, hb2⟩; (have HB2 := Lib.hid hb2); clear hb2))
    go_ret
    exact ⟨by simp, HB.out.trans (HB2.out.mono HB.out.size)⟩

theorem wait_grow {T : Tb9} (hs : Sz9 T) {i : Nat} (hi : i < T.ps.length) (k : Nat) (hk : k < T.ps.length) : waitL T.ps[i].ls (T.ps.take (min (k + 1) i)) = waitL T.ps[i].ls (T.ps.take (min k i)) ++ if kpB T.ps[i] T.ps[k] = true then [T.ps[k].pos] else [] := by
  rw [kp_at hs hi hk]
  by_cases c : k < i
  · rw [Nat.min_eq_left (by omega : k + 1 ≤ i), Nat.min_eq_left (by omega : k ≤ i), decide_eq_true c, Bool.true_and]
    exact waitL_take hk
  · rw [Nat.min_eq_right (by omega : i ≤ k + 1), Nat.min_eq_right (by omega : i ≤ k), decide_eq_false c]
    simp

set_option maxHeartbeats 4000000 in
set_option maxRecDepth 100000 in
theorem pwaits_any (T : Tb9) (t B : Nat) (Z : Nat → Prop) (pos : Int) (w : World) (h : PT9 w B Z t T) (hs : Sz9 T) : Calls Try.prog 27 #[.pointer (some ⟨t, 0, none⟩), .int .i64 pos] w fun e w' => ∃ v, e = .returned (.tuple #[v, .int .i64 (waitR T pos).2]) ∧ IV9 w (waitR T pos).1 v w' := by
  have HF := Lib.hid (find19_any T t B Z pos w h hs)
  cases hat : atI T pos with
  | none =>
    have HE : Hid (waitR T pos = ([], 1)) := Lib.hid (by unfold waitR; rw [hat])
    unfold FindI at HF
    rw [hat] at HF
    rw [HE.out]
    clear h hs hat
    go_enter Try.func27, Try.ntmps27
    go_wp2_with (first | (go_at_call 42; refine HF.out.mono ?_; rintro e w1 ⟨⟨j, hj, rfl, hi⟩, hb⟩; (have HB := Lib.hid hb); clear hi hb))
    exact bodyPost_ret (v := .tuple #[.slice none 0 0, .int .i64 1]) (by simp [results, Try.results27, go_sem]) rfl ⟨_, rfl, IV9.none HB.out⟩
  | some i =>
    obtain ⟨hi, _⟩ := atI_lt hat
    have HE : Hid (waitR T pos = (waitI T i, 0)) := Lib.hid (by unfold waitR; rw [hat])
    have HWI : Hid (waitL T.ps[i].ls (T.ps.take (min T.ps.length i)) = waitI T i) := Lib.hid (by
      unfold waitI
      rw [List.getElem?_eq_getElem hi, Nat.min_eq_right (by omega : i ≤ T.ps.length)]
      rfl)
    unfold FindI at HF
    rw [hat] at HF
    rw [HE.out]
    obtain ⟨q0, cap, hbox, hrow⟩ := h.reads
    have hzt : t < w.heap.size := (Array.getElem?_eq_some_iff.1 hbox).1
    have c0 := (two_of hbox).1.1
    have hpl := place_at hrow hi
    obtain ⟨b, off, qk, ck, rfl, p0, p1, hrk⟩ := hpl
    have hls : ∀ a ∈ T.ps, a.ls.length ≤ 1099511627776 := fun a ha => by have := hs.ls a ha; omega
    have HP := Lib.hid (fun (W : World) (hb : Below w.heap.size w W) (x0 : Nat) (g0 : W.cell? ⟨x0, 0, none⟩ = some (.int .i64 T.ps[i].pos)) (g1 : W.cell? ⟨x0, 1, none⟩ = some (.slice qk T.ps[i].ls.length ck)) =>
      HWI.out ▸ places_keep T t B Z W (h.later hb) hs x0 (fun k => if g : k < T.ps.length then kpB T.ps[i] T.ps[k] else false) (fun k => waitL T.ps[i].ls (T.ps.take (min k i))) (by rw [Nat.zero_min]; rfl) (fun k g => by rw [dif_pos g]; exact wait_grow hs hi k g) fun k g q c V hV hr => by
        rw [dif_pos g]
        exact keep1_any T.ps[i] T.ps[k] q qk c ck x0 V hr (hrk.later (hb.trans (hV.mono hb.size)) fun _ _ h => h) (cell_later hV g0) (cell_later hV g1) (hls _ (List.getElem_mem g)) (hls _ (List.getElem_mem hi)))
    have HK := Lib.hid (fun W => keeping_any T.ps[i] qk ck W)
    obtain ⟨x, hx⟩ : ∃ x, T.ps[i] = x := ⟨_, rfl⟩
    rw [hx] at p0 p1 HP HK
    have HC := Lib.hid (And.intro c0 (And.intro p0 p1))
    have hlti : (i : Int) < (T.ps.length : Int) := by omega
    clear h hs hat hbox hrow hrk c0 p0 p1 hls HWI hx
    go_enter Try.func27, Try.ntmps27
    go_wp2_with (first
      | (go_at_call 42; refine HF.out.mono ?_; rintro e w1 ⟨⟨j, hj, rfl, hj2⟩, hb⟩; (have hij := hj2 i rfl); subst hij; (have HB := Lib.hid hb); (have d0 := cell_later hb HC.out.1); (have d1 := cell_later hb HC.out.2.1); (have d2 := cell_later hb HC.out.2.2); clear hj2 hb)
      | (go_at_call 47; refine (HK.out _).mono ?_; rintro e w2 ⟨rfl, hw2⟩; (have hb2 : Below w1.heap.size w1 w2 := by rw [hw2]; exact (Below.refl _ _).alloc (Nat.le_refl _) _); (have HB2 := Lib.hid (HB.out.trans (hb2.mono HB.out.size))); (have HP2 := Lib.hid (HP.out w2 HB2.out w1.heap.size (by rw [hw2]; exact cell_blk (heap_alloc_new w1 _) rfl) (by rw [hw2]; exact cell_blk (heap_alloc_new w1 _) rfl))); clear hw2 hb2)
      | (go_at_call 38; refine HP2.out.mono ?_; rintro e w3 ⟨v, rfl, hv⟩; (have HV := Lib.hid (hv.up HB2.out)); clear hv))
    exact bodyPost_ret (v := .tuple #[v, .int .i64 0]) (by simp [results, Try.results27, go_sem]) rfl ⟨v, rfl, HV.out⟩

set_option maxHeartbeats 4000000 in
set_option maxRecDepth 100000 in
theorem plocks_any (T : Tb9) (t B : Nat) (Z : Nat → Prop) (pos : Int) (w : World) (h : PT9 w B Z t T) (hs : Sz9 T) : Calls Try.prog 35 #[.pointer (some ⟨t, 0, none⟩), .int .i64 pos] w fun e w' => ∃ v, e = .returned (.tuple #[v, .int .i64 (lockR T pos).2]) ∧ OwnR 4 23 LkR w' w.heap.size v (lockR T pos).1 ∧ Below w.heap.size w w' := by
  have HF := Lib.hid (find19_any T t B Z pos w h hs)
  cases hat : atI T pos with
  | none =>
    have HE : Hid (lockR T pos = ([], 1)) := Lib.hid (by unfold lockR; rw [hat])
    unfold FindI at HF
    rw [hat] at HF
    rw [HE.out]
    clear h hs hat
    go_enter Try.func35, Try.ntmps35
    go_wp2_with (first | (go_at_call 42; refine HF.out.mono ?_; rintro e w1 ⟨⟨j, hj, rfl, hi⟩, hb⟩; (have HB := Lib.hid hb); clear hi hb))
    exact bodyPost_ret (v := .tuple #[.slice none 0 0, .int .i64 1]) (by simp [results, Try.results35, go_sem]) rfl ⟨_, rfl, OwnR.nil _ _ _ _ _, HB.out⟩
  | some i =>
    obtain ⟨hi, _⟩ := atI_lt hat
    obtain ⟨x, hx⟩ : ∃ x, T.ps[i] = x := ⟨_, rfl⟩
    have HE : Hid (lockR T pos = (x.ls, 0)) := Lib.hid (by unfold lockR; rw [hat]; simp [hi, hx])
    unfold FindI at HF
    rw [hat] at HF
    rw [HE.out]
    obtain ⟨q0, cap, hbox, hrow⟩ := h.reads
    have hzt : t < w.heap.size := (Array.getElem?_eq_some_iff.1 hbox).1
    have c0 := (two_of hbox).1.1
    have hpl := place_at hrow hi
    rw [hx] at hpl
    obtain ⟨b, off, qk, ck, rfl, p0, p1, hrk⟩ := hpl
    have hm : x ∈ T.ps := hx ▸ List.getElem_mem hi
    have HK := Lib.hid (fun (W : World) (hb : Below w.heap.size w W) => copied_any qk ck x.ls W (hrk.later hb fun _ _ h => h) (by have := hs.ls x hm; omega) fun y hy => by have := hs.size x hm y hy; omega)
    have HC := Lib.hid (And.intro c0 p1)
    have hlti : (i : Int) < (T.ps.length : Int) := by omega
    clear h hs hat hbox hrow hrk c0 p0 p1 hx hm
    go_enter Try.func35, Try.ntmps35
    go_wp2_with (first
      | (go_at_call 42; refine HF.out.mono ?_; rintro e w1 ⟨⟨j, hj, rfl, hj2⟩, hb⟩; (have hij := hj2 i rfl); subst hij; (have HB := Lib.hid hb); (have d0 := cell_later hb HC.out.1); (have d1 := cell_later hb HC.out.2); clear hj2 hb)
      | (go_at_call 46; refine (HK.out _ HB.out).mono ?_; rintro e w2 ⟨v, rfl, hv, hb2⟩; (have HV := Lib.hid (hv.mono HB.out.size fun _ _ h => h)); (have HB2 := Lib.hid (HB.out.trans (hb2.mono HB.out.size))); clear hv hb2))
    exact bodyPost_ret (v := .tuple #[v, .int .i64 0]) (by simp [results, Try.results35, go_sem]) rfl ⟨v, rfl, HV.out, HB2.out⟩
end Go.Proofs.Ytefdhmdkcpgfcaa
