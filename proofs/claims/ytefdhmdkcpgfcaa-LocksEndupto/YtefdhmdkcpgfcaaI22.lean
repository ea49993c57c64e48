/- Walks of layer 19: the law's taken. -/
import Derived.Test.YtefdhmdkcpgfcaaI21
import Derived.Test.YtefdhmdkcpgfcaaID
namespace Go.Proofs.Ytefdhmdkcpgfcaa
open Go.RowKit
/-- What was taken of some, so far. -/
structure Tk9 (A : List (List Lk)) (k : Nat) (T : Tb9) : Prop where
  last : T.last < (k : Int)
  sz : Sz9 T
  len : T.ps.length ≤ k
  ok : Ok9 (A.map okL) T
theorem tk_zero (A : List (List Lk)) : Tk9 A 0 t90 := ⟨by simp [t90], sz_t0, Nat.le_refl _, fun _ h => absurd h (by simp [t90])⟩
theorem tk_askE {A : List (List Lk)} {k : Nat} {T : Tb9} (h : Tk9 A k T) (l : List Lk) : askE T k l = if l.all lkR = true then 0 else 190 := by
  unfold askE
  rw [if_neg]
  have := h.last
  omega
theorem tk_step {A : List (List Lk)} {k : Nat} {T : Tb9} (h : Tk9 A k T) (hk : k < A.length) (hA : A.length ≤ 2147483647) (hl : Sl9 A[k]) : Tk9 A (k + 1) (askT T k A[k]) := by
  have hs := h.sz.ask (pos := k) hl (by have := h.len; omega) (by omega)
  have hlen := ask_len T k A[k]
  by_cases e : askE T k A[k] = 0
  · have ha : A[k].all lkR = true := by
      rw [tk_askE h] at e
      by_cases c : A[k].all lkR = true
      · exact c
      · rw [if_neg c] at e
        cases e
    refine ⟨?_, hs, Nat.le_trans hlen (by have := h.len; omega), ?_⟩
    · rw [askT_yes e]
      show (k : Int) < ((k + 1 : Nat) : Int)
      omega
    · rw [askT_yes e]
      intro p hp
      rcases List.mem_append.1 hp with hp | hp
      · exact h.ok p hp
      · rw [List.mem_singleton.1 hp]
        refine ⟨k, by rw [List.length_map]; exact hk, rfl, ?_⟩
        rw [List.getElem_map]
        exact (if_pos ha).symm
  · rw [askT_no e] at hs ⊢
    exact ⟨by have := h.last; omega, hs, by have := h.len; omega, h.ok⟩
theorem rdL_rowCells {w' : World} {base : Nat} {v : Value} {l : List Lk} (h : w'.ownsRow base 23 4 v l.length (l.flatMap lkC)) : OwnR 4 23 LkR w' base v l := by
  refine ⟨l.map fun x => (x, lkC x), by rw [List.map_map]; exact List.map_id' _, fun p hp => ?_, ?_⟩
  · obtain ⟨x, _, rfl⟩ := List.mem_map.1 hp
    exact ⟨rfl, rfl⟩
  · rw [flatf_pairs]
    exact h

set_option maxHeartbeats 16000000 in
set_option maxRecDepth 100000 in
theorem taken19_any {PT : Tm9} (hL : LocksIs PT) (p : Option Addr) (cap : Nat) (A : List (List Lk)) (t Bp : Nat) (Zp0 : Nat → Prop) (K : List Rs) (w0 w : World) (h : Fm w0 (ptR PT Bp Zp0 t t90 :: K) (fun _ => True) w) (hr : RowR 1 (SlR w0) w0 p A) (hl : A.length ≤ 1048576) (hsl : ∀ x ∈ A, Sl9 x) : Calls Try.prog 21 #[.pointer (some ⟨t, 0, none⟩), .slice p A.length cap] w fun e w' => ∃ v Zr Zp T, e = .returned (.tuple #[v, .bool true]) ∧ Tk9 A A.length T ∧ Fm w0 (rdR Zr v (A.map okL) :: ptR PT Bp Zp t T :: K) (fun _ => True) w' := by
  obtain ⟨i1, hi1, hx0, hx1, hx2⟩ := info_parts Try.infoLk
  obtain ⟨i4, hi4, hz0, hz1, hz2⟩ := info_parts Try.infoSlk
  have H := Lib.hid hL
  have HR := Lib.hid hr
  have F0 := Lib.hid h.emptyRd
  have HSL := Lib.hid hsl
  clear hL hr h hsl
  go_enter Try.func21, Try.ntmps21
  go_wp2_with fail
  go_loopw [6, 7, 8, 9, 10, 11, 12] (fun v i _ _ _ _ _ wr => ∃ (k : Nat) (T : Tb9) (Zr Zp : Nat → Prop), k ≤ A.length ∧ i = .int .i64 k ∧ Tk9 A k T ∧ Fm w0 (rdR Zr v ((A.take k).map okL) :: ptR PT Bp Zp t T :: K) (fun _ => True) wr) (fun _ i _ _ _ _ _ _ => A.length - (intOf i).toNat)
  case atStart => exact ⟨0, t90, _, Zp0, Nat.zero_le _, rfl, tk_zero A, F0.out⟩
  case round =>
    clear F0
    obtain ⟨k, T, Zr, Zp, hk, rfl, hT, hF⟩ := hrel
    have HF := Lib.hid hF
    have HT := Lib.hid hT
    clear hF hT
    by_cases hlt : k < A.length
    · have hlti : (k : Int) < (A.length : Int) := by omega
      have ha := sl_at HR.out hlt
      have HS1 := Lib.hid (tk_step HT.out hlt (by omega) (HSL.out _ (List.getElem_mem hlt)))
      have HSY := Lib.hid (HSL.out _ (List.getElem_mem hlt))
      have HTK : Hid ((A.take (k + 1)).map okL = (A.take k).map okL ++ [okL A[k]]) := Lib.hid (by rw [List.take_succ_eq_append_getElem hlt, List.map_append]; rfl)
      have HRL : Hid (((A.take k).map okL).length = k) := Lib.hid (by rw [List.length_map, List.length_take]; omega)
      have hTl := HT.out.len
      generalize A[k] = y at ha HS1 HSY HTK
      obtain ⟨b, o, p1, c1, rfl, a0, hr1, _⟩ := ha
      have A0 := Lib.hid a0
      have HR1 := Lib.hid hr1
      have d0 := cell_later HF.out.bel a0
      have hyl := HSY.out.len
      clear a0 hr1
      go_wp2_with fail
      clear d0
      refine (H.out.ask T t _ _ k p1 c1 y _ (HF.out.at 1 rfl) HT.out.sz (by omega) (by omega) (by omega) (HR1.out.later HF.out.bel fun _ _ h => h) HSY.out).mono ?_
      rintro e w2 ⟨rfl, hq⟩
      obtain ⟨E, hE⟩ : ∃ E, askE T k y = E := ⟨_, rfl⟩
      rw [hE]
      have HE : Hid (E = if y.all lkR = true then 0 else 190) := Lib.hid (by rw [← hE]; exact tk_askE HT.out y)
      clear hE
      obtain ⟨Zp2, hF⟩ := HF.out.turnP H.out 1 rfl hq
      have F2 : Hid (Fm w0 (rdR Zr u6 ((A.take k).map okL) :: ptR PT Bp Zp2 t (askT T k y) :: K) (fun _ => True) w2) := Lib.hid hF
      clear hq hF HF
      go_wp2_with fail
      go_loopw [9, 10, 11] (fun q j _ wr => ∃ n : Nat, n ≤ y.length ∧ j = .int .i64 n ∧ q = .bool ((y.take n).all lkR) ∧ Below w2.heap.size w2 wr) (fun _ j _ _ => y.length - (intOf j).toNat)
      case atStart => exact ⟨0, Nat.zero_le _, rfl, rfl, Below.refl _ _⟩
      case round =>
        obtain ⟨n, hn, rfl, rfl, hb⟩ := hrel
        have HB := Lib.hid hb
        have F3 := Lib.hid (F2.out.call hb)
        clear hb
        have d0 := cell_later F3.out.bel A0.out
        by_cases hln : n < y.length
        · have hlni : (n : Int) < (y.length : Int) := by omega
          have hat := lock_at HR1.out hln
          have HQ : Hid ((y.take (n + 1)).all lkR = ((y.take n).all lkR && lkR y[n])) := Lib.hid (by rw [List.take_succ_eq_append_getElem hln, List.all_append]; simp)
          obtain ⟨⟨t2, l2, h2, x2⟩, hz⟩ : ∃ z, y[n] = z := ⟨_, rfl⟩
          rw [hz] at hat HQ
          obtain ⟨b1, o1, rfl, a0, a1, a2, a3⟩ := hat
          have e0 := cell_later F3.out.bel a0
          have e1 := cell_later F3.out.bel a1
          have e2 := cell_later F3.out.bel a2
          have e3 := cell_later F3.out.bel a3
          clear a0 a1 a2 a3 hz
          go_wp2_with fail
          clear d0 e0 e1 e2 e3
          refine (rright19_any ⟨t2, l2, h2, x2⟩ _).mono ?_
          rintro e w6 ⟨rfl, hq⟩
          have HB2 := Lib.hid (HB.out.trans (hq.mono HB.out.size))
          clear hq
          generalize (y.take n).all lkR = qa at HQ ⊢
          generalize lkR ⟨t2, l2, h2, x2⟩ = qb at HQ ⊢
          cases qa <;> cases qb
          all_goals (go_wp2; go_roundw)
          all_goals first | exact ⟨n + 1, by omega, by go_num, by rw [HQ.out]; rfl, HB2.out⟩ | (simp [intOf]; omega)
        · have hlni : ¬ (n : Int) < (y.length : Int) := by omega
          rw [take_all hln]
          clear HB
          have hRl : ((A.take k).map okL).length ≤ 1048576 := by have := HRL.out; omega
          generalize (A.take k).map okL = R at F3 HTK HRL hRl
          generalize hqa : y.all lkR = qa
          cases qa with
          | false =>
            have HOK : Hid (okL y = []) := Lib.hid (by unfold okL; rw [hqa]; rfl)
            have e := HE.out
            rw [hqa] at e
            simp only [Bool.false_eq_true, if_false] at e
            subst e
            clear hqa
            have F4 := Lib.hid (F3.out.emptyOw 4 23 LkR)
            rw [HOK.out] at HTK
            obtain ⟨⟨ps, q1, q2, q3⟩, _⟩ : (rdR Zr u6 R).H wr := F4.out.at 1 rfl
            have HQ := Lib.hid (And.intro q1 q2)
            have HQ3 := Lib.hid q3
            clear q1 q2 q3
            go_wp2_with (first | (at_builtin; refine wpList_append_lies _ rfl _ _ 41 rfl 0 34 i4 _ 1 24 Try.underlying41 hi4 hz0 hz1 hz2 rfl (by decide) u6 R.length (ps.flatMap (·.2)) rfl (HQ3.out.alloc _) ⟨wr.heap.size, 0, none⟩ 1 1 [.slice none 0 0] rfl rfl (cells_alloc _ _ _) (by intro u hu; rw [List.mem_singleton.1 hu]; rfl) (by decide) (by unfold maxLen; omega) (by omega) (Nat.zero_le _) _ rfl ?_; intro g cap2 w7 hown7 hgrow7 hor7 _; (have G7 := Lib.hid (F4.out.readsGrow HQ.out.1 HQ.out.2 rfl hown7 hgrow7 hor7)); clear hown7 hgrow7 hor7))
            obtain ⟨Zr2, hF7⟩ := G7.out
            have F7 := Lib.hid hF7
            clear hF7
            go_roundw
            case rel => exact ⟨k + 1, askT T k y, Zr2, Zp2, by omega, by go_num, HS1.out, by rw [HTK.out]; exact F7.out⟩
            case measure => simp [intOf]; omega
          | true =>
            have HOK : Hid (okL y = y) := Lib.hid (by unfold okL; rw [hqa]; rfl)
            have e := HE.out
            rw [hqa] at e
            simp only [if_true] at e
            subst e
            clear hqa
            rw [HOK.out] at HTK
            go_wp2_with (first | (at_builtin; refine wpList_append_whole _ rfl _ _ 34 rfl wr.heap.size 23 i1 _ 4 48 Try.underlying34 hi1 hx0 hx1 hx2 rfl (by decide) (.slice none 0 0) 0 [] rfl (World.ownsRow_nil _ _ _ _) p1 y.length c1 (y.flatMap lkC) rfl (lenK y) (rowK_cells (HR1.out.later F3.out.bel fun _ _ h => h)) (one_of lkC_one y) (by unfold maxLen; omega) (by omega) (Nat.le_refl _) ?_; intro v5 w5 hown5 hgrow5; (have hO5 : OwnR 4 23 LkR w5 wr.heap.size v5 y := rdL_rowCells (by simpa using hown5)); (have F5 := Lib.hid (F3.out.push (r := owR 4 23 LkR 0 v5 y) ((Below.refl _ _).grown hgrow5 (Nat.le_refl _) (fun k h => by cases h)) (owR_ok _ _ _ _ _ _) (hO5.mono (Nat.zero_le _) fun _ _ h => h) fun k hk => hO5.lt hk)); obtain ⟨pv, cv, rfl, _⟩ := hO5.form; clear hown5 hgrow5 hO5; obtain ⟨⟨ps, q1, q2, q3⟩, _⟩ : (rdR Zr u6 R).H w5 := F5.out.at 1 rfl; (have HQ := Lib.hid (And.intro q1 q2)); (have HQ3 := Lib.hid q3); clear q1 q2 q3) | (at_builtin; refine wpList_append_lies _ rfl _ _ 41 rfl 0 34 i4 _ 1 24 Try.underlying41 hi4 hz0 hz1 hz2 rfl (by decide) u6 R.length (ps.flatMap (·.2)) rfl (HQ3.out.alloc _) ⟨w5.heap.size, 0, none⟩ 1 1 [.slice pv y.length cv] rfl rfl (cells_alloc _ _ _) (by intro u hu; rw [List.mem_singleton.1 hu]; rfl) (by decide) (by unfold maxLen; omega) (by omega) (Nat.zero_le _) _ rfl ?_; intro g cap2 w7 hown7 hgrow7 hor7 _; (have G7 := Lib.hid (F5.out.readsGrow HQ.out.1 HQ.out.2 rfl hown7 hgrow7 hor7)); clear hown7 hgrow7 hor7))
            obtain ⟨Zr2, hF7⟩ := G7.out
            have F7 := Lib.hid hF7
            clear hF7
            go_roundw
            case rel => exact ⟨k + 1, askT T k y, Zr2, Zp2, by omega, by go_num, HS1.out, by rw [HTK.out]; exact F7.out⟩
            case measure => simp [intOf]; omega
    · have hlti : ¬ (k : Int) < (A.length : Int) := by omega
      obtain rfl : k = A.length := by omega
      rw [List.take_of_length_le (Nat.le_refl _)] at HF
      go_wp2
      exact bodyPost_ret (v := .tuple #[u6, .bool true]) (by simp [results, Try.results21, go_sem]) rfl ⟨_, rfl, Zr, Zp, T, HT.out, HF.out⟩
end Go.Proofs.Ytefdhmdkcpgfcaa
