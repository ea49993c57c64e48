/- Walks of layer 19: LocksShare. -/
import Derived.Test.YtefdhmdkcpgfcaaI19
namespace Go.Proofs.Ytefdhmdkcpgfcaa
open Go.RowKit
theorem take_all {α : Type} {l : List α} {k : Nat} (h : ¬ k < l.length) : l.take k = l := List.take_of_length_le (by omega)
set_option maxHeartbeats 16000000 in
set_option maxRecDepth 100000 in
theorem locksShare_any {PT : Tm9} (hL : LocksIs PT) (p : Option Addr) (cap : Nat) (asked : List (List Lk)) (x : Lk) (w : World) (hr : RowR 1 (SlR w) w p asked) (hl : asked.length ≤ 1048576) : Calls Try.prog 6 #[.slice p asked.length cap, .agg (lkC x).toArray] w fun e w' => e = .returned (.bool true) ∧ Below w.heap.size w w' := by
  obtain ⟨t1, l1, h1, x1⟩ := x
  obtain ⟨i3, hi3, hy0, hy1, hy2⟩ := info_parts Try.infoOp9
  obtain ⟨i1, hi1, hx0, hx1, hx2⟩ := info_parts Try.infoLk
  obtain ⟨i4, hi4, hz0, hz1, hz2⟩ := info_parts Try.infoSlk
  obtain ⟨i0, hi0, hv0, hv1, hv2⟩ := info_parts Try.infoInt
  have H := Lib.hid hL
  have HR := Lib.hid hr
  simp only [lkC]
  clear hL hr
  have h0 := (Fm.start w).box (.cells #[.int .i64 t1, .string l1, .string h1, .bool x1] 23)
  obtain ⟨g0, hg0⟩ : ∃ g0, w.heap.size = g0 := ⟨_, rfl⟩
  rw [hg0] at h0
  obtain ⟨W1, hW1⟩ : ∃ W1, w.alloc (.cells #[.int .i64 t1, .string l1, .string h1, .bool x1] 23) = W1 := ⟨_, rfl⟩
  rw [hW1] at h0
  have F0 := Lib.hid (h0.emptyOw 3 36 (Op9R w))
  have hw1 := Lib.hid hW1
  have hgg := Lib.hid hg0
  clear h0 hW1 hg0
  go_enter Try.func6, Try.ntmps6
  go_wp2_with fail
  rw [hw1.out, hgg.out]
  clear hw1 hgg
  go_loopw [5, 6] (fun v i wr => ∃ k : Nat, k ≤ asked.length ∧ i = .int .i64 k ∧ Fm w [owR 3 36 (Op9R w) 0 v (opsOf (asked.take k)), bx g0 (.cells #[.int .i64 t1, .string l1, .string h1, .bool x1] 23)] (fun _ => True) wr) (fun _ i _ => asked.length - (intOf i).toNat)
  case atStart => exact ⟨0, Nat.zero_le _, rfl, F0.out⟩
  case round =>
    clear F0
    obtain ⟨k, hk, rfl, hF⟩ := hrel
    have HF := Lib.hid hF
    clear hF
    by_cases hlt : k < asked.length
    · have hlti : (k : Int) < (asked.length : Int) := by omega
      have ha := sl_at HR.out hlt
      have HT := Lib.hid (opsOf_snoc asked k hlt)
      have HLN : Hid ((opsOf (asked.take k)).length = k) := Lib.hid (by rw [opsOf_len, List.length_take]; omega)
      generalize asked[k] = y at ha HT
      obtain ⟨b, o, p1, c1, rfl, a0, hr1, hf1⟩ := ha
      have a1 := cell_later HF.out.bel a0
      have HO : Hid (Op9R w ⟨0, 0, y⟩ [.int .i64 0, .int .i64 0, .slice p1 y.length c1]) := Lib.hid ⟨p1, c1, rfl, hr1, hf1, by show (-9223372036854775808 : Int) ≤ 0; decide, by show (0 : Int) ≤ 9223372036854775807; decide⟩
      clear a0 hr1 hf1
      generalize opsOf (asked.take k) = K at HF HT HLN
      obtain ⟨ps, q1, q2, q3⟩ : OwnR 3 36 (Op9R w) wr 0 u5 K := HF.out.at 0 rfl
      have HQ := Lib.hid (And.intro q1 q2)
      have HQ3 := Lib.hid q3
      have hKl := HLN.out
      clear q1 q2 q3
      go_wp2_with (first | (at_builtin; refine wpList_append_lies _ rfl _ _ 27 rfl 0 36 i3 _ 3 40 Try.underlying27 hi3 hy0 hy1 hy2 rfl (by decide) u5 K.length (ps.flatMap (·.2)) rfl (HQ3.out.alloc _) ⟨wr.heap.size, 0, none⟩ 1 1 [.int .i64 0, .int .i64 0, .slice p1 y.length c1] rfl rfl (cells_alloc _ _ _) (by intro u hu; simp only [List.mem_cons, List.not_mem_nil, or_false] at hu; rcases hu with rfl | rfl | rfl <;> rfl) (by decide) (by unfold maxLen; omega) (by omega) (Nat.zero_le _) _ rfl ?_; intro g cap2 w5 hown5 hgrow5 hor5 _; (have HG5 := Lib.hid (HF.out.grown1 HQ.out.1 HQ.out.2 HO.out rfl rfl hown5 hgrow5 hor5)); clear hown5 hgrow5 hor5))
      go_roundw
      case rel => exact ⟨k + 1, by omega, by go_num, by rw [HT.out]; have h := HG5.out; rw [HLN.out] at h; exact h⟩
      case measure => simp [intOf]; omega
    · have hlti : ¬ (k : Int) < (asked.length : Int) := by omega
      rw [take_all hlt] at HF
      obtain ⟨pv, cv, rfl, _⟩ := OwnR.form (HF.out.at 0 rfl)
      go_wp2_with fail
      refine (weighs19_any pv cv (opsOf asked) _ (OwnR.row (HF.out.at 0 rfl) (Op9R.later HF.out.bel)) (by rw [opsOf_len]; omega)).mono ?_
      rintro e w3 ⟨m, rfl, hm, hq⟩
      have F1 := Lib.hid (HF.out.call (quiet_below hq)).drop
      clear hq HF hlti hk
      clear i3 hi3 hy0 hy1 hy2
      by_cases hbig : m ≤ 2147483647 ∧ l1.size ≤ 2147483647 ∧ h1.size ≤ 2147483647
      rotate_left
      · have z := four_of (F1.out.at 0 rfl)
        by_cases k1 : (m : Int) > 2147483647 <;> by_cases k2 : (l1.size : Int) > 2147483647 <;> by_cases k3 : (h1.size : Int) > 2147483647
        all_goals first | exact absurd ⟨by omega, by omega, by omega⟩ hbig | skip
        all_goals (clear hbig hm; go_wp2; go_ret; exact ⟨rfl, F1.out.bel⟩)
      have HWG := Lib.hid (ops_wg (hm hbig.1))
      have HS := Lib.hid hbig.2
      have n1 : ¬ (m : Int) > 2147483647 := by omega
      have n2 : ¬ (l1.size : Int) > 2147483647 := by omega
      have n3 : ¬ (h1.size : Int) > 2147483647 := by omega
      have hln : asked.length ≤ 2147483647 := HWG.out.1
      clear hm hbig
      have z := four_of (F1.out.at 0 rfl)
      go_wp2_with fail
      clear z n1 n2 n3
      refine (awake19_any H.out _).mono ?_
      rintro e w4 ⟨rfl, hq⟩
      have F2 := Lib.hid (F1.out.call hq)
      clear hq F1
      go_wp2_with fail
      refine (H.out.new _).mono ?_
      rintro e w5 ⟨t, rfl, hp, hq⟩
      have F3 := Lib.hid (F2.out.push (r := ptR PT _ _ t t90) hq (ptR_ok H.out _ _ _ _) hp fun _ h => h)
      clear hp hq F2
      generalize (fun k => w4.heap.size ≤ k ∧ k < w5.heap.size) = Zp0 at F3
      obtain ⟨Bp, hBp⟩ : ∃ B, w4.heap.size = B := ⟨_, rfl⟩
      rw [hBp] at F3
      clear hBp
      have F4 := Lib.hid F3.out.emptyRd
      go_wp2_with fail
      go_loopw [10, 11, 12, 13, 14, 15, 16] (fun v i _ _ _ _ _ wr => ∃ (k : Nat) (R : List (List Lk)) (Zr Zp : Nat → Prop), k ≤ asked.length ∧ i = .int .i64 k ∧ R = (asked.take k).map rdL ∧ Fm w [rdR Zr v R, ptR PT Bp Zp t (tbR R), bx g0 (.cells #[.int .i64 t1, .string l1, .string h1, .bool x1] 23)] (fun _ => True) wr) (fun _ i _ _ _ _ _ _ => asked.length - (intOf i).toNat)
      case atStart => exact ⟨0, [], _, Zp0, Nat.zero_le _, rfl, rfl, F4.out⟩
      case round =>
        clear F3 F4
        obtain ⟨k, R, Zr, Zp, hk, rfl, hR, hF⟩ := hrel
        have HF := Lib.hid hF
        have HRR := Lib.hid hR
        clear hF hR
        by_cases hlt : k < asked.length
        · have hlti : (k : Int) < (asked.length : Int) := by omega
          have ha := sl_at HR.out hlt
          have hsl := HWG.out.2 _ (List.getElem_mem hlt)
          have HT : Hid ((asked.take (k + 1)).map rdL = R ++ [rdL asked[k]]) := Lib.hid (by rw [List.take_succ_eq_append_getElem hlt, List.map_append, HRR.out]; rfl)
          have HRL : Hid (R.length = k) := Lib.hid (by rw [HRR.out, List.length_map, List.length_take]; omega)
          have HRS : Hid (∀ l ∈ R, Sl9 l) := Lib.hid (by rw [HRR.out]; intro l hl; obtain ⟨y, hy, rfl⟩ := List.mem_map.1 hl; exact rdL_sl (HWG.out.2 _ (List.mem_of_mem_take hy)))
          generalize asked[k] = y at ha HT hsl
          obtain ⟨b, o, p1, c1, rfl, a0, hr1, hf1⟩ := ha
          have HR1 := Lib.hid hr1
          have A0 := Lib.hid a0
          have HSY := Lib.hid hsl
          have hyl := hsl.len
          have d0 := cell_later HF.out.bel a0
          clear a0 hr1 hf1 hsl
          have F5 := Lib.hid (HF.out.emptyOw 4 23 LkR)
          go_wp2_with fail
          clear d0
          go_loopw [12, 13, 14, 15] (fun u j _ _ wr => ∃ n : Nat, n ≤ y.length ∧ j = .int .i64 n ∧ Fm w [owR 4 23 LkR 0 u (rdL (y.take n)), rdR Zr u10 R, ptR PT Bp Zp t (tbR R), bx g0 (.cells #[.int .i64 t1, .string l1, .string h1, .bool x1] 23)] (fun _ => True) wr) (fun _ j _ _ _ => y.length - (intOf j).toNat)
          case atStart => exact ⟨0, Nat.zero_le _, rfl, F5.out⟩
          case round =>
            clear F5
            obtain ⟨n, hn, rfl, hF⟩ := hrel
            have HF := Lib.hid hF
            clear hF
            have d0 := cell_later HF.out.bel A0.out
            by_cases hln : n < y.length
            · have hlni : (n : Int) < (y.length : Int) := by omega
              have hat := lock_at HR1.out hln
              have HT1 := Lib.hid (rdL_snoc y n hln)
              obtain ⟨⟨t2, l2, h2, x2⟩, hz⟩ : ∃ z, y[n] = z := ⟨_, rfl⟩
              rw [hz] at hat HT1
              obtain ⟨b1, o1, rfl, a0, a1, a2, a3⟩ := hat
              have e0 := cell_later HF.out.bel a0
              have e1 := cell_later HF.out.bel a1
              have e2 := cell_later HF.out.bel a2
              have e3 := cell_later HF.out.bel a3
              clear a0 a1 a2 a3 hz
              have hbx := HF.out.box (.cells #[.int .i64 t2, .string l2, .string h2, .bool false] 23)
              go_wp2_with fail
              clear d0 e0 e1 e2 e3
              obtain ⟨gx, hgx⟩ : ∃ gx, wr.heap.size = gx := ⟨_, rfl⟩
              obtain ⟨V, hV⟩ : ∃ V, wr.alloc (.cells #[.int .i64 t2, .string l2, .string h2, .bool false] 23) = V := ⟨_, rfl⟩
              rw [hV, hgx] at hbx ⊢
              have F6 := Lib.hid hbx
              clear hbx hV hgx
              refine (rright19_any ⟨t2, l2, h2, false⟩ _).mono ?_
              rintro e w6 ⟨rfl, hq⟩
              have F7 := Lib.hid (F6.out.call hq)
              clear hq F6
              have HT1 : Hid (rdL (y.take (n + 1)) = rdL (y.take n) ++ if lkR ⟨t2, l2, h2, false⟩ = true then [⟨t2, l2, h2, false⟩] else []) := HT1
              have HKL : Hid ((rdL (y.take n)).length ≤ 2147483647) := Lib.hid (Nat.le_trans (List.length_filter_le _ _) (by rw [List.length_map, List.length_take]; omega))
              generalize lkR ⟨t2, l2, h2, false⟩ = q at HT1
              cases q with
              | false =>
                go_wp2
                go_roundw
                case rel => exact ⟨n + 1, by omega, by go_num, by rw [HT1.out, if_neg (by decide), List.append_nil]; exact F7.out.drop⟩
                case measure => simp [intOf]; omega
              | true =>
                have z := four_of (F7.out.at 0 rfl)
                have HT2 : Hid (rdL (y.take (n + 1)) = rdL (y.take n) ++ [⟨t2, l2, h2, false⟩]) := Lib.hid (by rw [HT1.out, if_pos rfl])
                have F8 := Lib.hid F7.out.drop
                generalize rdL (y.take n) = K at F8 HT2 HKL
                obtain ⟨ps, q1, q2, q3⟩ : OwnR 4 23 LkR w6 0 u12 K := F8.out.at 0 rfl
                have HQ := Lib.hid (And.intro q1 q2)
                have HQ3 := Lib.hid q3
                have hKl := HKL.out
                clear q1 q2 q3 HT1
                go_wp2_with (first | (at_builtin; refine wpList_append_lies _ rfl _ _ 34 rfl 0 23 i1 _ 4 48 Try.underlying34 hi1 hx0 hx1 hx2 rfl (by decide) u12 K.length (ps.flatMap (·.2)) rfl (HQ3.out.alloc _) ⟨w6.heap.size, 0, none⟩ 1 1 [.int .i64 t2, .string l2, .string h2, .bool false] rfl rfl (cells_alloc _ _ _) (by intro u hu; simp only [List.mem_cons, List.not_mem_nil, or_false] at hu; rcases hu with rfl | rfl | rfl | rfl <;> rfl) (by decide) (by unfold maxLen; omega) (by omega) (Nat.zero_le _) _ rfl ?_; intro g cap2 w7 hown7 hgrow7 hor7 _; (have G7 := Lib.hid (F8.out.grown1 (x := ⟨t2, l2, h2, false⟩) HQ.out.1 HQ.out.2 rfl rfl rfl hown7 hgrow7 hor7)); clear hown7 hgrow7 hor7))
                go_roundw
                case rel => exact ⟨n + 1, by omega, by go_num, by rw [HT2.out]; exact G7.out⟩
                case measure => simp [intOf]; omega
            · have hlni : ¬ (n : Int) < (y.length : Int) := by omega
              rw [take_all hln] at HF
              have EA : Hid (askE (tbR R) k (rdL y) = 0 ∧ askT (tbR R) k (rdL y) = tbR (R ++ [rdL y])) := Lib.hid (by rw [← HRL.out]; exact tbR_ask (rdL_right y))
              have hRl := HRL.out
              obtain ⟨pq, cq, rfl, _⟩ := OwnR.form (HF.out.at 0 rfl)
              clear hRl
              go_wp2_with fail
              clear d0
              refine (H.out.ask (tbR R) t _ _ k pq cq (rdL y) _ (HF.out.at 2 rfl) (tbR_sz (by have := HRL.out; omega) HRS.out) (by show (plR R).length < _; rw [plR_len]; have := HRL.out; omega) (by omega) (by omega) (OwnR.row (HF.out.at 0 rfl) fun _ _ h => h) (rdL_sl HSY.out)).mono ?_
              rw [EA.out.1, EA.out.2]
              rintro e w6 ⟨rfl, hq⟩
              obtain ⟨Zp2, hF⟩ := HF.out.turnP H.out 2 rfl hq
              clear hq
              have F6 : Hid (Fm w (owR 4 23 LkR 0 (.slice pq (rdL y).length cq) (rdL y) :: rdR Zr u10 R :: [ptR PT Bp Zp2 t (tbR (R ++ [rdL y])), bx g0 (.cells #[.int .i64 t1, .string l1, .string h1, .bool x1] 23)]) (fun _ => True) w6) := Lib.hid hF
              clear hF HF
              obtain ⟨⟨ps, q1, q2, q3⟩, _⟩ : (rdR Zr u10 R).H w6 := F6.out.at 1 rfl
              have HQ := Lib.hid (And.intro q1 q2)
              have HQ3 := Lib.hid q3
              clear q1 q2 q3
              generalize rdL y = Y at F6 HT
              have hRl : R.length ≤ 2147483647 := by have := HRL.out; omega
              go_wp2_with (first | (at_builtin; refine wpList_append_lies _ rfl _ _ 41 rfl 0 34 i4 _ 1 24 Try.underlying41 hi4 hz0 hz1 hz2 rfl (by decide) u10 R.length (ps.flatMap (·.2)) rfl (HQ3.out.alloc _) ⟨w6.heap.size, 0, none⟩ 1 1 [.slice pq Y.length cq] rfl rfl (cells_alloc _ _ _) (by intro u hu; rw [List.mem_singleton.1 hu]; rfl) (by decide) (by unfold maxLen; omega) (by omega) (Nat.zero_le _) _ rfl ?_; intro g cap2 w7 hown7 hgrow7 hor7 _; (have G7 := Lib.hid (F6.out.readsGrow HQ.out.1 HQ.out.2 rfl hown7 hgrow7 hor7)); clear hown7 hgrow7 hor7))
              obtain ⟨Zr2, hF7⟩ := G7.out
              have F7 := Lib.hid hF7
              clear hF7
              go_roundw
              case rel => exact ⟨k + 1, R ++ [Y], Zr2, Zp2, by omega, by go_num, HT.out.symm, F7.out⟩
              case measure => simp [intOf]; omega
        · have hlti : ¬ (k : Int) < (asked.length : Int) := by omega
          rw [take_all hlt] at HRR
          have HRL : Hid (R.length = asked.length) := Lib.hid (by rw [HRR.out, List.length_map])
          have HRS : Hid (∀ l ∈ R, Sl9 l) := Lib.hid (by rw [HRR.out]; intro l hl; obtain ⟨y, hy, rfl⟩ := List.mem_map.1 hl; exact rdL_sl (HWG.out.2 _ hy))
          have HG : Hid ((grntL (tbR R)).length = asked.length) := Lib.hid ((reads_granted (by rw [HRR.out]; intro l hl; obtain ⟨y, _, rfl⟩ := List.mem_map.1 hl; exact fun x hx => rdL_read hx)).trans HRL.out)
          have HZ : Hid (Sz9 (tbR R)) := Lib.hid (tbR_sz (by have := HRL.out; omega) HRS.out)
          go_wp2_with fail
          refine (H.out.ready (tbR R) t _ _ _ (HF.out.at 1 rfl) HZ.out).mono ?_
          rintro e w6 ⟨v6, rfl, ho, hb⟩
          obtain ⟨p3, c3, rfl, _⟩ := ho.form
          rw [HG.out]
          have F6 := Lib.hid (HF.out.call hb)
          clear ho hb HF
          have z := four_of (F6.out.at 2 rfl)
          go_wp2_with fail
          clear z
          have F7 : Hid (Fm w [rdR Zr u10 R, ptR PT Bp Zp t (tbR R), bx g0 (.cells #[.int .i64 t1, .string l1, .string h1, .bool true] 23)] (fun _ => True) (w6.setCell ⟨g0, 3, none⟩ (.bool true))) := Lib.hid (F6.out.put 2 rfl 3 (.bool true))
          generalize w6.setCell ⟨g0, 3, none⟩ (.bool true) = w7 at F7 ⊢
          refine (rright19_any (⟨t1, l1, h1, true⟩ : Lk) _).mono ?_
          rintro e w8 ⟨rfl, hq⟩
          have F8 := Lib.hid (F7.out.call hq)
          clear hq F6 F7
          have z := four_of (F8.out.at 2 rfl)
          go_wp2_with fail
          clear z
          have hrow := one_lock (⟨t1, l1, h1, true⟩ : Lk) (heap_alloc_new w8 (.cells (lkC (⟨t1, l1, h1, true⟩ : Lk)).toArray 23 (0, 0)))
          have F9 := F8.out.call ((Below.refl _ _).alloc (Nat.le_refl _) (.cells (lkC (⟨t1, l1, h1, true⟩ : Lk)).toArray 23))
          simp only [lkC] at hrow F9
          generalize w8.heap.size = gy at hrow ⊢
          generalize w8.alloc (.cells #[.int .i64 t1, .string l1, .string h1, .bool true] 23) = w9 at hrow F9 ⊢
          refine (H.out.ask (tbR R) t _ _ asked.length _ 1 [(⟨t1, l1, h1, true⟩ : Lk)] _ (F9.at 1 rfl) HZ.out (by show (plR R).length < _; rw [plR_len, HRL.out]; omega) (by omega) (by omega) hrow (sl_one _ HS.out)).mono ?_
          have EE : Hid (askE (tbR R) asked.length [(⟨t1, l1, h1, true⟩ : Lk)] = if lkR (⟨t1, l1, h1, true⟩ : Lk) = true then 0 else 190) := Lib.hid (by rw [← HRL.out, tbR_askE]; simp)
          have ET : Hid (lkR (⟨t1, l1, h1, true⟩ : Lk) = true → askT (tbR R) asked.length [(⟨t1, l1, h1, true⟩ : Lk)] = tbR (R ++ [[(⟨t1, l1, h1, true⟩ : Lk)]])) := Lib.hid (fun h => by rw [← HRL.out]; exact (tbR_ask (by simp [h])).2)
          rw [EE.out]
          generalize hq : lkR (⟨t1, l1, h1, true⟩ : Lk) = q at EE ET ⊢
          clear hq hrow
          cases q with
          | false =>
            clear ET
            rintro e w10 ⟨rfl, hq⟩
            obtain ⟨Zp2, hF⟩ := F9.turnP H.out 1 rfl hq
            have hbel := hF.bel
            clear hq hF F9
            go_wp2
            go_ret
            exact ⟨rfl, hbel⟩
          | true =>
            rw [ET.out rfl]
            rintro e w10 ⟨rfl, hq⟩
            obtain ⟨Zp2, hF⟩ := F9.turnP H.out 1 rfl hq
            have F10 : Hid (Fm w [rdR Zr u10 R, ptR PT Bp Zp2 t (tbR (R ++ [[(⟨t1, l1, h1, true⟩ : Lk)]])), bx g0 (.cells #[.int .i64 t1, .string l1, .string h1, .bool true] 23)] (fun _ => True) w10) := Lib.hid hF
            clear hq hF F9 ET EE
            obtain ⟨pr, cr, rfl, _⟩ := rd_reads (F10.out.at 0 rfl)
            have HZ2 : Hid (Sz9 (tbR (R ++ [[(⟨t1, l1, h1, true⟩ : Lk)]]))) := Lib.hid (tbR_sz (by rw [List.length_append, HRL.out]; simp; omega) fun l hl => by
              rcases List.mem_append.1 hl with h | h
              · exact HRS.out l h
              · rw [List.mem_singleton.1 h]; exact sl_one _ HS.out)
            have HWR : Hid (waitR (tbR (R ++ [[(⟨t1, l1, h1, true⟩ : Lk)]])) asked.length = (wantL (⟨t1, l1, h1, true⟩ : Lk) R, 0)) := Lib.hid (by rw [← HRL.out]; exact write_waits HZ2.out)
            go_wp2_with fail
            refine (H.out.waits (tbR (R ++ [[(⟨t1, l1, h1, true⟩ : Lk)]])) t _ _ asked.length _ (F10.out.at 1 rfl) HZ2.out (by omega) (by omega)).mono ?_
            rw [HWR.out]
            rintro e w11 ⟨v, rfl, ho, hb⟩
            obtain ⟨p5, c5, rfl, _⟩ := ho.form
            have F11 := Lib.hid (F10.out.pushOwn hb ho)
            clear ho hb F10
            have F12 := Lib.hid (F11.out.emptyOw 1 3 IntR)
            obtain ⟨B5, hB5⟩ : ∃ B, w10.heap.size = B := ⟨_, rfl⟩
            rw [hB5] at F11 F12
            clear hB5
            go_wp2_with fail
            go_loopw [22, 23, 24] (fun v j _ wr => ∃ n : Nat, n ≤ R.length ∧ j = .int .i64 n ∧ Fm w [owR 1 3 IntR 0 v (wantL (⟨t1, l1, h1, true⟩ : Lk) (R.take n)), owR 1 3 IntR B5 (.slice p5 (wantL (⟨t1, l1, h1, true⟩ : Lk) R).length c5) (wantL (⟨t1, l1, h1, true⟩ : Lk) R), rdR Zr (.slice pr R.length cr) R, ptR PT Bp Zp2 t (tbR (R ++ [[(⟨t1, l1, h1, true⟩ : Lk)]])), bx g0 (.cells #[.int .i64 t1, .string l1, .string h1, .bool true] 23)] (fun _ => True) wr) (fun _ j _ _ => R.length - (intOf j).toNat)
            case atStart => exact ⟨0, Nat.zero_le _, rfl, F12.out⟩
            case round =>
              clear F11 F12
              have hrl : R.length ≤ 1048576 := by have := HRL.out; omega
              obtain ⟨n, hn, rfl, hF⟩ := hrel
              have HF := Lib.hid hF
              clear hF
              by_cases hln : n < R.length
              · have hlni : (n : Int) < (R.length : Int) := by omega
                obtain ⟨pr2, cr2, e, hrow⟩ := rd_reads (HF.out.at 2 rfl)
                simp only [Value.slice.injEq, true_and] at e
                obtain ⟨rfl, rfl⟩ := e
                have hat := slx_at hrow hln
                have HT := Lib.hid (wantL_snoc (⟨t1, l1, h1, true⟩ : Lk) R n hln)
                have HYL : Hid (R[n].length ≤ 1099511627776) := Lib.hid (by have := (HRS.out _ (List.getElem_mem hln)).len; omega)
                generalize R[n] = y at hat HT HYL
                obtain ⟨b, o, p1, c1, rfl, a0, hr1⟩ := hat
                have HR1 := Lib.hid hr1
                have z := four_of (HF.out.at 4 rfl)
                obtain ⟨⟨z0, z1, z2, z3⟩, _⟩ := z
                clear hr1 hrow
                have q0 := World.new_ne wr _ a0
                have q1 := World.new_ne wr _ z0
                go_wp2_with fail
                go_region_held3 (fun w' => w'.cell? ⟨b, o + n, none⟩ = some (.slice p1 y.length c1) ∧ w'.cell? ⟨g0, 0, none⟩ = some (.int .i64 t1) ∧ w'.cell? ⟨g0, 1, none⟩ = some (.string l1) ∧ w'.cell? ⟨g0, 2, none⟩ = some (.string h1) ∧ w'.cell? ⟨g0, 3, none⟩ = some (.bool true)) (go_keep) (first | (go_at_call 28; (have hb : Below wr.heap.size wr (wr.alloc (.cells (lkC (⟨t1, l1, h1, true⟩ : Lk)).toArray 23)).drew := ((Below.refl _ _).alloc (Nat.le_refl _) _).drew); refine (rmeetAny_any p1 _ c1 1 y [(⟨t1, l1, h1, true⟩ : Lk)] _ (HR1.out.later hb fun _ _ h => h) ((one_lock (⟨t1, l1, h1, true⟩ : Lk) (heap_alloc_new wr _)).later (Below.refl _ _).drew fun _ _ h => h) HYL.out (by simp)).mono ?_; rintro e wv ⟨rfl, hq⟩; (have hbb := hb.trans (hq.mono hb.size)); (have F13 := Lib.hid (HF.out.call hbb)); (have s0 := cell_later hbb a0); (have s1 := cell_later hbb z0); (have s2 := cell_later hbb z1); (have s3 := cell_later hbb z2); (have s4 := cell_later hbb z3); clear hq hb hbb))
                rename_i hHeld
                clear hHeld s0 s1 s2 s3 s4 a0 z0 z1 z2 z3 q0 q1 HF
                generalize anyM y [(⟨t1, l1, h1, true⟩ : Lk)] = q at HT ⊢
                cases q with
                | false =>
                  go_wp2
                  go_roundw
                  case rel => exact ⟨n + 1, by omega, by go_num, by rw [HT.out, if_neg (by decide), List.append_nil]; exact F13.out⟩
                  case measure => simp [intOf]; omega
                | true =>
                  have HKL : Hid ((wantL (⟨t1, l1, h1, true⟩ : Lk) (R.take n)).length ≤ 1048576) := Lib.hid (by unfold wantL; rw [List.length_map]; refine Nat.le_trans (List.length_filter_le _ _) ?_; rw [plR_len, List.length_take]; have := HRL.out; omega)
                  have HT2 : Hid (wantL (⟨t1, l1, h1, true⟩ : Lk) (R.take (n + 1)) = wantL (⟨t1, l1, h1, true⟩ : Lk) (R.take n) ++ [(n : Int)]) := Lib.hid (by rw [HT.out, if_pos rfl])
                  generalize wantL (⟨t1, l1, h1, true⟩ : Lk) (R.take n) = K at F13 HT2 HKL
                  obtain ⟨ps, q1, q2, q3⟩ : OwnR 1 3 IntR wv 0 u22 K := F13.out.at 0 rfl
                  have HQ := Lib.hid (And.intro q1 q2)
                  have HQ3 := Lib.hid q3
                  have hKl := HKL.out
                  clear q1 q2 q3 HT
                  go_wp2_with (first | (at_builtin; refine wpList_append_lies _ rfl _ _ 37 rfl 0 3 i0 _ 1 8 Try.underlying37 hi0 hv0 hv1 hv2 rfl (by decide) u22 K.length (ps.flatMap (·.2)) rfl (HQ3.out.alloc _) ⟨wv.heap.size, 0, none⟩ 1 1 [.int .i64 n] rfl rfl (cells_alloc _ _ _) (by intro u hu; rw [List.mem_singleton.1 hu]; rfl) (by decide) (by unfold maxLen; omega) (by omega) (Nat.zero_le _) _ rfl ?_; intro g cap2 w12 hown7 hgrow7 hor7 _; (have G7 := Lib.hid (F13.out.grown1 (x := (n : Int)) HQ.out.1 HQ.out.2 rfl rfl rfl hown7 hgrow7 hor7)); clear hown7 hgrow7 hor7))
                  go_roundw
                  case rel => exact ⟨n + 1, by omega, by go_num, by rw [HT2.out]; exact G7.out⟩
                  case measure => simp [intOf]; omega
              · have hlni : ¬ (n : Int) < (R.length : Int) := by omega
                rw [take_all hln] at HF
                obtain ⟨p6, c6, rfl, _⟩ := OwnR.form (HF.out.at 0 rfl)
                have hle : (wantL (⟨t1, l1, h1, true⟩ : Lk) R).length ≤ 1099511627776 := by unfold wantL; rw [List.length_map]; refine Nat.le_trans (List.length_filter_le _ _) ?_; rw [plR_len]; have := HRL.out; omega
                go_wp2_with fail
                refine (ints19_same p5 p6 c5 c6 (wantL (⟨t1, l1, h1, true⟩ : Lk) R) _ (HF.out.ownRow 1 rfl) (HF.out.ownRow 0 rfl) hle).mono ?_
                rintro e w12 ⟨rfl, hq⟩
                have F14 := Lib.hid (HF.out.call hq)
                clear hq
                go_wp2
                go_ret
                exact ⟨rfl, F14.out.bel⟩
end Go.Proofs.Ytefdhmdkcpgfcaa
