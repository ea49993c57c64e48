/- Walks of layer 19: LocksEnd. -/
import Derived.Test.YtefdhmdkcpgfcaaI22
namespace Go.Proofs.Ytefdhmdkcpgfcaa
open Go.RowKit
theorem Fm.pushOwn0 {w0 w w' : World} {K : List Rs} {I : World → Prop} {α : Type} {n : Nat} {ty : TypeId} {R : α → List Value → Prop} {v : Value} {l : List α} (h : Fm w0 K I w) (hb : Below w.heap.size w w') (ho : OwnR n ty R w' w.heap.size v l) : Fm w0 (owR n ty R 0 v l :: K) I w' := h.push hb (owR_ok _ _ _ _ _ _) (ho.mono (Nat.zero_le _) fun _ _ h => h) fun _ hk => ho.lt hk
theorem okL_len (l : List Lk) : (okL l).length ≤ l.length := by
  unfold okL
  split
  · exact Nat.le_refl _
  · exact Nat.zero_le _
theorem open_in {L : List (List Lk)} {T : Tb9} (h : Ok9 L T) {n : Int} (hn : n ∈ openL T) : ∃ j, j < L.length ∧ n = (j : Int) := by
  obtain ⟨p, hp, rfl⟩ := List.mem_map.1 hn
  obtain ⟨j, hj, e, _⟩ := h p hp
  exact ⟨j, hj, e⟩
theorem open_free {L : List (List Lk)} {T : Tb9} (h : Ok9 L T) (hs : Sz9 T) {k : Nat} (hn : (k : Int) ∈ grntL T) {i : Nat} (hi : i < L.length) (hk : k < L.length) (ho : (i : Int) ∈ openL T) (hlt : i < k) : anyM L[i] L[k] = false := by
  obtain ⟨j, k', hj, hk', e1, e2, e⟩ := open_apart h hs hn ho (by omega)
  obtain rfl : i = j := by omega
  obtain rfl : k = k' := by omega
  exact e
/-- At a turn of the law's. -/
structure Tn9 (L : List (List Lk)) (n : Nat) (T : Tb9) (Fd Bf : List Int) : Prop where
  sz : Sz9 T
  ok : Ok9 L T
  len : T.ps.length + n ≤ L.length
  seen : ∀ b ∈ Bf, b ∈ grntL T ∨ b ∈ Fd
  fd : Fd.length ≤ n
  bf : Bf.length ≤ L.length
theorem Tn9.next {L : List (List Lk)} {n : Nat} {T : Tb9} {Fd Bf : List Int} (h : Tn9 L n T Fd Bf) {x : Int} (hx : x ∈ grntL T) : Tn9 L (n + 1) (freeT T x) (Fd ++ [x]) (grntL T) := by
  have hl := free_less h.sz hx
  have hlen := h.len
  refine ⟨h.sz.free _, h.ok.free _, by omega, fun b hb => ?_, by rw [List.length_append]; have := h.fd; simp; omega, by have := grntL_len T; omega⟩
  by_cases e : b = x
  · exact Or.inr (List.mem_append.2 (Or.inr (by simp [e])))
  · exact Or.inl (grnt_stays h.sz hb hx e)

set_option maxHeartbeats 32000000 in
set_option maxRecDepth 100000 in
theorem locksEnd_any {PT : Tm9} (hL : LocksIs PT) (p pk : Option Addr) (cap ck : Nat) (asked : List (List Lk)) (P : List Int) (w : World) (hr : RowR 1 (SlR w) w p asked) (hk : RowR 1 IntR w pk P) (hl : asked.length ≤ 1048576) (hP : ∀ n ∈ P, -9223372036854775808 ≤ n ∧ n ≤ 9223372036854775807) : Calls Try.prog 5 #[.slice p asked.length cap, .slice pk P.length ck] w fun e w' => e = .returned (.bool true) ∧ Below w.heap.size w w' := by
  obtain ⟨i3, hi3, hy0, hy1, hy2⟩ := info_parts Try.infoOp9
  obtain ⟨i0, hi0, hv0, hv1, hv2⟩ := info_parts Try.infoInt
  have H := Lib.hid hL
  have HR := Lib.hid hr
  have HK := Lib.hid hk
  have HP := Lib.hid hP
  clear hL hr hk hP
  have F0 := Lib.hid ((Fm.start w).emptyOw 3 36 (Op9R w))
  go_enter Try.func5, Try.ntmps5
  go_wp2_with fail
  go_loopw [5, 6] (fun v i wr => ∃ k : Nat, k ≤ asked.length ∧ i = .int .i64 k ∧ Fm w [owR 3 36 (Op9R w) 0 v (opsOf (asked.take k))] (fun _ => True) wr) (fun _ i _ => asked.length - (intOf i).toNat)
  case atStart => exact ⟨0, Nat.zero_le _, rfl, F0.out⟩
  case round =>
    clear F0
    obtain ⟨k, hk, rfl, hF⟩ := hrel
    have HF := Lib.hid hF
    clear hF
    by_cases hlt : k < asked.length
    · have hlti : (k : Int) < (asked.length : Int) := by omega
      have ha := sl_at HR.out hlt
      have HT := Lib.hid (opsOf_snoc asked k hlt)
      have HLN : Hid ((opsOf (asked.take k)).length = k) := Lib.hid (by rw [opsOf_len, List.length_take]; omega)
      generalize asked[k] = y at ha HT
      obtain ⟨b, o, p1, c1, rfl, a0, hr1, hf1⟩ := ha
      have a1 := cell_later HF.out.bel a0
      have HO : Hid (Op9R w ⟨0, 0, y⟩ [.int .i64 0, .int .i64 0, .slice p1 y.length c1]) := Lib.hid ⟨p1, c1, rfl, hr1, hf1, by show (-9223372036854775808 : Int) ≤ 0; decide, by show (0 : Int) ≤ 9223372036854775807; decide⟩
      clear a0 hr1 hf1
      generalize opsOf (asked.take k) = K at HF HT HLN
      obtain ⟨ps, q1, q2, q3⟩ : OwnR 3 36 (Op9R w) wr 0 u5 K := HF.out.at 0 rfl
      have HQ := Lib.hid (And.intro q1 q2)
      have HQ3 := Lib.hid q3
      have hKl := HLN.out
      clear q1 q2 q3
      go_wp2_with (first | (at_builtin; refine wpList_append_lies _ rfl _ _ 27 rfl 0 36 i3 _ 3 40 Try.underlying27 hi3 hy0 hy1 hy2 rfl (by decide) u5 K.length (ps.flatMap (·.2)) rfl (HQ3.out.alloc _) ⟨wr.heap.size, 0, none⟩ 1 1 [.int .i64 0, .int .i64 0, .slice p1 y.length c1] rfl rfl (cells_alloc _ _ _) (by intro u hu; simp only [List.mem_cons, List.not_mem_nil, or_false] at hu; rcases hu with rfl | rfl | rfl <;> rfl) (by decide) (by unfold maxLen; omega) (by omega) (Nat.zero_le _) _ rfl ?_; intro g cap2 w5 hown5 hgrow5 hor5 _; (have HG5 := Lib.hid (HF.out.grown1 HQ.out.1 HQ.out.2 HO.out rfl rfl hown5 hgrow5 hor5)); clear hown5 hgrow5 hor5))
      go_roundw
      case rel => exact ⟨k + 1, by omega, by go_num, by rw [HT.out]; have h := HG5.out; rw [HLN.out] at h; exact h⟩
      case measure => simp [intOf]; omega
    · have hlti : ¬ (k : Int) < (asked.length : Int) := by omega
      rw [take_all hlt] at HF
      obtain ⟨pv, cv, rfl, _⟩ := OwnR.form (HF.out.at 0 rfl)
      go_wp2_with fail
      refine (weighs19_any pv cv (opsOf asked) _ (OwnR.row (HF.out.at 0 rfl) (Op9R.later HF.out.bel)) (by rw [opsOf_len]; omega)).mono ?_
      rintro e w3 ⟨m, rfl, hm, hq⟩
      have F1 := Lib.hid (HF.out.call (quiet_below hq)).drop
      clear hq HF hlti hk i3 hi3 hy0 hy1 hy2
      by_cases hbig : m ≤ 2147483647 ∧ P.length ≤ 2147483647
      rotate_left
      · by_cases k1 : (m : Int) > 2147483647 <;> by_cases k2 : (P.length : Int) > 2147483647
        all_goals first | exact absurd ⟨by omega, by omega⟩ hbig | skip
        all_goals (clear hbig hm; go_wp2; go_ret; exact ⟨rfl, F1.out.bel⟩)
      have HWG := Lib.hid (ops_wg (hm hbig.1))
      have hPl := hbig.2
      have n1 : ¬ (m : Int) > 2147483647 := by omega
      have n2 : ¬ (P.length : Int) > 2147483647 := by omega
      clear hm hbig
      go_wp2_with fail
      clear n1 n2
      refine (awake19_any H.out _).mono ?_
      rintro e w4 ⟨rfl, hq⟩
      have F2 := Lib.hid (F1.out.call hq)
      clear hq F1
      go_wp2_with fail
      refine (H.out.new _).mono ?_
      rintro e w5 ⟨t, rfl, hp, hq⟩
      have F3 := Lib.hid (F2.out.push (r := ptR PT _ _ t t90) hq (ptR_ok H.out _ _ _ _) hp fun _ h => h)
      clear hp hq F2
      generalize (fun k => w4.heap.size ≤ k ∧ k < w5.heap.size) = Zp0 at F3
      obtain ⟨Bp, hBp⟩ : ∃ B, w4.heap.size = B := ⟨_, rfl⟩
      rw [hBp] at F3
      clear hBp
      go_wp2_with fail
      refine (taken19_any H.out p cap asked t Bp Zp0 [] w _ F3.out HR.out hl HWG.out.2).mono ?_
      rintro e w6 ⟨v, Zr, Zp, T, rfl, hT, hF⟩
      have HLL : Hid ((asked.map okL).length = asked.length) := Lib.hid (by rw [List.length_map])
      have HLX : Hid (∀ x ∈ asked.map okL, x.length ≤ 1099511627776) := Lib.hid (by intro x hx; obtain ⟨y, hy, rfl⟩ := List.mem_map.1 hx; have h1 := okL_len y; have h2 := (HWG.out.2 y hy).len; omega)
      have HTN : Hid (Tn9 (asked.map okL) 0 T [] []) := Lib.hid ⟨hT.sz, hT.ok, by have := hT.len; have := HLL.out; omega, fun _ h => absurd h (by simp), Nat.le_refl _, Nat.zero_le _⟩
      generalize asked.map okL = A at hF HTN HLL HLX
      have hAl : A.length ≤ 1048576 := by have := HLL.out; omega
      obtain ⟨pr, cr, rfl, _⟩ := rd_reads (hF.at 0 rfl)
      have F4 := Lib.hid ((hF.emptyOw 1 3 IntR).emptyOw 1 3 IntR)
      clear hT hF F3 HLL
      go_wp2_with fail
      go_loopw [12, 13, 14, 15, 16, 17, 18, 19, 20, 21, 22] (fun vf vb i _ _ _ _ _ _ _ _ wr => ∃ (n : Nat) (T : Tb9) (Zp : Nat → Prop) (Fd Bf : List Int), i = .int .i64 n ∧ Tn9 A n T Fd Bf ∧ Fm w [owR 1 3 IntR 0 vf Fd, owR 1 3 IntR 0 vb Bf, rdR Zr (.slice pr A.length cr) A, ptR PT Bp Zp t T] (fun _ => True) wr) (fun _ _ i _ _ _ _ _ _ _ _ _ => A.length + 1 - (intOf i).toNat)
      case atStart => exact ⟨0, T, Zp, [], [], rfl, HTN.out, F4.out⟩
      case round =>
        clear HTN F4
        obtain ⟨n, T, Zp, Fd, Bf, rfl, hT, hF⟩ := hrel
        have HF := Lib.hid hF
        have HT := Lib.hid hT
        have hTl := hT.len
        clear hF hT
        have hni : (n : Int) ≤ (A.length : Int) := by omega
        obtain ⟨pb, cb, rfl, _⟩ := OwnR.form (HF.out.at 1 rfl)
        obtain ⟨pf, cf, rfl, _⟩ := OwnR.form (HF.out.at 0 rfl)
        go_wp2_with fail
        refine (H.out.held T t _ _ _ (HF.out.at 3 rfl) HT.out.sz).mono ?_
        rintro e w7 ⟨v5, rfl, ho, hb⟩
        obtain ⟨p5, c5, rfl, _⟩ := ho.form
        have F5 := Lib.hid (HF.out.pushOwn0 hb ho)
        clear ho hb HF
        go_wp2_with fail
        refine (H.out.ready T t _ _ _ (F5.out.at 4 rfl) HT.out.sz).mono ?_
        rintro e w8 ⟨v6, rfl, ho, hb⟩
        obtain ⟨p6, c6, rfl, _⟩ := ho.form
        have F6 := Lib.hid (F5.out.pushOwn0 hb ho)
        clear ho hb F5
        have hol := Lib.hid (openL_len T)
        have hgl := Lib.hid (grntL_len T)
        by_cases hz : T.ps.length = 0
        · have e0 : (openL T).length = 0 := by have := hol.out; omega
          have HOZ := Lib.hid e0
          rw [e0]
          clear e0
          go_wp2_with fail
          refine (H.out.held T t _ _ _ (F6.out.at 5 rfl) HT.out.sz).mono ?_
          rintro e w9 ⟨v7, rfl, ho, hb⟩
          obtain ⟨p7, c7, rfl, _⟩ := ho.form
          have F7 := Lib.hid (F6.out.call hb)
          rw [HOZ.out]
          clear ho hb
          go_wp2
          go_ret
          exact ⟨rfl, F7.out.bel⟩
        · have hpos : 0 < T.ps.length := by omega
          obtain ⟨rr, hh⟩ := grnt_head hpos
          have hg0 : 0 < (grntL T).length := by rw [hh]; simp
          have ho0 : 0 < (openL T).length := by rw [hol.out]; exact hpos
          have hee : (openL T)[0] = (grntL T)[0] := by simp [hh, openL]
          have hg1 : ¬ ((grntL T).length : Int) = 0 := by omega
          have ho1 : ¬ ((openL T).length : Int) = 0 := by omega
          obtain ⟨b6, o6, rfl, g0⟩ := int_at (F6.out.ownRow 0 rfl) hg0
          obtain ⟨b5, o5, rfl, s0⟩ := int_at (F6.out.ownRow 1 rfl) ho0
          rw [hee] at s0
          generalize (grntL T)[0] = x0 at g0 s0
          simp only [Nat.add_zero] at g0 s0
          have hg0i : (0 : Int) < ((grntL T).length : Int) := by omega
          have ho0i : (0 : Int) < ((openL T).length : Int) := by omega
          clear hh hee
          have hd : decide (((grntL T).length : Int) = 0) = false := decide_eq_false hg1
          have hd2 : decide ((grntL T).length = 0) = false := decide_eq_false (by omega)
          have hd3 : ¬ grntL T = [] := fun e => by rw [e] at hg0; simp at hg0
          have hd4 : ¬ openL T = [] := fun e => by rw [e] at ho0; simp at ho0
          have hd5 : (grntL T == []) = false := by simpa using hd3
          go_wp2_with fail
          go_quiet (fail)
          go_wp2_with fail
          have hd6 : (((grntL T).length : Int) == 0) = false := by rw [beq_eq_false_iff_ne]; exact hg1
          simp only [hd6]
          clear hd6
          clear hd hd2 hd3 hd4 hd5 hg1 ho1 hg0i ho0i
          have HG0 := Lib.hid hg0
          clear hg0 ho0 g0 s0
          go_loopw [17, 18, 19] (fun j _ _ wr => ∃ m : Nat, m ≤ Bf.length ∧ j = .int .i64 m ∧ Below w8.heap.size w8 wr) (fun j _ _ _ => Bf.length - (intOf j).toNat)
          case atStart => exact ⟨0, Nat.zero_le _, rfl, quiet_below ⟨_, rfl⟩⟩
          case round =>
            obtain ⟨m, hm, rfl, hb⟩ := hrel
            have HB := Lib.hid hb
            have F7 := Lib.hid (F6.out.call hb)
            have hbf := HT.out.bf
            clear hb
            by_cases hmb : m < Bf.length
            · have hmbi : (m : Int) < (Bf.length : Int) := by omega
              obtain ⟨bb, ob, rfl, a0⟩ := int_at (F7.out.ownRow 3 rfl) hmb
              have HSE := Lib.hid (HT.out.seen _ (List.getElem_mem hmb))
              generalize Bf[m] = x at a0 HSE
              have A0 := Lib.hid a0
              go_wp2_with fail
              clear a0
              refine (has19_any _ c6 (grntL T) x _ (F7.out.ownRow 0 rfl) (by have := hgl.out; omega)).mono ?_
              rintro e w9 ⟨rfl, h9⟩
              rw [h9]
              clear h9
              have a0 := A0.out
              go_wp2_with fail
              clear a0
              refine (has19_any pf cf Fd x _ (F7.out.ownRow 2 rfl) (by have := HT.out.fd; omega)).mono ?_
              rintro e w10 ⟨rfl, h9⟩
              rw [h9]
              clear h9
              have HS2 : Hid (decide (x ∈ grntL T) = true ∨ decide (x ∈ Fd) = true) := Lib.hid (HSE.out.imp (fun h => decide_eq_true h) fun h => decide_eq_true h)
              generalize decide (x ∈ grntL T) = qa at HS2 ⊢
              generalize decide (x ∈ Fd) = qb at HS2 ⊢
              cases qa with
              | true =>
                clear HS2
                go_wp2
                go_roundw
                case rel => exact ⟨m + 1, by omega, by go_num, HB.out⟩
                case measure => simp [intOf]; omega
              | false =>
                obtain rfl : qb = true := by simpa using HS2.out
                clear HS2
                go_wp2
                go_roundw
                case rel => exact ⟨m + 1, by omega, by go_num, HB.out⟩
                case measure => simp [intOf]; omega
            · have hmbi : ¬ (m : Int) < (Bf.length : Int) := by omega
              clear HB F6
              by_cases hnp : n < P.length
              · have hnpi : (n : Int) < (P.length : Int) := by omega
                obtain ⟨bk, ok, rfl, a0⟩ := int_at HK.out hnp
                have hpr := HP.out _ (List.getElem_mem hnp)
                generalize P[n] = x at a0 hpr
                have a1 := cell_later F7.out.bel a0
                clear a0
                have hG : (0 : Int) < ((grntL T).length : Int) := by have := HG0.out; omega
                have hGb : ((grntL T).length : Int) ≤ 1048576 := by have := hgl.out; omega
                have ht1 := Int.tmod_lt_of_pos x hG
                have ht2 := Int.lt_tmod_of_pos x hG
                by_cases hneg : x.tmod ((grntL T).length : Int) < 0
                · go_wp2_with fail
                  obtain ⟨kk, hkk⟩ : ∃ kk : Nat, (x.tmod ((grntL T).length : Int) + ((grntL T).length : Int)) = (kk : Int) := ⟨(x.tmod ((grntL T).length : Int) + ((grntL T).length : Int)).toNat, by omega⟩
                  have HKK : Hid (kk < (grntL T).length) := Lib.hid (by omega)
                  rw [hkk]
                  clear hkk ht1 ht2 hneg hG hGb a1 hpr
                  obtain ⟨pr2, cr2, er, hrow⟩ := rd_reads (F7.out.at 4 rfl)
                  simp only [Value.slice.injEq, true_and] at er
                  obtain ⟨rfl, rfl⟩ := er
                  refine (apart19_any _ pr c6 cr (grntL T) A _ (F7.out.ownRow 0 rfl) hrow (by have := hgl.out; omega) HLX.out (fun n hn => grnt_in HT.out.ok hn) (grnt_pairs HT.out.ok)).mono ?_
                  rintro e w9 ⟨rfl, hb⟩
                  have F8 := Lib.hid (F7.out.call hb)
                  clear hb hrow F7
                  obtain ⟨b7, o7, e7, a7⟩ := int_at (F8.out.ownRow 0 rfl) (i := kk) HKK.out
                  simp only [Option.some.injEq, Addr.mk.injEq, and_true] at e7
                  obtain ⟨rfl, rfl⟩ := e7
                  have hmem := List.getElem_mem HKK.out
                  obtain ⟨jj, hjj, ej⟩ := grnt_in HT.out.ok hmem
                  have HJ := Lib.hid ej
                  rw [ej] at a7 hmem
                  have HME := Lib.hid hmem
                  clear hmem ej
                  have A7 := Lib.hid a7
                  have hk9 := HKK.out
                  have hki : ((kk : Nat) : Int) < ((grntL T).length : Int) := by omega
                  go_wp2_with fail
                  clear a7
                  obtain ⟨pr2, cr2, er, hrow⟩ := rd_reads (F8.out.at 4 rfl)
                  simp only [Value.slice.injEq, true_and] at er
                  obtain ⟨rfl, rfl⟩ := er
                  refine (first19_any _ pr c5 cr (openL T) A jj _ (F8.out.ownRow 1 rfl) hrow (by have := hol.out; omega) HLX.out hjj (fun n hn => open_in HT.out.ok hn) (fun i hi hm hlt => open_free HT.out.ok HT.out.sz HME.out hi hjj hm hlt)).mono ?_
                  rintro e w10 ⟨rfl, hb⟩
                  have F9 := Lib.hid (F8.out.call hb)
                  have a7 := cell_later hb A7.out
                  have A8 := Lib.hid a7
                  clear hb hrow F8 A7
                  go_wp2_with fail
                  clear a7
                  refine (H.out.release T t _ _ jj _ (F9.out.at 5 rfl) HT.out.sz (by omega) (by omega)).mono ?_
                  rw [freeE_yes (mem_isGr HT.out.sz HME.out).choose_spec.choose_spec.2.2.2]
                  rintro e w11 ⟨rfl, hq⟩
                  obtain ⟨Zp2, hF⟩ := F9.out.turnP H.out 5 rfl hq
                  have F10 := Lib.hid (Fm.perm (L' := owR 1 3 IntR 0 (.slice pf Fd.length cf) Fd :: [owR 1 3 IntR 0 (.slice (some ⟨b6, o6, none⟩) (grntL T).length c6) (grntL T), owR 1 3 IntR 0 (.slice (some ⟨b5, o5, none⟩) (openL T).length c5) (openL T), owR 1 3 IntR 0 (.slice pb Bf.length cb) Bf, rdR Zr (.slice pr A.length cr) A, ptR PT Bp Zp2 t (freeT T jj)]) hF (List.perm_middle (l₁ := [_, _])))
                  obtain ⟨b8, o8, e8, a8⟩ := int_at (F10.out.ownRow 1 rfl) (i := kk) HKK.out
                  simp only [Option.some.injEq, Addr.mk.injEq, and_true] at e8
                  obtain ⟨rfl, rfl⟩ := e8
                  clear hq hF F9 A8
                  rw [HJ.out] at a8
                  obtain ⟨ps, q1, q2, q3⟩ : OwnR 1 3 IntR w11 0 (.slice pf Fd.length cf) Fd := F10.out.at 0 rfl
                  have HQ := Lib.hid (And.intro q1 q2)
                  have HQ3 := Lib.hid q3
                  have hfd := HT.out.fd
                  clear q1 q2 q3
                  go_wp2_with (first | (at_builtin; refine wpList_append_lies _ rfl _ _ 37 rfl 0 3 i0 _ 1 8 Try.underlying37 hi0 hv0 hv1 hv2 rfl (by decide) (.slice pf Fd.length cf) Fd.length (ps.flatMap (·.2)) rfl (HQ3.out.alloc _) ⟨w11.heap.size, 0, none⟩ 1 1 [.int .i64 jj] rfl rfl (cells_alloc _ _ _) (by intro u hu; rw [List.mem_singleton.1 hu]; rfl) (by decide) (by unfold maxLen; omega) (by omega) (Nat.zero_le _) _ rfl ?_; intro g cap2 w12 hown7 hgrow7 hor7 _; (have G7 := Lib.hid (F10.out.grown1 (x := (jj : Int)) HQ.out.1 HQ.out.2 rfl rfl rfl hown7 hgrow7 hor7)); clear hown7 hgrow7 hor7))
                  have G8 := Lib.hid (Fm.drop (Fm.perm G7.out (List.perm_middle (l₁ := [_, _]))))
                  have G9 := Lib.hid (Fm.drop (Fm.perm G8.out (List.perm_middle (l₁ := [_, _]))))
                  go_roundw
                  case rel => exact ⟨n + 1, freeT T jj, Zp2, Fd ++ [(jj : Int)], grntL T, by go_num, HT.out.next HME.out, G9.out⟩
                  case measure => simp [intOf]; omega
                · go_wp2_with fail
                  obtain ⟨kk, hkk⟩ : ∃ kk : Nat, (x.tmod ((grntL T).length : Int)) = (kk : Int) := ⟨(x.tmod ((grntL T).length : Int)).toNat, by omega⟩
                  have HKK : Hid (kk < (grntL T).length) := Lib.hid (by omega)
                  rw [hkk]
                  clear hkk ht1 ht2 hneg hG hGb a1 hpr
                  obtain ⟨pr2, cr2, er, hrow⟩ := rd_reads (F7.out.at 4 rfl)
                  simp only [Value.slice.injEq, true_and] at er
                  obtain ⟨rfl, rfl⟩ := er
                  refine (apart19_any _ pr c6 cr (grntL T) A _ (F7.out.ownRow 0 rfl) hrow (by have := hgl.out; omega) HLX.out (fun n hn => grnt_in HT.out.ok hn) (grnt_pairs HT.out.ok)).mono ?_
                  rintro e w9 ⟨rfl, hb⟩
                  have F8 := Lib.hid (F7.out.call hb)
                  clear hb hrow F7
                  obtain ⟨b7, o7, e7, a7⟩ := int_at (F8.out.ownRow 0 rfl) (i := kk) HKK.out
                  simp only [Option.some.injEq, Addr.mk.injEq, and_true] at e7
                  obtain ⟨rfl, rfl⟩ := e7
                  have hmem := List.getElem_mem HKK.out
                  obtain ⟨jj, hjj, ej⟩ := grnt_in HT.out.ok hmem
                  have HJ := Lib.hid ej
                  rw [ej] at a7 hmem
                  have HME := Lib.hid hmem
                  clear hmem ej
                  have A7 := Lib.hid a7
                  have hk9 := HKK.out
                  have hki : ((kk : Nat) : Int) < ((grntL T).length : Int) := by omega
                  go_wp2_with fail
                  clear a7
                  obtain ⟨pr2, cr2, er, hrow⟩ := rd_reads (F8.out.at 4 rfl)
                  simp only [Value.slice.injEq, true_and] at er
                  obtain ⟨rfl, rfl⟩ := er
                  refine (first19_any _ pr c5 cr (openL T) A jj _ (F8.out.ownRow 1 rfl) hrow (by have := hol.out; omega) HLX.out hjj (fun n hn => open_in HT.out.ok hn) (fun i hi hm hlt => open_free HT.out.ok HT.out.sz HME.out hi hjj hm hlt)).mono ?_
                  rintro e w10 ⟨rfl, hb⟩
                  have F9 := Lib.hid (F8.out.call hb)
                  have a7 := cell_later hb A7.out
                  have A8 := Lib.hid a7
                  clear hb hrow F8 A7
                  go_wp2_with fail
                  clear a7
                  refine (H.out.release T t _ _ jj _ (F9.out.at 5 rfl) HT.out.sz (by omega) (by omega)).mono ?_
                  rw [freeE_yes (mem_isGr HT.out.sz HME.out).choose_spec.choose_spec.2.2.2]
                  rintro e w11 ⟨rfl, hq⟩
                  obtain ⟨Zp2, hF⟩ := F9.out.turnP H.out 5 rfl hq
                  have F10 := Lib.hid (Fm.perm (L' := owR 1 3 IntR 0 (.slice pf Fd.length cf) Fd :: [owR 1 3 IntR 0 (.slice (some ⟨b6, o6, none⟩) (grntL T).length c6) (grntL T), owR 1 3 IntR 0 (.slice (some ⟨b5, o5, none⟩) (openL T).length c5) (openL T), owR 1 3 IntR 0 (.slice pb Bf.length cb) Bf, rdR Zr (.slice pr A.length cr) A, ptR PT Bp Zp2 t (freeT T jj)]) hF (List.perm_middle (l₁ := [_, _])))
                  obtain ⟨b8, o8, e8, a8⟩ := int_at (F10.out.ownRow 1 rfl) (i := kk) HKK.out
                  simp only [Option.some.injEq, Addr.mk.injEq, and_true] at e8
                  obtain ⟨rfl, rfl⟩ := e8
                  clear hq hF F9 A8
                  rw [HJ.out] at a8
                  obtain ⟨ps, q1, q2, q3⟩ : OwnR 1 3 IntR w11 0 (.slice pf Fd.length cf) Fd := F10.out.at 0 rfl
                  have HQ := Lib.hid (And.intro q1 q2)
                  have HQ3 := Lib.hid q3
                  have hfd := HT.out.fd
                  clear q1 q2 q3
                  go_wp2_with (first | (at_builtin; refine wpList_append_lies _ rfl _ _ 37 rfl 0 3 i0 _ 1 8 Try.underlying37 hi0 hv0 hv1 hv2 rfl (by decide) (.slice pf Fd.length cf) Fd.length (ps.flatMap (·.2)) rfl (HQ3.out.alloc _) ⟨w11.heap.size, 0, none⟩ 1 1 [.int .i64 jj] rfl rfl (cells_alloc _ _ _) (by intro u hu; rw [List.mem_singleton.1 hu]; rfl) (by decide) (by unfold maxLen; omega) (by omega) (Nat.zero_le _) _ rfl ?_; intro g cap2 w12 hown7 hgrow7 hor7 _; (have G7 := Lib.hid (F10.out.grown1 (x := (jj : Int)) HQ.out.1 HQ.out.2 rfl rfl rfl hown7 hgrow7 hor7)); clear hown7 hgrow7 hor7))
                  have G8 := Lib.hid (Fm.drop (Fm.perm G7.out (List.perm_middle (l₁ := [_, _]))))
                  have G9 := Lib.hid (Fm.drop (Fm.perm G8.out (List.perm_middle (l₁ := [_, _]))))
                  go_roundw
                  case rel => exact ⟨n + 1, freeT T jj, Zp2, Fd ++ [(jj : Int)], grntL T, by go_num, HT.out.next HME.out, G9.out⟩
                  case measure => simp [intOf]; omega
              · have hnpi : ¬ (n : Int) < (P.length : Int) := by omega
                have HKK : Hid (0 < (grntL T).length) := HG0
                go_wp2_with fail
                obtain ⟨pr2, cr2, er, hrow⟩ := rd_reads (F7.out.at 4 rfl)
                simp only [Value.slice.injEq, true_and] at er
                obtain ⟨rfl, rfl⟩ := er
                refine (apart19_any _ pr c6 cr (grntL T) A _ (F7.out.ownRow 0 rfl) hrow (by have := hgl.out; omega) HLX.out (fun n hn => grnt_in HT.out.ok hn) (grnt_pairs HT.out.ok)).mono ?_
                rintro e w9 ⟨rfl, hb⟩
                have F8 := Lib.hid (F7.out.call hb)
                clear hb hrow F7
                obtain ⟨b7, o7, e7, a7⟩ := int_at (F8.out.ownRow 0 rfl) (i := 0) HKK.out
                simp only [Option.some.injEq, Addr.mk.injEq, and_true] at e7
                obtain ⟨rfl, rfl⟩ := e7
                have hmem := List.getElem_mem HKK.out
                obtain ⟨jj, hjj, ej⟩ := grnt_in HT.out.ok hmem
                have HJ := Lib.hid ej
                rw [ej] at a7 hmem
                have HME := Lib.hid hmem
                clear hmem ej
                simp only [Nat.add_zero] at a7
                have A7 := Lib.hid a7
                have hk9 := HKK.out
                have hki : ((0 : Nat) : Int) < ((grntL T).length : Int) := by omega
                go_wp2_with fail
                clear a7
                obtain ⟨pr2, cr2, er, hrow⟩ := rd_reads (F8.out.at 4 rfl)
                simp only [Value.slice.injEq, true_and] at er
                obtain ⟨rfl, rfl⟩ := er
                refine (first19_any _ pr c5 cr (openL T) A jj _ (F8.out.ownRow 1 rfl) hrow (by have := hol.out; omega) HLX.out hjj (fun n hn => open_in HT.out.ok hn) (fun i hi hm hlt => open_free HT.out.ok HT.out.sz HME.out hi hjj hm hlt)).mono ?_
                rintro e w10 ⟨rfl, hb⟩
                have F9 := Lib.hid (F8.out.call hb)
                have a7 := cell_later hb A7.out
                have A8 := Lib.hid a7
                clear hb hrow F8 A7
                go_wp2_with fail
                clear a7
                refine (H.out.release T t _ _ jj _ (F9.out.at 5 rfl) HT.out.sz (by omega) (by omega)).mono ?_
                rw [freeE_yes (mem_isGr HT.out.sz HME.out).choose_spec.choose_spec.2.2.2]
                rintro e w11 ⟨rfl, hq⟩
                obtain ⟨Zp2, hF⟩ := F9.out.turnP H.out 5 rfl hq
                have F10 := Lib.hid (Fm.perm (L' := owR 1 3 IntR 0 (.slice pf Fd.length cf) Fd :: [owR 1 3 IntR 0 (.slice (some ⟨b6, o6, none⟩) (grntL T).length c6) (grntL T), owR 1 3 IntR 0 (.slice (some ⟨b5, o5, none⟩) (openL T).length c5) (openL T), owR 1 3 IntR 0 (.slice pb Bf.length cb) Bf, rdR Zr (.slice pr A.length cr) A, ptR PT Bp Zp2 t (freeT T jj)]) hF (List.perm_middle (l₁ := [_, _])))
                obtain ⟨b8, o8, e8, a8⟩ := int_at (F10.out.ownRow 1 rfl) (i := 0) HKK.out
                simp only [Option.some.injEq, Addr.mk.injEq, and_true] at e8
                obtain ⟨rfl, rfl⟩ := e8
                clear hq hF F9 A8
                simp only [Nat.add_zero] at a8
                rw [HJ.out] at a8
                obtain ⟨ps, q1, q2, q3⟩ : OwnR 1 3 IntR w11 0 (.slice pf Fd.length cf) Fd := F10.out.at 0 rfl
                have HQ := Lib.hid (And.intro q1 q2)
                have HQ3 := Lib.hid q3
                have hfd := HT.out.fd
                clear q1 q2 q3
                go_wp2_with (first | (at_builtin; refine wpList_append_lies _ rfl _ _ 37 rfl 0 3 i0 _ 1 8 Try.underlying37 hi0 hv0 hv1 hv2 rfl (by decide) (.slice pf Fd.length cf) Fd.length (ps.flatMap (·.2)) rfl (HQ3.out.alloc _) ⟨w11.heap.size, 0, none⟩ 1 1 [.int .i64 jj] rfl rfl (cells_alloc _ _ _) (by intro u hu; rw [List.mem_singleton.1 hu]; rfl) (by decide) (by unfold maxLen; omega) (by omega) (Nat.zero_le _) _ rfl ?_; intro g cap2 w12 hown7 hgrow7 hor7 _; (have G7 := Lib.hid (F10.out.grown1 (x := (jj : Int)) HQ.out.1 HQ.out.2 rfl rfl rfl hown7 hgrow7 hor7)); clear hown7 hgrow7 hor7))
                have G8 := Lib.hid (Fm.drop (Fm.perm G7.out (List.perm_middle (l₁ := [_, _]))))
                have G9 := Lib.hid (Fm.drop (Fm.perm G8.out (List.perm_middle (l₁ := [_, _]))))
                go_roundw
                case rel => exact ⟨n + 1, freeT T jj, Zp2, Fd ++ [(jj : Int)], grntL T, by go_num, HT.out.next HME.out, G9.out⟩
                case measure => simp [intOf]; omega
end Go.Proofs.Ytefdhmdkcpgfcaa
