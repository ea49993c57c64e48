/- Walks of the document's log, seventh part: Append (written by mkapp6.py). -/
import Derived.Test.YtckmjmpajbjbkaaGreatDoorY5
namespace Go.Proofs.YtckmjmpajbjbkaaGreatDoor
open Go.RowKit

theorem stV_new (l : List Sg) (N : Nat) (ds : List (List UInt8)) : stV (l ++ [(N, ds)]) = stV l ++ [.int .i64 (N : Int)] := by simp [stV]
theorem reV_new (l : List Sg) (N : Nat) (d : ByteArray) : reV (recsL (l ++ [(N, [d.data.toList])])) = reV (recsL l) ++ [.string d] := by simp [reV, recsL]
theorem stV_put {l A : List Sg} {s : Sg} {d : List UInt8} (e : l = A ++ [s]) : stV (putS l d) = stV l := by rw [e, putS_snoc]; simp [stV]
theorem reV_put {l A : List Sg} {s : Sg} (e : l = A ++ [s]) (d : ByteArray) : reV (recsL (putS l d.data.toList)) = reV (recsL l) ++ [.string d] := by rw [e, putS_snoc]; simp [reV, recsL]
def GAppP (w : World) (X : Nat → Prop) (l c : Nat) (r : (Int × Int) × St × Lg) (e : Ending) (w' : World) : Prop := e = .returned (.tuple #[.int .i64 r.1.1, .int .i64 r.1.2]) ∧ IsG w' X l c r.2.1 r.2.2 ∧ Only X w w'

set_option maxHeartbeats 4000000 in
set_option maxRecDepth 100000 in
theorem gappend_any (w : World) (X : Nat → Prop) (l c : Nat) (st : St) (g : Lg) (h : IsG w X l c st g) (hne : g.segs = [] → g.safe = g.next) (hle : g.safe ≤ g.next) (hX : ∀ k, w.heap.size ≤ k → X k) (hst : st.steps < 4611686018427387000) (d : ByteArray) (hd : d.size ≤ 1099511627776) :
    Calls Tryz.prog 35 #[.pointer (some ⟨l, 0, none⟩), .string d] w (GAppP w X l c (appendL st g d.data.toList)) := by
  obtain ⟨i0, hi, hz0, hz1, hz2⟩ := info_parts Tryz.infoStr
  obtain ⟨i1, hi1, hz10, hz11, hz12⟩ := info_parts Tryz.infoInt
  obtain ⟨v1, v2, v4, h⟩ := h
  obtain ⟨Y, hL⟩ := h.at
  obtain ⟨p2, cap2, rfl, _⟩ := hL.starts.form
  obtain ⟨p4, cap4, rfl, _⟩ := hL.recs.form
  have hlen2 := hL.starts.form
  obtain ⟨n, hn⟩ : ∃ n, (stV g.segs).length = n := ⟨_, rfl⟩
  obtain ⟨m, hm⟩ : ∃ m, (reV (recsL g.segs)).length = m := ⟨_, rfl⟩
  rw [hn] at hL h
  rw [hm] at hL h
  have HI : Hid (IsGE w X l c st g v1 (.slice p2 n cap2) (.slice p4 m cap4)) := h
  have HX : Hid (∀ k, w.heap.size ≤ k → X k) := hX
  have HG : Hid (LgW g) := h.ok
  have HL : Hid (GAt w Y l c g (.slice p2 n cap2) (.slice p4 m cap4)) := hL
  have hdl : d.data.toList.length = d.size := by simp
  have hnl := h.ok.next_le
  have hsl := h.ok.segs_le
  have hrl := h.ok.len
  rw [stV_length] at hn
  rw [reV_length] at hm
  have c1 := hL.gc.c1
  have c2 := hL.gc.c2
  have c5 := hL.gc.c5
  have HNE : Hid (g.segs = [] → g.safe = g.next) := hne
  have HLE : Hid (g.safe ≤ g.next) := hle
  clear h hX hL hlen2 hne
  by_cases hlong : 4096 < d.size ∨ 1000000000000 ≤ g.next
  · have HE : Hid (appendL st g d.data.toList = ((0, 2), st, g)) := appendL_long (by rw [hdl]; exact hlong)
    clear hdl hle
    by_cases h1 : 4096 < d.size
    · have h1i : (4096 : Int) < (d.size : Int) := by omega
      clear hlong
      go_enter Tryz.func35, Tryz.ntmps35
      go_wp2_with (first | (go_at_call 46; refine (gnext_any _ Y l c g _ _ HL.out HG.out).mono ?_; rintro e w1 ⟨rfl, hb1⟩))
      refine bodyPost_ret (v := .tuple #[.int .i64 0, .int .i64 2]) (by simp [results, Tryz.results35, go_sem]) rfl ?_
      rw [HE.out]
      exact ⟨rfl, (HI.out.later hb1).is, Only.of hb1⟩
    · have h1i : ¬ (4096 : Int) < (d.size : Int) := by omega
      have h2i : decide ((999999999999 : Int) < (g.next : Int)) = true := decide_eq_true (by omega)
      clear hlong
      go_enter Tryz.func35, Tryz.ntmps35
      go_wp2_with (first | (go_at_call 46; refine (gnext_any _ Y l c g _ _ HL.out HG.out).mono ?_; rintro e w1 ⟨rfl, hb1⟩))
      refine bodyPost_ret (v := .tuple #[.int .i64 0, .int .i64 2]) (by simp [results, Tryz.results35, go_sem]) rfl ?_
      rw [HE.out]
      exact ⟨rfl, (HI.out.later hb1).is, Only.of hb1⟩
  · have HLo : Hid (¬ (4096 < d.data.toList.length ∨ 1000000000000 ≤ g.next)) := by rw [hdl]; exact hlong
    have HW : Hid (wrE d = 0 ∧ (wrS d).data.toList = frm d.data.toList) := by
      refine ⟨?_, ?_⟩
      · simp [wrE]; omega
      · simp only [wrS]
        rw [if_pos (by omega)]
    have HWS : Hid ((wrS d).size ≤ 2147483647) := by
      have e1 : (wrS d).data.toList.length = (wrS d).size := by simp
      have : (wrS d).size ≤ 2147483647 := by
        rw [← e1, HW.out.2, frm_length, hdl]
        omega
      exact this
    obtain ⟨N, hN⟩ : ∃ N, g.next = N := ⟨_, rfl⟩
    have h1i : ¬ (4096 : Int) < (d.size : Int) := by omega
    have hni : decide ((999999999999 : Int) < (N : Int)) = false := decide_eq_false (by omega)
    have HNx : Hid (g.next = N) := hN
    have HNN : Hid (g.next < 1000000000000) := by
      have : g.next < 1000000000000 := by omega
      exact this
    have HD4 : Hid (d.data.toList.length ≤ 4096) := by
      have : d.data.toList.length ≤ 4096 := by omega
      exact this
    have hN12 : N < 1000000000000 := by omega
    have HLS : Hid ((stV g.segs).length + [Value.int .i64 (N : Int)].length ≤ 4398046511104) := by
      have : (stV g.segs).length + 1 ≤ 4398046511104 := by rw [stV_length]; omega
      exact this
    have HLR : Hid ((reV (recsL g.segs)).length + [Value.string d].length ≤ 4398046511104) := by
      have : (reV (recsL g.segs)).length + 1 ≤ 4398046511104 := by rw [reV_length]; omega
      exact this
    clear hlong hdl hrl
    cases hf : g.full with
    | false =>
      obtain ⟨A, s, hsg⟩ := snoc_of (l := g.segs) (fun e => by rw [Lg.full, e] at hf; simp at hf)
      have HSG : Hid (g.segs = A ++ [s]) := hsg
      obtain ⟨hs1, hA⟩ := HG.out.lastok hsg
      have hnA : n = A.length + 1 := by rw [← hn, hsg]; simp
      subst hnA
      have hlast : lastL g.segs = s := by rw [hsg, lastL_snoc]
      have hNs : N = s.1 + s.2.length := by rw [← hN, Lg.next, hsg, nextL_snoc]; rfl
      have hfull : ¬ g.size ≤ s.2.length := fun e => by
        rw [Lg.full, hlast] at hf
        simp [e] at hf
      have HE1 : Hid (∀ (h' : (appR st (nameN s.1) (frm d.data.toList)).1 ≠ 0), appendL st g d.data.toList = ((0, (appR st (nameN s.1) (frm d.data.toList)).1), (appR st (nameN s.1) (frm d.data.toList)).2, g)) := fun h' => by
        have := appendL_old0 HLo.out hf (by rw [hlast]; exact h')
        rw [hlast] at this
        exact this
      have HE2 : Hid (∀ (h' : (appR st (nameN s.1) (frm d.data.toList)).1 = 0), appendL st g d.data.toList = (((g.next : Int), 0), (appR st (nameN s.1) (frm d.data.toList)).2, { g with segs := putS g.segs d.data.toList })) := fun h' => by
        have := appendL_old HLo.out hf (by rw [hlast]; exact h')
        rw [hlast] at this
        exact this
      have HLG : Hid (LgW { g with segs := putS g.segs d.data.toList }) := HG.out.put hsg HD4.out HNN.out
      obtain ⟨b, off, cap', e2, d0⟩ := HL.out.last hsg
      simp only [Value.slice.injEq] at e2
      obtain ⟨rfl, _, rfl⟩ := e2
      have hz : g.size ≤ 1024 := HG.out.size.2
      have hj0 : (0 : Int) ≤ (A.length : Int) := by omega
      have hj1 : (A.length : Int) < (A.length : Int) + 1 := by omega
      have hj2 : ¬ (A.length : Int) + 1 = 0 := by omega
      have hw1 : IntKind.i64.wrap (A.length : Int) = (A.length : Int) := by rw [IntKind.wrap_i64]; omega
      have hw2 : IntKind.i64.wrap ((A.length : Int) + 1 - 1) = (A.length : Int) := by rw [IntKind.wrap_i64]; omega
      have hw3 : IntKind.i64.wrap ((N : Int) - (s.1 : Int)) = (N : Int) - (s.1 : Int) := by rw [IntKind.wrap_i64]; omega
      have hge : ¬ (g.size : Int) ≤ (N : Int) - (s.1 : Int) := by omega
      have HST1 : Hid (st.steps < 4611686018427387904) := by
        have : st.steps < 4611686018427387904 := by omega
        exact this
      clear hf hsg hlast hfull hNs hn hm hle hN
      go_enter Tryz.func35, Tryz.ntmps35
      go_wp2_with fail
      refine (gnext_any _ Y l c g _ _ HL.out HG.out).mono ?_
      rintro e w1 ⟨rfl, hb1⟩
      rw [HNx.out]
      have HB1 : Hid (Below w.heap.size w w1) := hb1
      have k1 := cell_later hb1 c1
      have k2 := cell_later hb1 c2
      have k5 := cell_later hb1 d0
      clear hb1 c1 c2 c5 d0
      go_wp2_with fail
      go_quiet (fail)
      obtain ⟨W, hW⟩ : ∃ W, W = w1.drewN nq := ⟨_, rfl⟩
      rw [← hW]
      have HB : Hid (Below w.heap.size w W) := by rw [hW]; exact below_drewN HB1.out nq
      have HI1 : Hid (IsGE W X l c st g v1 (.slice (some ⟨b, off, none⟩) (A.length + 1) cap2) (.slice p4 m cap4)) := HI.out.later HB.out
      have HO1 : Hid (Only X w W) := Only.of HB.out
      have m2 : W.cell? ⟨l, 2, none⟩ = some (.slice (some ⟨b, off, none⟩) (A.length + 1) cap2) := by rw [hW]; simpa [World.cell?, World.drewN] using k2
      have m5 : W.cell? ⟨b, off + A.length, none⟩ = some (.int .i64 (s.1 : Int)) := by rw [hW]; simpa [World.cell?, World.drewN] using k5
      clear hW k1 k2 k5
      go_wp2_with fail
      refine (gname_any N _ (by omega)).mono ?_
      rintro e w2 ⟨rfl, hw2⟩
      have hw2' := hw2.symm
      subst hw2'
      clear hw2
      go_wp2_with fail
      refine (gname_any s.1 _ (by omega)).mono ?_
      rintro e w2 ⟨rfl, hw2⟩
      have hw2' := hw2.symm
      subst hw2'
      clear hw2
      go_wp2_with fail
      refine (rwrap_any d _ hd).mono ?_
      rintro e w3 ⟨rfl, hb3⟩
      rw [HW.out.1]
      have HI3 : Hid (IsGE w3 X l c st g v1 (.slice (some ⟨b, off, none⟩) (A.length + 1) cap2) (.slice p4 m cap4)) := HI1.out.later hb3
      have HO3 : Hid (Only X w w3) := HO1.out.later hb3
      have k0 : w3.cell? ⟨l, 0, none⟩ = some (.pointer (some ⟨c, 0, none⟩)) := by
        obtain ⟨Y3, h3⟩ := HI3.out.at
        exact h3.gc.c0
      clear hb3
      go_wp2_with fail
      refine (gdappend_any HI3.out (fun k hk => HX.out k (Nat.le_trans HO3.out.size hk)) HST1.out ⟨(nameN s.1).toArray⟩ (wrS d) (gnm_size _) HWS.out).mono ?_
      rintro e w4 ⟨rfl, ⟨v', hi4⟩, ho4⟩
      simp only [HW.out.2] at hi4 ⊢
      have HI4 : Hid (IsGE w4 X l c (appR st (nameN s.1) (frm d.data.toList)).2 g v' (.slice (some ⟨b, off, none⟩) (A.length + 1) cap2) (.slice p4 m cap4)) := hi4
      have HO4 : Hid (Only X w w4) := HO3.out.trans ho4
      clear hi4 ho4 k0
      by_cases he : (appR st (nameN s.1) (frm d.data.toList)).1 = 0
      · have HE := HE2.out he
        have HEE : Hid (appendL st g d.data.toList = _) := HE
        rw [he]
        clear HE he
        obtain ⟨Y4, hL4, hY4, hown⟩ := HI4.out.own (fun k hk => HX.out k (Nat.le_trans HO4.out.size hk))
        have HR4 : Hid (GR w4 Y4 l c g (stV g.segs) (reV (recsL g.segs)) (.slice (some ⟨b, off, none⟩) (A.length + 1) cap2) (.slice p4 m cap4)) := hL4.raw
        have HY4 : Hid (∀ k, w4.heap.size ≤ k → Y4 k) := hY4
        have HOW : Hid (∀ w1 g' v2' v4', GAt w1 Y4 l c g' v2' v4' → LgW g' → Only Y4 w4 w1 → IsGE w1 X l c (appR st (nameN s.1) (frm d.data.toList)).2 g' v' v2' v4' ∧ Only X w4 w1) := hown
        have c2 := hL4.gc.c2
        have c4 := hL4.gc.c4
        clear hL4 hY4 hown
        have HO5 : Hid (Only Y4 w4 w4) := Only.refl _ _
        have HA5 : Hid (GR (w4.alloc (.cells #[.string d] 9)) Y4 l c g (stV g.segs) (reV (recsL g.segs)) (.slice (some ⟨b, off, none⟩) (A.length + 1) cap2) (.slice p4 m cap4)) := HR4.out.later ((Below.refl _ _).alloc (Nat.le_refl _) _)
        go_wp2_with (first | (at_builtin; refine wpList_rw _ rfl _ _ 44 rfl 9 (.string ⟨#[]⟩) 16 Tryz.underlying44 ⟨i0, hi, hz0, hz1, hz2⟩ rfl (by decide) (.slice p4 m cap4) (reV (recsL g.segs)) rfl HA5.out.recs (.slice (some ⟨w4.heap.size, 0, none⟩) 1 1) [.string d] rfl (src_one _ _ _ _ Tryz.underlying44 rfl) HLR.out ?_))
        intro p6 cap6 w6 hr6 hg6 hat6
        obtain ⟨n6, hn6⟩ : ∃ n6, (reV (recsL g.segs)).length + 1 = n6 := ⟨_, rfl⟩
        rw [hn6] at hr6 hat6 ⊢
        have t4 := (HA5.out.stillc hg6 HA5.out.ne4).c4
        have tf := (HA5.out.stillc hg6 HA5.out.ne4).fz
        obtain ⟨hp6, ho6⟩ := HA5.out.push4 (fun k hk => HY4.out k (Nat.le_trans HO5.out.size (Nat.le_trans (by simp) hk))) hr6 (Or.inl (by simp)) hg6 (fun k e => (hat6 k e).imp id fun h => by first | exact h | simpa using h | (simp [World.setCell] at h ⊢; omega))
        have HP6 : Hid (GR (w6.setCell ⟨l, 4, none⟩ (.slice p6 n6 cap6)) Y4 l c g (stV g.segs) (reV (recsL g.segs) ++ [.string d]) (.slice (some ⟨b, off, none⟩) (A.length + 1) cap2) (.slice p6 n6 cap6)) := hp6
        have HO6 : Hid (Only Y4 w4 (w6.setCell ⟨l, 4, none⟩ (.slice p6 n6 cap6))) := HO5.out.trans (((Only.refl _ _).alloc _).trans ho6)
        clear hr6 hg6 hat6 hn6 hp6 ho6
        go_wp2
        refine bodyPost_ret (v := .tuple #[.int .i64 (N : Int), .int .i64 0]) (by simp [results, Tryz.results35, go_sem]) rfl ?_
        rw [HEE.out]
        have hat := HP6.out.is (g' := { g with segs := putS g.segs d.data.toList }) rfl rfl rfl (stV_put HSG.out).symm (reV_put HSG.out _).symm
        obtain ⟨r1, r2⟩ := HOW.out _ _ _ _ hat HLG.out HO6.out
        exact ⟨by rw [HNx.out], r1.is, HO4.out.trans r2⟩
      · have HE := HE1.out he
        have hne : ¬ (appR st (nameN s.1) (frm d.data.toList)).1 = 0 := he
        go_wp2
        refine bodyPost_ret (v := .tuple #[.int .i64 0, .int .i64 (appR st (nameN s.1) (frm d.data.toList)).1]) (by simp [results, Tryz.results35, go_sem]) rfl ?_
        rw [HE]
        exact ⟨rfl, HI4.out.is, HO4.out⟩
    | true =>
      by_cases hsg0 : g.segs = []
      · have hs : g.safe = N := (HNE.out hsg0).trans hN
        have HSY : Hid (syncL st g = (0, st, g)) := syncL_eq (hs.trans hN.symm)
        have hlt : ¬ (g.safe : Int) < (N : Int) := by omega
        have HE1 : Hid (∀ (h' : (appR st (nameN N) (frm d.data.toList)).1 ≠ 0), appendL st g d.data.toList = ((0, (appR st (nameN N) (frm d.data.toList)).1), (appR st (nameN N) (frm d.data.toList)).2, g)) := fun h' => by
          have := appendL_new0 HLo.out hf (by rw [HSY.out]) (by rw [HSY.out, hN]; exact h')
          rw [HSY.out, hN] at this
          exact this
        have HE2 : Hid (∀ (h' : (appR st (nameN N) (frm d.data.toList)).1 = 0), appendL st g d.data.toList = (((N : Int), 0), (appR st (nameN N) (frm d.data.toList)).2, { g with segs := g.segs ++ [(N, [d.data.toList])] })) := fun h' => by
          have := appendL_new HLo.out hf (by rw [HSY.out]) (by rw [HSY.out, hN]; exact h')
          rw [HSY.out, hN] at this
          exact this
        have HLG : Hid (LgW { g with segs := g.segs ++ [(N, [d.data.toList])] }) := by
          have := HG.out.one HD4.out HNN.out
          rw [hN] at this
          exact this
        have HST1 : Hid (st.steps < 4611686018427387904) := by
          have : st.steps < 4611686018427387904 := by omega
          exact this
        obtain rfl : n = 0 := by rw [← hn, hsg0]; rfl
        clear hf hsg0 hn hm hle hN hs
        go_enter Tryz.func35, Tryz.ntmps35
        go_wp2_with fail
        refine (gnext_any _ Y l c g _ _ HL.out HG.out).mono ?_
        rintro e w1 ⟨rfl, hb1⟩
        rw [HNx.out]
        have HB1 : Hid (Below w.heap.size w w1) := hb1
        have k1 := cell_later hb1 c1
        have k2 := cell_later hb1 c2
        have k3 := cell_later hb1 c5
        clear hb1 c1 c2 c5
        go_wp2_with fail
        go_quiet (fail)
        obtain ⟨W, hW⟩ : ∃ W, W = w1.drewN nq := ⟨_, rfl⟩
        rw [← hW]
        have HB : Hid (Below w.heap.size w W) := by rw [hW]; exact below_drewN HB1.out nq
        have HI1 : Hid (IsGE W X l c st g v1 (.slice p2 0 cap2) (.slice p4 m cap4)) := HI.out.later HB.out
        have HO1 : Hid (Only X w W) := Only.of HB.out
        have m3 : W.cell? ⟨l, 5, none⟩ = some (.int .i64 (g.safe : Int)) := by rw [hW]; simpa [World.cell?, World.drewN] using k3
        clear hW k1 k2 k3
        go_wp2_with fail
        refine (gname_any N _ (by omega)).mono ?_
        rintro e w2 ⟨rfl, hw2⟩
        have hw2' := hw2.symm
        subst hw2'
        clear hw2
        go_wp2_with fail
        refine (rwrap_any d _ hd).mono ?_
        rintro e w3 ⟨rfl, hb3⟩
        rw [HW.out.1]
        have HI3 : Hid (IsGE w3 X l c st g v1 (.slice p2 0 cap2) (.slice p4 m cap4)) := HI1.out.later hb3
        have HO3 : Hid (Only X w w3) := HO1.out.later hb3
        have k0 : w3.cell? ⟨l, 0, none⟩ = some (.pointer (some ⟨c, 0, none⟩)) := by
          obtain ⟨Y3, h3⟩ := HI3.out.at
          exact h3.gc.c0
        clear hb3
        go_wp2_with fail
        refine (gdappend_any HI3.out (fun k hk => HX.out k (Nat.le_trans HO3.out.size hk)) HST1.out ⟨(nameN N).toArray⟩ (wrS d) (gnm_size _) HWS.out).mono ?_
        rintro e w4 ⟨rfl, ⟨v', hi4⟩, ho4⟩
        simp only [HW.out.2] at hi4 ⊢
        have HI4 : Hid (IsGE w4 X l c (appR st (nameN N) (frm d.data.toList)).2 g v' (.slice p2 0 cap2) (.slice p4 m cap4)) := hi4
        have HO4 : Hid (Only X w w4) := HO3.out.trans ho4
        clear hi4 ho4 k0
        by_cases he : (appR st (nameN N) (frm d.data.toList)).1 = 0
        · have HE := HE2.out he
          have HEE : Hid (appendL st g d.data.toList = _) := HE
          rw [he]
          clear HE he
          obtain ⟨Y4, hL4, hY4, hown⟩ := HI4.out.own (fun k hk => HX.out k (Nat.le_trans HO4.out.size hk))
          have HR4 : Hid (GR w4 Y4 l c g (stV g.segs) (reV (recsL g.segs)) (.slice p2 0 cap2) (.slice p4 m cap4)) := hL4.raw
          have HY4 : Hid (∀ k, w4.heap.size ≤ k → Y4 k) := hY4
          have HOW : Hid (∀ w1 g' v2' v4', GAt w1 Y4 l c g' v2' v4' → LgW g' → Only Y4 w4 w1 → IsGE w1 X l c (appR st (nameN N) (frm d.data.toList)).2 g' v' v2' v4' ∧ Only X w4 w1) := hown
          have c2 := hL4.gc.c2
          have c4 := hL4.gc.c4
          clear hL4 hY4 hown
          have HA4 : Hid (GR (w4.alloc (.cells #[.int .i64 (N : Int)] 3)) Y4 l c g (stV g.segs) (reV (recsL g.segs)) (.slice p2 0 cap2) (.slice p4 m cap4)) := HR4.out.later ((Below.refl _ _).alloc (Nat.le_refl _) _)
          go_wp2_with (first | (at_builtin; refine wpList_rw _ rfl _ _ 39 rfl 3 (.int .i64 0) 8 Tryz.underlying39 ⟨i1, hi1, hz10, hz11, hz12⟩ rfl (by decide) (.slice p2 0 cap2) (stV g.segs) rfl HA4.out.starts (.slice (some ⟨w4.heap.size, 0, none⟩) 1 1) [.int .i64 (N : Int)] rfl (src_one w4 _ _ _ Tryz.underlying39 rfl) HLS.out ?_))
          intro p5 cap5 w5 hr5 hg5 hat5
          obtain ⟨n5, hn5⟩ : ∃ n5, (stV g.segs).length + 1 = n5 := ⟨_, rfl⟩
          rw [hn5] at hr5 hat5 ⊢
          have s2 := (HA4.out.stillc hg5 HA4.out.ne2).c2
          have s4 := (HA4.out.stillc hg5 HA4.out.ne2).c4
          have sf := (HA4.out.stillc hg5 HA4.out.ne2).fz
          obtain ⟨hp5, ho5⟩ := HA4.out.push2 (fun k hk => HY4.out k (Nat.le_trans (by simp) hk)) hr5 (by simp) hg5 (fun k e => (hat5 k e).imp id fun h => by first | exact h | simpa using h)
          have HP5 : Hid (GR (w5.setCell ⟨l, 2, none⟩ (.slice p5 n5 cap5)) Y4 l c g (stV g.segs ++ [.int .i64 (N : Int)]) (reV (recsL g.segs)) (.slice p5 n5 cap5) (.slice p4 m cap4)) := hp5
          have HO5 : Hid (Only Y4 w4 (w5.setCell ⟨l, 2, none⟩ (.slice p5 n5 cap5))) := ((Only.refl _ _).alloc _).trans ho5
          clear hr5 hg5 hat5 hn5 hp5 ho5
          have HSR : Hid (Src Tryz.prog 1 44 (.slice (some ⟨w5.heap.size, 0, none⟩) 1 1) [Value.string d].length [.string d] ((w5.setCell ⟨l, 2, none⟩ (.slice p5 n5 cap5)).alloc (.cells #[.string d] 9))) := by
            have := src_one (w5.setCell ⟨l, 2, none⟩ (.slice p5 n5 cap5)) (.string d) 44 9 Tryz.underlying44 rfl
            rw [set_size] at this
            exact this
          have HA5 : Hid (GR ((w5.setCell ⟨l, 2, none⟩ (.slice p5 n5 cap5)).alloc (.cells #[.string d] 9)) Y4 l c g (stV g.segs ++ [.int .i64 (N : Int)]) (reV (recsL g.segs)) (.slice p5 n5 cap5) (.slice p4 m cap4)) := HP5.out.later ((Below.refl _ _).alloc (Nat.le_refl _) _)
          go_wp2_with (first | (at_builtin; refine wpList_rw _ rfl _ _ 44 rfl 9 (.string ⟨#[]⟩) 16 Tryz.underlying44 ⟨i0, hi, hz0, hz1, hz2⟩ rfl (by decide) (.slice p4 m cap4) (reV (recsL g.segs)) rfl HA5.out.recs (.slice (some ⟨w5.heap.size, 0, none⟩) 1 1) [.string d] rfl HSR.out HLR.out ?_))
          intro p6 cap6 w6 hr6 hg6 hat6
          obtain ⟨n6, hn6⟩ : ∃ n6, (reV (recsL g.segs)).length + 1 = n6 := ⟨_, rfl⟩
          rw [hn6] at hr6 hat6 ⊢
          have t4 := (HA5.out.stillc hg6 HA5.out.ne4).c4
          have tf := (HA5.out.stillc hg6 HA5.out.ne4).fz
          obtain ⟨hp6, ho6⟩ := HA5.out.push4 (fun k hk => HY4.out k (Nat.le_trans HO5.out.size (Nat.le_trans (by simp) hk))) hr6 (Or.inl (by simp)) hg6 (fun k e => (hat6 k e).imp id fun h => by first | exact h | simpa using h | (simp [World.setCell] at h ⊢; omega))
          have HP6 : Hid (GR (w6.setCell ⟨l, 4, none⟩ (.slice p6 n6 cap6)) Y4 l c g (stV g.segs ++ [.int .i64 (N : Int)]) (reV (recsL g.segs) ++ [.string d]) (.slice p5 n5 cap5) (.slice p6 n6 cap6)) := hp6
          have HO6 : Hid (Only Y4 w4 (w6.setCell ⟨l, 4, none⟩ (.slice p6 n6 cap6))) := HO5.out.trans (((Only.refl _ _).alloc _).trans ho6)
          clear hr6 hg6 hat6 hn6 hp6 ho6
          go_wp2
          refine bodyPost_ret (v := .tuple #[.int .i64 (N : Int), .int .i64 0]) (by simp [results, Tryz.results35, go_sem]) rfl ?_
          rw [HEE.out]
          have hat := HP6.out.is (g' := { g with segs := g.segs ++ [(N, [d.data.toList])] }) rfl rfl rfl (by rw [stV_new]) (by rw [reV_new])
          obtain ⟨r1, r2⟩ := HOW.out _ _ _ _ hat HLG.out HO6.out
          exact ⟨rfl, r1.is, HO4.out.trans r2⟩
        · have HE := HE1.out he
          have hne : ¬ (appR st (nameN N) (frm d.data.toList)).1 = 0 := he
          go_wp2
          refine bodyPost_ret (v := .tuple #[.int .i64 0, .int .i64 (appR st (nameN N) (frm d.data.toList)).1]) (by simp [results, Tryz.results35, go_sem]) rfl ?_
          rw [HE]
          exact ⟨rfl, HI4.out.is, HO4.out⟩
      · obtain ⟨A, s, hsg⟩ := snoc_of (l := g.segs) hsg0
        obtain ⟨hs1, hA⟩ := HG.out.lastok hsg
        have HSG : Hid (g.segs = A ++ [s]) := hsg
        have hnA : n = A.length + 1 := by rw [← hn, hsg]; simp
        subst hnA
        have hlast : lastL g.segs = s := by rw [hsg, lastL_snoc]
        have hNs : N = s.1 + s.2.length := by rw [← hN, Lg.next, hsg, nextL_snoc]; rfl
        have hfull : g.size ≤ s.2.length := by
          rw [Lg.full, hlast, hsg] at hf
          simpa using hf
        obtain ⟨b, off, cap', e2, d0⟩ := HL.out.last hsg
        simp only [Value.slice.injEq] at e2
        obtain ⟨rfl, _, rfl⟩ := e2
        have hz : g.size ≤ 1024 := HG.out.size.2
        have hj0 : (0 : Int) ≤ (A.length : Int) := by omega
        have hj1 : (A.length : Int) < (A.length : Int) + 1 := by omega
        have hj2 : ¬ (A.length : Int) + 1 = 0 := by omega
        have hw1 : IntKind.i64.wrap (A.length : Int) = (A.length : Int) := by rw [IntKind.wrap_i64]; omega
        have hw2 : IntKind.i64.wrap ((A.length : Int) + 1 - 1) = (A.length : Int) := by rw [IntKind.wrap_i64]; omega
        have hw3 : IntKind.i64.wrap ((N : Int) - (s.1 : Int)) = (N : Int) - (s.1 : Int) := by rw [IntKind.wrap_i64]; omega
        have hge : (g.size : Int) ≤ (N : Int) - (s.1 : Int) := by omega
        by_cases hs : g.safe = N
        · have HSY : Hid (syncL st g = (0, st, g)) := syncL_eq (hs.trans hN.symm)
          have hlt : ¬ (g.safe : Int) < (N : Int) := by omega
          have HE1 : Hid (∀ (h' : (appR st (nameN N) (frm d.data.toList)).1 ≠ 0), appendL st g d.data.toList = ((0, (appR st (nameN N) (frm d.data.toList)).1), (appR st (nameN N) (frm d.data.toList)).2, g)) := fun h' => by
            have := appendL_new0 HLo.out hf (by rw [HSY.out]) (by rw [HSY.out, hN]; exact h')
            rw [HSY.out, hN] at this
            exact this
          have HE2 : Hid (∀ (h' : (appR st (nameN N) (frm d.data.toList)).1 = 0), appendL st g d.data.toList = (((N : Int), 0), (appR st (nameN N) (frm d.data.toList)).2, { g with segs := g.segs ++ [(N, [d.data.toList])] })) := fun h' => by
            have := appendL_new HLo.out hf (by rw [HSY.out]) (by rw [HSY.out, hN]; exact h')
            rw [HSY.out, hN] at this
            exact this
          have HLG : Hid (LgW { g with segs := g.segs ++ [(N, [d.data.toList])] }) := by
            have := HG.out.one HD4.out HNN.out
            rw [hN] at this
            exact this
          have HST1 : Hid (st.steps < 4611686018427387904) := by
            have : st.steps < 4611686018427387904 := by omega
            exact this
          clear hf hsg hlast hfull hNs hn hm hle hN hs hsg0
          go_enter Tryz.func35, Tryz.ntmps35
          go_wp2_with fail
          refine (gnext_any _ Y l c g _ _ HL.out HG.out).mono ?_
          rintro e w1 ⟨rfl, hb1⟩
          rw [HNx.out]
          have HB1 : Hid (Below w.heap.size w w1) := hb1
          have k1 := cell_later hb1 c1
          have k2 := cell_later hb1 c2
          have k3 := cell_later hb1 c5
          have k5 := cell_later hb1 d0
          clear hb1 c1 c2 c5 d0
          go_wp2_with fail
          go_quiet (fail)
          obtain ⟨W, hW⟩ : ∃ W, W = w1.drewN nq := ⟨_, rfl⟩
          rw [← hW]
          have HB : Hid (Below w.heap.size w W) := by rw [hW]; exact below_drewN HB1.out nq
          have HI1 : Hid (IsGE W X l c st g v1 (.slice (some ⟨b, off, none⟩) (A.length + 1) cap2) (.slice p4 m cap4)) := HI.out.later HB.out
          have HO1 : Hid (Only X w W) := Only.of HB.out
          have m3 : W.cell? ⟨l, 5, none⟩ = some (.int .i64 (g.safe : Int)) := by rw [hW]; simpa [World.cell?, World.drewN] using k3
          clear hW k1 k2 k3 k5
          go_wp2_with fail
          refine (gname_any N _ (by omega)).mono ?_
          rintro e w2 ⟨rfl, hw2⟩
          have hw2' := hw2.symm
          subst hw2'
          clear hw2
          go_wp2_with fail
          refine (rwrap_any d _ hd).mono ?_
          rintro e w3 ⟨rfl, hb3⟩
          rw [HW.out.1]
          have HI3 : Hid (IsGE w3 X l c st g v1 (.slice (some ⟨b, off, none⟩) (A.length + 1) cap2) (.slice p4 m cap4)) := HI1.out.later hb3
          have HO3 : Hid (Only X w w3) := HO1.out.later hb3
          have k0 : w3.cell? ⟨l, 0, none⟩ = some (.pointer (some ⟨c, 0, none⟩)) := by
            obtain ⟨Y3, h3⟩ := HI3.out.at
            exact h3.gc.c0
          clear hb3
          go_wp2_with fail
          refine (gdappend_any HI3.out (fun k hk => HX.out k (Nat.le_trans HO3.out.size hk)) HST1.out ⟨(nameN N).toArray⟩ (wrS d) (gnm_size _) HWS.out).mono ?_
          rintro e w4 ⟨rfl, ⟨v', hi4⟩, ho4⟩
          simp only [HW.out.2] at hi4 ⊢
          have HI4 : Hid (IsGE w4 X l c (appR st (nameN N) (frm d.data.toList)).2 g v' (.slice (some ⟨b, off, none⟩) (A.length + 1) cap2) (.slice p4 m cap4)) := hi4
          have HO4 : Hid (Only X w w4) := HO3.out.trans ho4
          clear hi4 ho4 k0
          by_cases he : (appR st (nameN N) (frm d.data.toList)).1 = 0
          · have HE := HE2.out he
            have HEE : Hid (appendL st g d.data.toList = _) := HE
            rw [he]
            clear HE he
            obtain ⟨Y4, hL4, hY4, hown⟩ := HI4.out.own (fun k hk => HX.out k (Nat.le_trans HO4.out.size hk))
            have HR4 : Hid (GR w4 Y4 l c g (stV g.segs) (reV (recsL g.segs)) (.slice (some ⟨b, off, none⟩) (A.length + 1) cap2) (.slice p4 m cap4)) := hL4.raw
            have HY4 : Hid (∀ k, w4.heap.size ≤ k → Y4 k) := hY4
            have HOW : Hid (∀ w1 g' v2' v4', GAt w1 Y4 l c g' v2' v4' → LgW g' → Only Y4 w4 w1 → IsGE w1 X l c (appR st (nameN N) (frm d.data.toList)).2 g' v' v2' v4' ∧ Only X w4 w1) := hown
            have c2 := hL4.gc.c2
            have c4 := hL4.gc.c4
            clear hL4 hY4 hown
            have HA4 : Hid (GR (w4.alloc (.cells #[.int .i64 (N : Int)] 3)) Y4 l c g (stV g.segs) (reV (recsL g.segs)) (.slice (some ⟨b, off, none⟩) (A.length + 1) cap2) (.slice p4 m cap4)) := HR4.out.later ((Below.refl _ _).alloc (Nat.le_refl _) _)
            go_wp2_with (first | (at_builtin; refine wpList_rw _ rfl _ _ 39 rfl 3 (.int .i64 0) 8 Tryz.underlying39 ⟨i1, hi1, hz10, hz11, hz12⟩ rfl (by decide) (.slice (some ⟨b, off, none⟩) (A.length + 1) cap2) (stV g.segs) rfl HA4.out.starts (.slice (some ⟨w4.heap.size, 0, none⟩) 1 1) [.int .i64 (N : Int)] rfl (src_one w4 _ _ _ Tryz.underlying39 rfl) HLS.out ?_))
            intro p5 cap5 w5 hr5 hg5 hat5
            obtain ⟨n5, hn5⟩ : ∃ n5, (stV g.segs).length + 1 = n5 := ⟨_, rfl⟩
            rw [hn5] at hr5 hat5 ⊢
            have s2 := (HA4.out.stillc hg5 HA4.out.ne2).c2
            have s4 := (HA4.out.stillc hg5 HA4.out.ne2).c4
            have sf := (HA4.out.stillc hg5 HA4.out.ne2).fz
            obtain ⟨hp5, ho5⟩ := HA4.out.push2 (fun k hk => HY4.out k (Nat.le_trans (by simp) hk)) hr5 (by simp) hg5 (fun k e => (hat5 k e).imp id fun h => by first | exact h | simpa using h)
            have HP5 : Hid (GR (w5.setCell ⟨l, 2, none⟩ (.slice p5 n5 cap5)) Y4 l c g (stV g.segs ++ [.int .i64 (N : Int)]) (reV (recsL g.segs)) (.slice p5 n5 cap5) (.slice p4 m cap4)) := hp5
            have HO5 : Hid (Only Y4 w4 (w5.setCell ⟨l, 2, none⟩ (.slice p5 n5 cap5))) := ((Only.refl _ _).alloc _).trans ho5
            clear hr5 hg5 hat5 hn5 hp5 ho5
            have HSR : Hid (Src Tryz.prog 1 44 (.slice (some ⟨w5.heap.size, 0, none⟩) 1 1) [Value.string d].length [.string d] ((w5.setCell ⟨l, 2, none⟩ (.slice p5 n5 cap5)).alloc (.cells #[.string d] 9))) := by
              have := src_one (w5.setCell ⟨l, 2, none⟩ (.slice p5 n5 cap5)) (.string d) 44 9 Tryz.underlying44 rfl
              rw [set_size] at this
              exact this
            have HA5 : Hid (GR ((w5.setCell ⟨l, 2, none⟩ (.slice p5 n5 cap5)).alloc (.cells #[.string d] 9)) Y4 l c g (stV g.segs ++ [.int .i64 (N : Int)]) (reV (recsL g.segs)) (.slice p5 n5 cap5) (.slice p4 m cap4)) := HP5.out.later ((Below.refl _ _).alloc (Nat.le_refl _) _)
            go_wp2_with (first | (at_builtin; refine wpList_rw _ rfl _ _ 44 rfl 9 (.string ⟨#[]⟩) 16 Tryz.underlying44 ⟨i0, hi, hz0, hz1, hz2⟩ rfl (by decide) (.slice p4 m cap4) (reV (recsL g.segs)) rfl HA5.out.recs (.slice (some ⟨w5.heap.size, 0, none⟩) 1 1) [.string d] rfl HSR.out HLR.out ?_))
            intro p6 cap6 w6 hr6 hg6 hat6
            obtain ⟨n6, hn6⟩ : ∃ n6, (reV (recsL g.segs)).length + 1 = n6 := ⟨_, rfl⟩
            rw [hn6] at hr6 hat6 ⊢
            have t4 := (HA5.out.stillc hg6 HA5.out.ne4).c4
            have tf := (HA5.out.stillc hg6 HA5.out.ne4).fz
            obtain ⟨hp6, ho6⟩ := HA5.out.push4 (fun k hk => HY4.out k (Nat.le_trans HO5.out.size (Nat.le_trans (by simp) hk))) hr6 (Or.inl (by simp)) hg6 (fun k e => (hat6 k e).imp id fun h => by first | exact h | simpa using h | (simp [World.setCell] at h ⊢; omega))
            have HP6 : Hid (GR (w6.setCell ⟨l, 4, none⟩ (.slice p6 n6 cap6)) Y4 l c g (stV g.segs ++ [.int .i64 (N : Int)]) (reV (recsL g.segs) ++ [.string d]) (.slice p5 n5 cap5) (.slice p6 n6 cap6)) := hp6
            have HO6 : Hid (Only Y4 w4 (w6.setCell ⟨l, 4, none⟩ (.slice p6 n6 cap6))) := HO5.out.trans (((Only.refl _ _).alloc _).trans ho6)
            clear hr6 hg6 hat6 hn6 hp6 ho6
            go_wp2
            refine bodyPost_ret (v := .tuple #[.int .i64 (N : Int), .int .i64 0]) (by simp [results, Tryz.results35, go_sem]) rfl ?_
            rw [HEE.out]
            have hat := HP6.out.is (g' := { g with segs := g.segs ++ [(N, [d.data.toList])] }) rfl rfl rfl (by rw [stV_new]) (by rw [reV_new])
            obtain ⟨r1, r2⟩ := HOW.out _ _ _ _ hat HLG.out HO6.out
            exact ⟨rfl, r1.is, HO4.out.trans r2⟩
          · have HE := HE1.out he
            have hne : ¬ (appR st (nameN N) (frm d.data.toList)).1 = 0 := he
            go_wp2
            refine bodyPost_ret (v := .tuple #[.int .i64 0, .int .i64 (appR st (nameN N) (frm d.data.toList)).1]) (by simp [results, Tryz.results35, go_sem]) rfl ?_
            rw [HE]
            exact ⟨rfl, HI4.out.is, HO4.out⟩
        · have hlt : (g.safe : Int) < (N : Int) := by have := HLE.out; omega
          have HST1 : Hid (st.steps < 4611686018427387904) := by
            have : st.steps < 4611686018427387904 := by omega
            exact this
          have hSS := syncL_steps st g
          have HF : Hid (g.full = true) := hf
          clear hf hsg hlast hfull hNs hn hm hle hs hsg0
          go_enter Tryz.func35, Tryz.ntmps35
          go_wp2_with fail
          refine (gnext_any _ Y l c g _ _ HL.out HG.out).mono ?_
          rintro e w1 ⟨rfl, hb1⟩
          rw [HNx.out]
          have HB1 : Hid (Below w.heap.size w w1) := hb1
          have k1 := cell_later hb1 c1
          have k2 := cell_later hb1 c2
          have k3 := cell_later hb1 c5
          have k5 := cell_later hb1 d0
          clear hb1 c1 c2 c5 d0
          go_wp2_with fail
          go_quiet (fail)
          obtain ⟨W, hW⟩ : ∃ W, W = w1.drewN nq := ⟨_, rfl⟩
          rw [← hW]
          have HB : Hid (Below w.heap.size w W) := by rw [hW]; exact below_drewN HB1.out nq
          have HI1 : Hid (IsGE W X l c st g v1 (.slice (some ⟨b, off, none⟩) (A.length + 1) cap2) (.slice p4 m cap4)) := HI.out.later HB.out
          have HO1 : Hid (Only X w W) := Only.of HB.out
          have m3 : W.cell? ⟨l, 5, none⟩ = some (.int .i64 (g.safe : Int)) := by rw [hW]; simpa [World.cell?, World.drewN] using k3
          clear hW k1 k2 k3 k5
          go_wp2_with fail
          refine (gsync_any _ X l c st g HI1.out.is HNE.out HLE.out (fun k hk => HX.out k (Nat.le_trans HO1.out.size hk)) HST1.out).mono ?_
          rintro e w8 ⟨rfl, hi8, ho8⟩
          by_cases he8 : (syncL st g).1 = 0
          · rw [he8]
            obtain ⟨q1, q2, q3⟩ := syncL_segs st g
            have HE1' : Hid (∀ (h' : (appR (syncL st g).2.1 (nameN N) (frm d.data.toList)).1 ≠ 0), appendL st g d.data.toList = ((0, (appR (syncL st g).2.1 (nameN N) (frm d.data.toList)).1), (appR (syncL st g).2.1 (nameN N) (frm d.data.toList)).2, (syncL st g).2.2)) := fun h' => by
              have := appendL_new0 HLo.out HF.out he8 (by rw [hN]; exact h')
              rw [hN] at this
              exact this
            have HE2' : Hid (∀ (h' : (appR (syncL st g).2.1 (nameN N) (frm d.data.toList)).1 = 0), appendL st g d.data.toList = (((N : Int), 0), (appR (syncL st g).2.1 (nameN N) (frm d.data.toList)).2, { (syncL st g).2.2 with segs := g.segs ++ [(N, [d.data.toList])] })) := fun h' => by
              have := appendL_new HLo.out HF.out he8 (by rw [hN]; exact h')
              rw [hN] at this
              exact this
            have HLG' : Hid (LgW { (syncL st g).2.2 with segs := g.segs ++ [(N, [d.data.toList])] }) := by
              have hnx : (syncL st g).2.2.next = N := by rw [Lg.next, q1, q3]; exact hN
              have := (HG.out.sync (st := st)).one (d := d.data.toList) HD4.out (by rw [hnx]; exact hN12)
              rw [q1, hnx] at this
              exact this
            obtain ⟨st1, hst1⟩ : ∃ st1, (syncL st g).2.1 = st1 := ⟨_, rfl⟩
            obtain ⟨g1, hg1⟩ : ∃ g1, (syncL st g).2.2 = g1 := ⟨_, rfl⟩
            rw [hst1, hg1] at HE1' HE2' hi8
            rw [hg1] at HLG' q1
            rw [hst1] at hSS
            have HE1 : Hid (∀ (h' : (appR st1 (nameN N) (frm d.data.toList)).1 ≠ 0), appendL st g d.data.toList = ((0, (appR st1 (nameN N) (frm d.data.toList)).1), (appR st1 (nameN N) (frm d.data.toList)).2, g1)) := HE1'
            have HE2 : Hid (∀ (h' : (appR st1 (nameN N) (frm d.data.toList)).1 = 0), appendL st g d.data.toList = (((N : Int), 0), (appR st1 (nameN N) (frm d.data.toList)).2, { g1 with segs := g.segs ++ [(N, [d.data.toList])] })) := HE2'
            have HLG : Hid (LgW { g1 with segs := g.segs ++ [(N, [d.data.toList])] }) := HLG'
            have HQ : Hid (g1.segs = g.segs) := q1
            have HST1 : Hid (st1.steps < 4611686018427387904) := by
              have : st1.steps < 4611686018427387904 := by omega
              exact this
            have HLS : Hid ((stV g1.segs).length + [Value.int .i64 (N : Int)].length ≤ 4398046511104) := by rw [HQ.out]; exact HLS.out
            have HLR : Hid ((reV (recsL g1.segs)).length + [Value.string d].length ≤ 4398046511104) := by rw [HQ.out]; exact HLR.out
            obtain ⟨v8, v28, v48, hi8⟩ := hi8
            obtain ⟨Y8, hL8⟩ := hi8.at
            obtain ⟨p28, cap28, rfl, _⟩ := hL8.starts.form
            obtain ⟨p48, cap48, rfl, _⟩ := hL8.recs.form
            obtain ⟨n8, hn8⟩ : ∃ n8, (stV g1.segs).length = n8 := ⟨_, rfl⟩
            obtain ⟨m8, hm8⟩ : ∃ m8, (reV (recsL g1.segs)).length = m8 := ⟨_, rfl⟩
            rw [hn8, hm8] at hi8
            have HI1 : Hid (IsGE w8 X l c st1 g1 v8 (.slice p28 n8 cap28) (.slice p48 m8 cap48)) := hi8
            have HO1 : Hid (Only X w w8) := HO1.out.trans ho8
            clear hi8 ho8 hL8 hn8 hm8 hst1 hg1 HE1' HE2' HLG' q1 q2 q3 he8 hN m3
            go_wp2_with fail
            refine (gname_any N _ (by omega)).mono ?_
            rintro e w2 ⟨rfl, hw2⟩
            have hw2' := hw2.symm
            subst hw2'
            clear hw2
            go_wp2_with fail
            refine (rwrap_any d _ hd).mono ?_
            rintro e w3 ⟨rfl, hb3⟩
            rw [HW.out.1]
            have HI3 : Hid (IsGE w3 X l c st1 g1 v8 (.slice p28 n8 cap28) (.slice p48 m8 cap48)) := HI1.out.later hb3
            have HO3 : Hid (Only X w w3) := HO1.out.later hb3
            have k0 : w3.cell? ⟨l, 0, none⟩ = some (.pointer (some ⟨c, 0, none⟩)) := by
              obtain ⟨Y3, h3⟩ := HI3.out.at
              exact h3.gc.c0
            clear hb3
            go_wp2_with fail
            refine (gdappend_any HI3.out (fun k hk => HX.out k (Nat.le_trans HO3.out.size hk)) HST1.out ⟨(nameN N).toArray⟩ (wrS d) (gnm_size _) HWS.out).mono ?_
            rintro e w4 ⟨rfl, ⟨v', hi4⟩, ho4⟩
            simp only [HW.out.2] at hi4 ⊢
            have HI4 : Hid (IsGE w4 X l c (appR st1 (nameN N) (frm d.data.toList)).2 g1 v' (.slice p28 n8 cap28) (.slice p48 m8 cap48)) := hi4
            have HO4 : Hid (Only X w w4) := HO3.out.trans ho4
            clear hi4 ho4 k0
            by_cases he : (appR st1 (nameN N) (frm d.data.toList)).1 = 0
            · have HE := HE2.out he
              have HEE : Hid (appendL st g d.data.toList = _) := HE
              rw [he]
              clear HE he
              obtain ⟨Y4, hL4, hY4, hown⟩ := HI4.out.own (fun k hk => HX.out k (Nat.le_trans HO4.out.size hk))
              have HR4 : Hid (GR w4 Y4 l c g1 (stV g1.segs) (reV (recsL g1.segs)) (.slice p28 n8 cap28) (.slice p48 m8 cap48)) := hL4.raw
              have HY4 : Hid (∀ k, w4.heap.size ≤ k → Y4 k) := hY4
              have HOW : Hid (∀ w1 g' v2' v4', GAt w1 Y4 l c g' v2' v4' → LgW g' → Only Y4 w4 w1 → IsGE w1 X l c (appR st1 (nameN N) (frm d.data.toList)).2 g' v' v2' v4' ∧ Only X w4 w1) := hown
              have c2 := hL4.gc.c2
              have c4 := hL4.gc.c4
              clear hL4 hY4 hown
              have HA4 : Hid (GR (w4.alloc (.cells #[.int .i64 (N : Int)] 3)) Y4 l c g1 (stV g1.segs) (reV (recsL g1.segs)) (.slice p28 n8 cap28) (.slice p48 m8 cap48)) := HR4.out.later ((Below.refl _ _).alloc (Nat.le_refl _) _)
              go_wp2_with (first | (at_builtin; refine wpList_rw _ rfl _ _ 39 rfl 3 (.int .i64 0) 8 Tryz.underlying39 ⟨i1, hi1, hz10, hz11, hz12⟩ rfl (by decide) (.slice p28 n8 cap28) (stV g1.segs) rfl HA4.out.starts (.slice (some ⟨w4.heap.size, 0, none⟩) 1 1) [.int .i64 (N : Int)] rfl (src_one w4 _ _ _ Tryz.underlying39 rfl) HLS.out ?_))
              intro p5 cap5 w5 hr5 hg5 hat5
              obtain ⟨n5, hn5⟩ : ∃ n5, (stV g1.segs).length + 1 = n5 := ⟨_, rfl⟩
              rw [hn5] at hr5 hat5 ⊢
              have s2 := (HA4.out.stillc hg5 HA4.out.ne2).c2
              have s4 := (HA4.out.stillc hg5 HA4.out.ne2).c4
              have sf := (HA4.out.stillc hg5 HA4.out.ne2).fz
              obtain ⟨hp5, ho5⟩ := HA4.out.push2 (fun k hk => HY4.out k (Nat.le_trans (by simp) hk)) hr5 (by simp) hg5 (fun k e => (hat5 k e).imp id fun h => by first | exact h | simpa using h)
              have HP5 : Hid (GR (w5.setCell ⟨l, 2, none⟩ (.slice p5 n5 cap5)) Y4 l c g1 (stV g1.segs ++ [.int .i64 (N : Int)]) (reV (recsL g1.segs)) (.slice p5 n5 cap5) (.slice p48 m8 cap48)) := hp5
              have HO5 : Hid (Only Y4 w4 (w5.setCell ⟨l, 2, none⟩ (.slice p5 n5 cap5))) := ((Only.refl _ _).alloc _).trans ho5
              clear hr5 hg5 hat5 hn5 hp5 ho5
              have HSR : Hid (Src Tryz.prog 1 44 (.slice (some ⟨w5.heap.size, 0, none⟩) 1 1) [Value.string d].length [.string d] ((w5.setCell ⟨l, 2, none⟩ (.slice p5 n5 cap5)).alloc (.cells #[.string d] 9))) := by
                have := src_one (w5.setCell ⟨l, 2, none⟩ (.slice p5 n5 cap5)) (.string d) 44 9 Tryz.underlying44 rfl
                rw [set_size] at this
                exact this
              have HA5 : Hid (GR ((w5.setCell ⟨l, 2, none⟩ (.slice p5 n5 cap5)).alloc (.cells #[.string d] 9)) Y4 l c g1 (stV g1.segs ++ [.int .i64 (N : Int)]) (reV (recsL g1.segs)) (.slice p5 n5 cap5) (.slice p48 m8 cap48)) := HP5.out.later ((Below.refl _ _).alloc (Nat.le_refl _) _)
              go_wp2_with (first | (at_builtin; refine wpList_rw _ rfl _ _ 44 rfl 9 (.string ⟨#[]⟩) 16 Tryz.underlying44 ⟨i0, hi, hz0, hz1, hz2⟩ rfl (by decide) (.slice p48 m8 cap48) (reV (recsL g1.segs)) rfl HA5.out.recs (.slice (some ⟨w5.heap.size, 0, none⟩) 1 1) [.string d] rfl HSR.out HLR.out ?_))
              intro p6 cap6 w6 hr6 hg6 hat6
              obtain ⟨n6, hn6⟩ : ∃ n6, (reV (recsL g1.segs)).length + 1 = n6 := ⟨_, rfl⟩
              rw [hn6] at hr6 hat6 ⊢
              have t4 := (HA5.out.stillc hg6 HA5.out.ne4).c4
              have tf := (HA5.out.stillc hg6 HA5.out.ne4).fz
              obtain ⟨hp6, ho6⟩ := HA5.out.push4 (fun k hk => HY4.out k (Nat.le_trans HO5.out.size (Nat.le_trans (by simp) hk))) hr6 (Or.inl (by simp)) hg6 (fun k e => (hat6 k e).imp id fun h => by first | exact h | simpa using h | (simp [World.setCell] at h ⊢; omega))
              have HP6 : Hid (GR (w6.setCell ⟨l, 4, none⟩ (.slice p6 n6 cap6)) Y4 l c g1 (stV g1.segs ++ [.int .i64 (N : Int)]) (reV (recsL g1.segs) ++ [.string d]) (.slice p5 n5 cap5) (.slice p6 n6 cap6)) := hp6
              have HO6 : Hid (Only Y4 w4 (w6.setCell ⟨l, 4, none⟩ (.slice p6 n6 cap6))) := HO5.out.trans (((Only.refl _ _).alloc _).trans ho6)
              clear hr6 hg6 hat6 hn6 hp6 ho6
              go_wp2
              refine bodyPost_ret (v := .tuple #[.int .i64 (N : Int), .int .i64 0]) (by simp [results, Tryz.results35, go_sem]) rfl ?_
              rw [HEE.out]
              have hat := HP6.out.is (g' := { g1 with segs := g.segs ++ [(N, [d.data.toList])] }) rfl rfl rfl (by rw [HQ.out, stV_new]) (by rw [HQ.out, reV_new])
              obtain ⟨r1, r2⟩ := HOW.out _ _ _ _ hat HLG.out HO6.out
              exact ⟨rfl, r1.is, HO4.out.trans r2⟩
            · have HE := HE1.out he
              have hne : ¬ (appR st1 (nameN N) (frm d.data.toList)).1 = 0 := he
              go_wp2
              refine bodyPost_ret (v := .tuple #[.int .i64 0, .int .i64 (appR st1 (nameN N) (frm d.data.toList)).1]) (by simp [results, Tryz.results35, go_sem]) rfl ?_
              rw [HE]
              exact ⟨rfl, HI4.out.is, HO4.out⟩
          · have HE : Hid (appendL st g d.data.toList = ((0, (syncL st g).1), (syncL st g).2.1, (syncL st g).2.2)) := appendL_sync HLo.out HF.out he8
            clear m3
            go_wp2
            refine bodyPost_ret (v := .tuple #[.int .i64 0, .int .i64 (syncL st g).1]) (by simp [results, Tryz.results35, go_sem]) rfl ?_
            rw [HE.out]
            exact ⟨rfl, hi8, HO1.out.trans ho8⟩
end Go.Proofs.YtckmjmpajbjbkaaGreatDoor
