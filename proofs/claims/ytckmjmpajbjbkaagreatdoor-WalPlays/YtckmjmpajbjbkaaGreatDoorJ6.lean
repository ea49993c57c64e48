/- Walks of layer 6, sixth part: Append. -/
import Derived.Test.YtckmjmpajbjbkaaGreatDoorJ5
namespace Go.Proofs.YtckmjmpajbjbkaaGreatDoor
open Go.RowKit

theorem appendL_long {st : St} {g : Lg} {d : List UInt8} (h : 4096 < d.length ∨ 1000000000000 ≤ g.next) : appendL st g d = ((0, 2), st, g) := by simp [appendL, h]
theorem appendL_sync {st : St} {g : Lg} {d : List UInt8} (h : ¬ (4096 < d.length ∨ 1000000000000 ≤ g.next)) (hf : g.full = true) (hs : (syncL st g).1 ≠ 0) : appendL st g d = ((0, (syncL st g).1), (syncL st g).2.1, (syncL st g).2.2) := by rw [appendL, if_neg h, if_pos hf, if_pos hs]
theorem appendL_new0 {st : St} {g : Lg} {d : List UInt8} (h : ¬ (4096 < d.length ∨ 1000000000000 ≤ g.next)) (hf : g.full = true) (hs : (syncL st g).1 = 0) (ha : (appR (syncL st g).2.1 (nameN g.next) (frm d)).1 ≠ 0) : appendL st g d = ((0, (appR (syncL st g).2.1 (nameN g.next) (frm d)).1), (appR (syncL st g).2.1 (nameN g.next) (frm d)).2, (syncL st g).2.2) := by rw [appendL, if_neg h, if_pos hf, if_neg (by rw [hs]; simp), if_pos ha]
theorem appendL_new {st : St} {g : Lg} {d : List UInt8} (h : ¬ (4096 < d.length ∨ 1000000000000 ≤ g.next)) (hf : g.full = true) (hs : (syncL st g).1 = 0) (ha : (appR (syncL st g).2.1 (nameN g.next) (frm d)).1 = 0) : appendL st g d = (((g.next : Int), 0), (appR (syncL st g).2.1 (nameN g.next) (frm d)).2, { (syncL st g).2.2 with segs := g.segs ++ [(g.next, [d])] }) := by rw [appendL, if_neg h, if_pos hf, if_neg (by rw [hs]; simp), if_neg (by rw [ha]; simp)]
theorem appendL_old0 {st : St} {g : Lg} {d : List UInt8} (h : ¬ (4096 < d.length ∨ 1000000000000 ≤ g.next)) (hf : g.full = false) (ha : (appR st (nameN (lastL g.segs).1) (frm d)).1 ≠ 0) : appendL st g d = ((0, (appR st (nameN (lastL g.segs).1) (frm d)).1), (appR st (nameN (lastL g.segs).1) (frm d)).2, g) := by rw [appendL, if_neg h, if_neg (by rw [hf]; simp), if_pos ha]
theorem appendL_old {st : St} {g : Lg} {d : List UInt8} (h : ¬ (4096 < d.length ∨ 1000000000000 ≤ g.next)) (hf : g.full = false) (ha : (appR st (nameN (lastL g.segs).1) (frm d)).1 = 0) : appendL st g d = (((g.next : Int), 0), (appR st (nameN (lastL g.segs).1) (frm d)).2, { g with segs := putS g.segs d }) := by rw [appendL, if_neg h, if_neg (by rw [hf]; simp), if_neg (by rw [ha]; simp)]
theorem syncL_steps (st : St) (g : Lg) : (syncL st g).2.1.steps ≤ st.steps + 1 := by
  unfold syncL
  split
  · exact Nat.le_succ _
  · split <;> exact stepR_steps _ _ _
theorem Opened.from {B : Nat} {w w0 W : World} {X : Nat → Prop} {l a : Nat} {st : St} {g : Lg} {p : Option Addr} {cap : Nat} {es : List Ent} (h : Opened B w0 W X l a st g p cap es) (ho : Only X w w0) : Opened B w W X l a st g p cap es := by
  obtain ⟨Y, h1, h2, h4, h5, h3⟩ := h
  refine ⟨Y, h1, h2, h4, ho.trans h5, fun w1 g' p' cap' es' k1 k2 k3 => ?_⟩
  obtain ⟨r1, r2⟩ := h3 w1 g' p' cap' es' k1 k2 k3
  exact ⟨r1, ho.trans r2⟩
def appV (r : (Int × Int) × St × Lg) : Value := .tuple #[.int .i64 r.1.1, .int .i64 r.1.2]
def AppP (B : Nat) (w : World) (X : Nat → Prop) (l a : Nat) (r : (Int × Int) × St × Lg) (e : Ending) (w' : World) : Prop := e = .returned (appV r) ∧ IsLog B w' X l a r.2.1 r.2.2 ∧ Only X w w'

set_option maxHeartbeats 8000000 in
set_option maxRecDepth 100000 in
theorem lappend_any (B : Nat) (w : World) (X : Nat → Prop) (l a : Nat) (st : St) (g : Lg) (h : IsLog B w X l a st g) (hne : g.segs = [] → g.safe = g.next) (hX : ∀ k, w.heap.size ≤ k → X k) (hst : st.steps < 4611686018427387000) (d : ByteArray) (hd : d.size ≤ 1099511627776) :
    Calls Tryz.prog 19 #[.pointer (some ⟨l, 0, none⟩), .string d] w (AppP B w X l a (appendL st g d.data.toList)) := by
  obtain ⟨i0, hi, hz0, hz1, hz2⟩ := info_parts Tryz.info9
  obtain ⟨p, cap, es, h⟩ := h
  have HI : Hid (IsLogE B w X l a st g p cap es) := h
  have HX : Hid (∀ k, w.heap.size ≤ k → X k) := hX
  have HNE : Hid (g.segs = [] → g.safe = g.next) := hne
  obtain ⟨Y, hL⟩ := h.at
  have HG : Hid (LgW g) := h.ok
  have HL : Hid (LogAt w Y l a g p cap es) := hL
  have hdl : d.data.toList.length = d.size := by simp
  have HN : Hid (∀ w', Below w.heap.size w w' → SV0 w') := fun w' hb => (h.lib.later h.base hb).here
  clear h hX hL hne
  by_cases hlong : 4096 < d.size ∨ 1000000000000 ≤ g.next
  · have HE : Hid (appendL st g d.data.toList = ((0, 2), st, g)) := appendL_long (by rw [hdl]; exact hlong)
    clear hdl
    by_cases h1 : 4096 < d.size
    · have hw : wrE d = 2 := by simp [wrE]; omega
      have HW : Hid (wrE d = 2) := hw
      clear hw hlong h1
      go_enter Tryz.func19, Tryz.ntmps19
      go_wp2_with (first
        | (go_at_call 20; refine (next_any _ Y l a g p cap es HL.out HG.out).mono ?_; rintro e w1 ⟨rfl, hb1⟩)
        | (go_at_call 51; refine (wrap_any d _ hd).mono ?_; rintro e w2 ⟨rfl, hb2⟩; rw [HW.out]))
      refine bodyPost_ret (v := .tuple #[.int .i64 0, .int .i64 2]) (by simp [results, Tryz.results19, go_sem]) rfl ?_
      have hb := hb1.trans (hb2.mono hb1.size)
      rw [HE.out]
      exact ⟨rfl, (HI.out.later hb).is, Only.of hb⟩
    · have h2 : (1000000000000 : Int) ≤ (g.next : Int) := by omega
      have HW : Hid (wrE d = 0) := by
        have : wrE d = 0 := by simp [wrE]; omega
        exact this
      clear hlong h1
      go_enter Tryz.func19, Tryz.ntmps19
      go_wp2_with (first
        | (go_at_call 20; refine (next_any _ Y l a g p cap es HL.out HG.out).mono ?_; rintro e w1 ⟨rfl, hb1⟩)
        | (go_at_call 51; refine (wrap_any d _ hd).mono ?_; rintro e w2 ⟨rfl, hb2⟩; rw [HW.out]))
      refine bodyPost_ret (v := .tuple #[.int .i64 0, .int .i64 2]) (by simp [results, Tryz.results19, go_sem]) rfl ?_
      have hb := hb1.trans (hb2.mono hb1.size)
      rw [HE.out]
      exact ⟨rfl, (HI.out.later hb).is, Only.of hb⟩
  · have HLo : Hid (¬ (4096 < d.data.toList.length ∨ 1000000000000 ≤ g.next)) := by rw [hdl]; exact hlong
    have HW : Hid (wrE d = 0 ∧ (wrS d).data.toList = frm d.data.toList) := by
      refine ⟨?_, ?_⟩
      · simp [wrE]; omega
      · simp only [wrS]
        rw [if_pos (by omega)]
    obtain ⟨N, hN⟩ : ∃ N, g.next = N := ⟨_, rfl⟩
    have hni : decide ((1000000000000 : Int) ≤ (N : Int)) = false := decide_eq_false (by omega)
    have HNx : Hid (g.next = N) := hN
    have HNN : Hid (g.next < 1000000000000) := by
      have : g.next < 1000000000000 := by omega
      exact this
    have HD4 : Hid (d.size ≤ 4096) := by
      have : d.size ≤ 4096 := by omega
      exact this
    clear hlong hdl hN
    cases hf : g.full with
    | false =>
      have HF : Hid (g.full = false) := hf
      rcases List.eq_nil_or_concat es with rfl | ⟨A, x, rfl⟩
      · have e := HL.out.segs
        rw [Lg.full, e] at hf
        simp at hf
      rw [List.concat_eq_append] at *
      obtain ⟨hx1, hx2, hA⟩ := HL.out.lastok HG.out
      obtain ⟨b, rfl, _, _, _, d0, d1, _, c4⟩ := HL.out.last
      obtain ⟨q0, c0, eq, _⟩ := own_slice (HL.out.recs x (by simp))
      have HQ0 : Hid (x.2.2 = .slice q0 x.2.1.length c0) := eq
      have hlast : lastL g.segs = (x.1, x.2.1) := HL.out.next.2.1
      rw [eq] at d1
      have b0 := HL.out.lc.c0
      have HE0 : Hid (∀ (h' : (appR st (nameN x.1) (frm d.data.toList)).1 ≠ 0), appendL st g d.data.toList = ((0, (appR st (nameN x.1) (frm d.data.toList)).1), (appR st (nameN x.1) (frm d.data.toList)).2, g)) := fun h' => by
        have := appendL_old0 HLo.out hf (by rw [hlast]; exact h')
        rw [hlast] at this
        exact this
      have HE1 : Hid (∀ (h' : (appR st (nameN x.1) (frm d.data.toList)).1 = 0), appendL st g d.data.toList = (((g.next : Int), 0), (appR st (nameN x.1) (frm d.data.toList)).2, { g with segs := putS g.segs d.data.toList })) := fun h' => by
        have := appendL_old HLo.out hf (by rw [hlast]; exact h')
        rw [hlast] at this
        exact this
      clear eq hlast hf
      go_enter Tryz.func19, Tryz.ntmps19
      go_wp2_with fail
      refine (next_any _ Y l a g _ cap _ HL.out HG.out).mono ?_
      rintro e w1 ⟨rfl, hb1⟩
      rw [HNx.out]
      have HB1 : Hid (Below w.heap.size w w1) := hb1
      clear hb1
      go_wp2_with fail
      refine (wrap_any d _ hd).mono ?_
      rintro e w2 ⟨rfl, hb2⟩
      rw [HW.out.1]
      have HB2 : Hid (Below w.heap.size w w2) := HB1.out.trans (hb2.mono HB1.out.size)
      clear hb2
      go_wp2_with (first | (go_at_call 52; refine (full_any _ Y l a g _ cap _ (HL.out.later HB2.out) HG.out).mono ?_; rintro e w3 ⟨rfl, hb3⟩; rw [HF.out]; (have HB3 : Hid (Below w.heap.size w w3) := HB2.out.trans (hb3.mono HB2.out.size)); clear hb3))
      have k0 := cell_later HB3.out b0
      have k4 := cell_later HB3.out c4
      have k5 := cell_later HB3.out d0
      have k6 := cell_later HB3.out d1
      clear b0 c4 d0 d1
      go_region_held3 (fun w' => w'.cell? ⟨l, 0, none⟩ = some (.pointer (some ⟨a, 0, none⟩)) ∧ w'.cell? ⟨b, A.length * 2, none⟩ = some (.int .i64 (x.1 : Int)) ∧ w'.cell? ⟨b, A.length * 2 + 1, none⟩ = some (.slice q0 x.2.1.length c0)) (go_simp) (first
        | (go_at_call 54; refine (last_any _ l b A.length cap (by exact k4) hA).mono ?_; rintro e w4 ⟨rfl, hb4⟩; (have m0 := cell_later hb4 k0); (have m5 := cell_later hb4 k5); (have m6 := cell_later hb4 k6); (have HB4 : Hid (Below w.heap.size w w4) := HB3.out.trans ((from_drew hb4).mono HB3.out.size)); clear hb4)
        | (go_at_call 55; refine (name_any x.1 x.2.1.length c0 q0 _ (HN.out _ HB4.out) hx1).mono ?_; rintro e w9 ⟨rfl, hb9⟩; (have n0 := cell_later hb9 m0); (have n5 := cell_later hb9 m5); (have n6 := cell_later hb9 m6); (have HB9 : Hid (Below w.heap.size w w9) := HB4.out.trans (hb9.mono HB4.out.size)); clear hb9)
        | (go_at_call 53; refine (dappend_later HI.out HX.out HB9.out (by omega) ⟨(nameN x.1).toArray⟩ (wrS d)).mono ?_; rintro e w5 ⟨rfl, hi5, ho5, _⟩; simp only [HW.out.2] at hi5 ⊢; (have HI5 : Hid (IsLogE B w5 X l a (appR st (nameN x.1) (frm d.data.toList)).2 g (some ⟨b, 0, none⟩) cap (A ++ [x])) := hi5); (obtain ⟨Y4, hL4⟩ := hi5.at); (have q0 := hL4.lc.c0); (obtain ⟨b', eb, _, _, _, q5, q6, _⟩ := hL4.last); (obtain rfl : b = b' := by simpa using eb); rw [HQ0.out] at q6; clear hi5 hL4))
      all_goals
        have HO5 : Hid (Only X w w5) := ho5
        have hs5 := ho5.size
        clear ho5 k0 k4 k5 k6 m0 m5 m6 n0 n5 n6 q0 q5 q6 eb
        by_cases he : (appR st (nameN x.1) (frm d.data.toList)).1 = 0
        · have HE := HE1.out he
          have HEE : Hid (appendL st g d.data.toList = (((g.next : Int), 0), (appR st (nameN x.1) (frm d.data.toList)).2, { g with segs := putS g.segs d.data.toList })) := HE
          have HOP : Hid (Opened B w w5 X l a (appR st (nameN x.1) (frm d.data.toList)).2 g (some ⟨b, 0, none⟩) cap (A ++ [x])) := HI5.out.opened (fun k hk => HX.out k (by omega)) HO5.out
          rw [he]
          clear HE he
          have hlt6 := HOP.out.only.size
          obtain ⟨Y5, hL5, hY5, _, hcl⟩ := HOP.out.step
          have HL5 : Hid (LogAt w5 Y5 l a g (some ⟨b, 0, none⟩) cap (A ++ [x])) := hL5
          have HY5 : Hid (∀ k, w5.heap.size ≤ k → Y5 k) := hY5
          have HCL : Hid (∀ w1 g' p' cap' es', LogAt w1 Y5 l a g' p' cap' es' → LgW g' → Only Y5 w5 w1 → IsLogE B w1 X l a (appR st (nameN x.1) (frm d.data.toList)).2 g' p' cap' es' ∧ Only X w w1) := hcl
          obtain ⟨b', eb, _, _, _, d0, d1, _, c4⟩ := hL5.last
          obtain rfl : b = b' := by simpa using eb
          have hrow := hL5.recs x (by simp)
          obtain ⟨q, c, eq, _⟩ := own_slice hrow
          have HQ : Hid (x.2.2 = .slice q x.2.1.length c) := eq
          rw [eq] at d1 hrow
          have HR : Hid (w5.ownsRow 0 9 1 (.slice q x.2.1.length c) x.2.1.length (sv x.2.1)) := hrow
          clear hL5 hY5 hcl eb eq hrow d0
          go_wp2_with (first | (go_at_call 54; refine (last_any _ l b A.length cap c4 hA).mono ?_; rintro e w6 ⟨rfl, hb6⟩; (have e1 := cell_later hb6 d1); (have HB6 : Hid (Below w5.heap.size w5 w6) := hb6); clear hb6))
          go_region_law (first
            | (go_simp; go_at_call 57; refine (clone_any d _ (by omega)).mono ?_; rintro e w7 ⟨rfl, hb7⟩; dsimp only; (have e2 := cell_later hb7 e1); (have e3 := cell_later ((Below.refl w7.heap.size w7).alloc (Nat.le_refl _) (.cells #[.string d] 9)) e2); (have HB7 : Hid (Below w5.heap.size w5 w7) := HB6.out.trans ((from_drew hb7).mono HB6.out.size)); clear hb7)
            | (refine step_append_lies _ rfl _ _ 44 rfl 0 9 i0 _ 1 16 Tryz.underlying44 hi hz0 hz1 hz2 rfl (by decide) (.slice q x.2.1.length c) x.2.1.length (sv x.2.1) rfl ((own_later HR.out HB7.out).alloc _) ⟨w7.heap.size, 0, none⟩ 1 1 (sv [d.data.toList]) rfl rfl (str1 _ d d.data.toList _ rfl) (sv_one _) (by decide) (by unfold maxLen; omega) (by omega) (Nat.zero_le _) _ rfl ?_; intro g' cap' w8 hown' hgrow hor hlt8; (have HGR : Hid ((w7.alloc (.cells #[.string d] 9)).grownBy w8 x.2.2.ownBlock) := by rw [HQ.out]; exact hgrow); (have s4 := (HL5.out.seg_kept (HB7.out.alloc HB7.out.size _) HGR.out).1); (have sf := (HL5.out.seg_kept (HB7.out.alloc HB7.out.size _) HGR.out).2); clear hgrow))
          all_goals
            go_wp2
            refine bodyPost_ret (v := .tuple #[.int .i64 (N : Int), .int .i64 0]) (by simp [results, Tryz.results19, go_sem]) rfl ?_
            rw [← sv_append] at hown'
            obtain ⟨r1, r2⟩ := HL5.out.pushed HY5.out (HB7.out.alloc HB7.out.size _) HGR.out rfl hown' (fun k hk => by
              obtain rfl : g' = k := by simpa [Value.ownBlock] using hk
              rcases hor with hor | hor
              · exact Or.inl (by rw [HQ.out]; exact hor)
              · right
                rw [hor]
                simp)
            obtain ⟨r3, r4⟩ := HCL.out _ _ _ _ _ r1 (HG.out.put HL.out.next.2.2 (by simpa using HD4.out) HNN.out) r2
            rw [HEE.out]
            exact ⟨by rw [HNx.out]; rfl, r3.is, r4⟩
        · have HE := HE0.out he
          go_wp2
          refine bodyPost_ret (v := .tuple #[.int .i64 0, .int .i64 (appR st (nameN x.1) (frm d.data.toList)).1]) (by simp [results, Tryz.results19, go_sem]) rfl ?_
          rw [HE]
          exact ⟨rfl, HI5.out.is, HO5.out⟩
    | true =>
      have HF : Hid (g.full = true) := hf
      have hsq := syncL_segs st g
      have HE0 : Hid (∀ (h' : (syncL st g).1 ≠ 0), appendL st g d.data.toList = ((0, (syncL st g).1), (syncL st g).2.1, (syncL st g).2.2)) := fun h' => appendL_sync HLo.out hf h'
      have HE1 : Hid (∀ (h' : (syncL st g).1 = 0) (h2 : (appR (syncL st g).2.1 (nameN N) (frm d.data.toList)).1 ≠ 0), appendL st g d.data.toList = ((0, (appR (syncL st g).2.1 (nameN N) (frm d.data.toList)).1), (appR (syncL st g).2.1 (nameN N) (frm d.data.toList)).2, (syncL st g).2.2)) := fun h' h2 => by
        have := appendL_new0 HLo.out hf h' (by rw [HNx.out]; exact h2)
        rw [HNx.out] at this
        exact this
      have HE2 : Hid (∀ (h' : (syncL st g).1 = 0) (h2 : (appR (syncL st g).2.1 (nameN N) (frm d.data.toList)).1 = 0), appendL st g d.data.toList = (((N : Int), 0), (appR (syncL st g).2.1 (nameN N) (frm d.data.toList)).2, { (syncL st g).2.2 with segs := g.segs ++ [(N, [d.data.toList])] })) := fun h' h2 => by
        have := appendL_new HLo.out hf h' (by rw [HNx.out]; exact h2)
        rw [HNx.out] at this
        exact this
      have HSQ : Hid ((syncL st g).2.2.segs = g.segs ∧ (syncL st g).2.2.size = g.size ∧ (syncL st g).2.2.frm = g.frm) := hsq
      have HST : Hid ((syncL st g).2.1.steps < 4611686018427387904) := by
        have := syncL_steps st g
        have h2 : (syncL st g).2.1.steps < 4611686018427387904 := by omega
        exact h2
      clear hf hsq
      go_enter Tryz.func19, Tryz.ntmps19
      go_wp2_with fail
      refine (next_any _ Y l a g _ cap _ HL.out HG.out).mono ?_
      rintro e w1 ⟨rfl, hb1⟩
      rw [HNx.out]
      have HB1 : Hid (Below w.heap.size w w1) := hb1
      clear hb1
      go_wp2_with fail
      refine (wrap_any d _ hd).mono ?_
      rintro e w2 ⟨rfl, hb2⟩
      rw [HW.out.1]
      have HB2 : Hid (Below w.heap.size w w2) := HB1.out.trans (hb2.mono HB1.out.size)
      clear hb2
      go_wp2_with (first
        | (go_at_call 52; refine (full_any _ Y l a g _ cap _ (HL.out.later HB2.out) HG.out).mono ?_; rintro e w3 ⟨rfl, hb3⟩; rw [HF.out]; (have HB3 : Hid (Below w.heap.size w w3) := HB2.out.trans (hb3.mono HB2.out.size)); clear hb3)
)
      refine (lsync_any B _ X l a st g (HI.out.later HB3.out).is HNE.out (fun k hk => HX.out k (Nat.le_trans HB3.out.size hk)) (by omega)).mono ?_
      rintro e w4 ⟨rfl, hi4, ho4⟩
      have HI4 : Hid (IsLog B w4 X l a (syncL st g).2.1 (syncL st g).2.2) := hi4
      have HO4 : Hid (Only X w w4) := (Only.of HB3.out).trans ho4
      clear hi4 ho4
      by_cases hs : (syncL st g).1 = 0
      · obtain ⟨p1, cap1, A, hE4⟩ := HI4.out
        have HE4 : Hid (IsLogE B w4 X l a (syncL st g).2.1 (syncL st g).2.2 p1 cap1 A) := hE4
        obtain ⟨Y4, hL4⟩ := hE4.at
        have hA : A.length ≤ 10000000000000 := by have := hL4.many hE4.ok; omega
        have HS : Hid ((syncL st g).1 = 0) := hs
        have hs4 := HO4.out.size
        rw [hs]
        clear hE4 hL4 hs
        go_wp2_with fail
        refine (begin_any B _ X l a _ _ p1 cap1 A HE4.out (fun k hk => HX.out k (by omega)) HST.out N (HNx.out ▸ HNN.out) (wrS d)).mono ?_
        rintro e w5 ⟨rfl, ho5, hn5, hy5⟩
        simp only [HW.out.2] at hn5 hy5 ⊢
        have HO5 : Hid (Only X w w5) := HO4.out.trans ho5
        have HN5 : Hid ((appR (syncL st g).2.1 (nameN N) (frm d.data.toList)).1 ≠ 0 → IsLog B w5 X l a (appR (syncL st g).2.1 (nameN N) (frm d.data.toList)).2 (syncL st g).2.2) := hn5
        have HY5' : Hid ((appR (syncL st g).2.1 (nameN N) (frm d.data.toList)).1 = 0 → ∃ b cap', Opened B w4 w5 X l a (appR (syncL st g).2.1 (nameN N) (frm d.data.toList)).2 { (syncL st g).2.2 with segs := (syncL st g).2.2.segs ++ [(N, [])] } (some ⟨b, 0, none⟩) cap' (A ++ [(N, [], .slice none 0 0)])) := hy5
        clear ho5 hn5 hy5
        by_cases he : (appR (syncL st g).2.1 (nameN N) (frm d.data.toList)).1 = 0
        · have HEE : Hid (appendL st g d.data.toList = (((N : Int), 0), (appR (syncL st g).2.1 (nameN N) (frm d.data.toList)).2, { (syncL st g).2.2 with segs := g.segs ++ [(N, [d.data.toList])] })) := HE2.out HS.out he
          obtain ⟨b, cap5, hop⟩ := HY5'.out he
          obtain ⟨x, hx⟩ : ∃ x : Ent, x = (N, [], .slice none 0 0) := ⟨_, rfl⟩
          have HXX : Hid (x = (N, [], .slice none 0 0)) := hx
          have hx2 : x.2.1.length ≤ 1000000000000 := by rw [hx]; simp
          rw [← hx] at hop
          have HOP : Hid (Opened B w w5 X l a (appR (syncL st g).2.1 (nameN N) (frm d.data.toList)).2 { (syncL st g).2.2 with segs := (syncL st g).2.2.segs ++ [(N, [])] } (some ⟨b, 0, none⟩) cap5 (A ++ [x])) := hop.from HO4.out
          rw [he]
          clear he hop hx
          obtain ⟨Y5, hL5, hY5, _, hcl⟩ := HOP.out.step
          have HL5 : Hid (LogAt w5 Y5 l a { (syncL st g).2.2 with segs := (syncL st g).2.2.segs ++ [(N, [])] } (some ⟨b, 0, none⟩) cap5 (A ++ [x])) := hL5
          have HY5 : Hid (∀ k, w5.heap.size ≤ k → Y5 k) := hY5
          have HCL : Hid (∀ w1 g' p' cap' es', LogAt w1 Y5 l a g' p' cap' es' → LgW g' → Only Y5 w5 w1 → IsLogE B w1 X l a (appR (syncL st g).2.1 (nameN N) (frm d.data.toList)).2 g' p' cap' es' ∧ Only X w w1) := hcl
          obtain ⟨b', eb, _, _, _, d0, d1, _, c4⟩ := hL5.last
          obtain rfl : b = b' := by simpa using eb
          have hrow := hL5.recs x (by simp)
          obtain ⟨q, c, eq, _⟩ := own_slice hrow
          have HQ : Hid (x.2.2 = .slice q x.2.1.length c) := eq
          rw [eq] at d1 hrow
          have HR : Hid (w5.ownsRow 0 9 1 (.slice q x.2.1.length c) x.2.1.length (sv x.2.1)) := hrow
          clear hL5 hY5 hcl eb eq hrow d0
          go_wp2_with (first | (go_at_call 54; refine (last_any _ l b A.length cap5 c4 hA).mono ?_; rintro e w6 ⟨rfl, hb6⟩; (have e1 := cell_later hb6 d1); (have HB6 : Hid (Below w5.heap.size w5 w6) := hb6); clear hb6))
          go_region_law (first
            | (go_simp; go_at_call 57; refine (clone_any d _ (by omega)).mono ?_; rintro e w7 ⟨rfl, hb7⟩; dsimp only; (have e2 := cell_later hb7 e1); (have e3 := cell_later ((Below.refl w7.heap.size w7).alloc (Nat.le_refl _) (.cells #[.string d] 9)) e2); (have HB7 : Hid (Below w5.heap.size w5 w7) := HB6.out.trans ((from_drew hb7).mono HB6.out.size)); clear hb7)
            | (refine step_append_lies _ rfl _ _ 44 rfl 0 9 i0 _ 1 16 Tryz.underlying44 hi hz0 hz1 hz2 rfl (by decide) (.slice q x.2.1.length c) x.2.1.length (sv x.2.1) rfl ((own_later HR.out HB7.out).alloc _) ⟨w7.heap.size, 0, none⟩ 1 1 (sv [d.data.toList]) rfl rfl (str1 _ d d.data.toList _ rfl) (sv_one _) (by decide) (by unfold maxLen; omega) (by omega) (Nat.zero_le _) _ rfl ?_; intro g' cap' w8 hown' hgrow hor hlt8; (have HGR : Hid ((w7.alloc (.cells #[.string d] 9)).grownBy w8 x.2.2.ownBlock) := by rw [HQ.out]; exact hgrow); (have s4 := (HL5.out.seg_kept (HB7.out.alloc HB7.out.size _) HGR.out).1); (have sf := (HL5.out.seg_kept (HB7.out.alloc HB7.out.size _) HGR.out).2); clear hgrow))
          all_goals
            go_wp2
            refine bodyPost_ret (v := .tuple #[.int .i64 (N : Int), .int .i64 0]) (by simp [results, Tryz.results19, go_sem]) rfl ?_
            rw [← sv_append] at hown'
            obtain ⟨r1, r2⟩ := HL5.out.pushed HY5.out (HB7.out.alloc HB7.out.size _) HGR.out rfl hown' (fun k hk => by
              obtain rfl : g' = k := by simpa [Value.ownBlock] using hk
              rcases hor with hor | hor
              · exact Or.inl (by rw [HQ.out]; exact hor)
              · right
                rw [hor]
                simp)
            have eg : { { (syncL st g).2.2 with segs := (syncL st g).2.2.segs ++ [(N, [])] } with segs := putS ((syncL st g).2.2.segs ++ [(N, [])]) d.data.toList } = { (syncL st g).2.2 with segs := g.segs ++ [(N, [d.data.toList])] } := by rw [putS_snoc, HSQ.out.1]; rfl
            have hok : LgW { (syncL st g).2.2 with segs := g.segs ++ [(N, [d.data.toList])] } := by
              have hnx : (syncL st g).2.2.next = N := by unfold Lg.next; rw [HSQ.out.1, HSQ.out.2.2]; exact HNx.out
              have := (HG.out.sync (st := st)).one (d := d.data.toList) (by simpa using HD4.out) (by rw [hnx]; exact HNx.out ▸ HNN.out)
              rw [hnx, HSQ.out.1] at this
              exact this
            obtain ⟨r3, r4⟩ := HCL.out _ _ _ _ _ r1 (by rw [eg]; exact hok) r2
            rw [eg] at r3
            rw [HEE.out]
            exact ⟨rfl, r3.is, r4⟩
        · have HE := HE1.out HS.out he
          go_wp2
          refine bodyPost_ret (v := .tuple #[.int .i64 0, .int .i64 (appR (syncL st g).2.1 (nameN N) (frm d.data.toList)).1]) (by simp [results, Tryz.results19, go_sem]) rfl ?_
          exact ⟨rfl, HN5.out he, HO5.out⟩
      · have HE := HE0.out hs
        go_wp2
        refine bodyPost_ret (v := .tuple #[.int .i64 0, .int .i64 (syncL st g).1]) (by simp [results, Tryz.results19, go_sem]) rfl ?_
        rw [HE]
        exact ⟨rfl, HI4.out, HO4.out⟩
end Go.Proofs.YtckmjmpajbjbkaaGreatDoor
