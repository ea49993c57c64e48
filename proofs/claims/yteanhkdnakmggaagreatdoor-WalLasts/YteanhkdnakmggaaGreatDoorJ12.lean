/- Walks of layer 6, twelfth part: settle. -/
import Derived.Test.YteanhkdnakmggaaGreatDoorJ11
namespace Go.Proofs.YteanhkdnakmggaaGreatDoor
open Go.RowKit

theorem readR_len {st : St} (h : OKs st) (s : Nm) : (readR st s).1.length ≤ 1048576 := by
  unfold readR
  split
  · simp
  · split
    · simp
    · simp only [fileOf]
      cases hg : getL st.fs s with
      | none => simp
      | some x =>
        have h1 := h.files.len (getL_mem hg)
        have h2 := h.files.small
        simp only [Option.getD_some] at h1 ⊢
        omega
theorem settleR_nil (st : St) : settleR st [] = (0, st) := by simp [settleR]
theorem settleR_err {st : St} {l : List Sg} {n : Nm} {r : List UInt8 × Int} (hl : l ≠ []) (hn : nameN (lastL l).1 = n) (hr : readR st n = r) (h : r.2 ≠ 0) : settleR st l = (r.2, st) := by
  rw [settleR, if_neg hl, hn, hr, if_pos h]
theorem settleR_torn {st : St} {l : List Sg} {n : Nm} {r : List UInt8 × Int} (hl : l ≠ []) (hn : nameN (lastL l).1 = n) (hr : readR st n = r) (h : r.2 = 0) (ht : (cat (fr r.1)).length < r.1.length) : settleR st l = mendR st n (cat (fr r.1)) := by
  rw [settleR, if_neg hl, hn, hr, if_neg (by rw [h]; simp), if_pos ht]
theorem settleR_whole {st : St} {l : List Sg} {n : Nm} {r : List UInt8 × Int} (hl : l ≠ []) (hn : nameN (lastL l).1 = n) (hr : readR st n = r) (h : r.2 = 0) (ht : ¬ (cat (fr r.1)).length < r.1.length) : settleR st l = synR st n := by
  rw [settleR, if_neg hl, hn, hr, if_neg (by rw [h]; simp), if_neg ht]

set_option maxHeartbeats 8000000 in
set_option maxRecDepth 100000 in
theorem settle_any (B : Nat) (w : World) (X : Nat → Prop) (l a : Nat) (st : St) (g : Lg) (h : IsLog B w X l a st g) (hX : ∀ k, w.heap.size ≤ k → X k) (hst : st.steps < 4611686018427387000) :
    Calls Tryz.prog 48 #[.pointer (some ⟨l, 0, none⟩)] w fun e w' => e = .returned (.int .i64 (settleR st g.segs).1) ∧ IsLog B w' X l a (settleR st g.segs).2 g ∧ Only X w w' := by
  obtain ⟨p, cap, es, h⟩ := h
  have HI : Hid (IsLogE B w X l a st g p cap es) := h
  have HX : Hid (∀ k, w.heap.size ≤ k → X k) := hX
  obtain ⟨Y, hL⟩ := h.at
  obtain ⟨Z, hD⟩ := h.is_disk
  rcases List.eq_nil_or_concat es with rfl | ⟨A, x, rfl⟩
  · have c4 := hL.lc.c4
    have hs : g.segs = [] := hL.segs
    have HE : Hid (settleR st g.segs = (0, st)) := by
      have : settleR st g.segs = (0, st) := by rw [hs, settleR_nil]
      exact this
    simp only [List.length_nil] at c4
    clear h hX hL hD hs
    go_enter Tryz.func48, Tryz.ntmps48
    go_wp2
    go_ret
    rw [HE.out]
    exact ⟨rfl, HI.out.is, Only.refl _ _⟩
  · rw [List.concat_eq_append] at *
    have hne : g.segs ≠ [] := by rw [hL.next.2.2]; simp
    obtain ⟨hx1, hx2, hA⟩ := hL.lastok h.ok
    obtain ⟨b, rfl, _, _, _, d0, d1, _, c4⟩ := hL.last
    obtain ⟨q, c, eq, _⟩ := own_slice (hL.recs x (by simp))
    rw [eq] at d1
    have c0 := hL.lc.c0
    have hn : nameN (lastL g.segs).1 = nameN x.1 := by rw [hL.next.2.1]
    obtain ⟨r, hr⟩ : ∃ r, readR st (nameN x.1) = r := ⟨_, rfl⟩
    have HRL : Hid (r.1.length ≤ 1048576) := by
      have := readR_len h.dok (nameN x.1)
      rw [hr] at this
      exact this
    have HN : Hid (∀ w', Below w.heap.size w w' → SV0 w') := fun w' hb => (h.lib.later h.base hb).here
    have HD : Hid (IsDisk w Z a st) := hD
    have HR : Hid (readR st (nameN x.1) = r) := hr
    have HNE : Hid (g.segs ≠ []) := hne
    have HNM : Hid (nameN (lastL g.segs).1 = nameN x.1) := hn
    have hl0 : ¬ ((A.length + 1 : Nat) : Int) = 0 := by omega
    have hl1 : ¬ ((A.length : Int) + 1) = 0 := by omega
    clear h hX hL hD eq hr hn hne
    go_enter Tryz.func48, Tryz.ntmps48
    go_wp2_with (first
      | (go_at_call 54; refine (last_any _ l b A.length cap c4 hA).mono ?_; rintro e w1 ⟨rfl, hb1⟩; (have k0 := cell_later hb1 c0); (have k5 := cell_later hb1 d0); (have k6 := cell_later hb1 d1); (have HB1 : Hid (Below w.heap.size w w1) := hb1); clear hb1)
      | (go_at_call 55; refine (name_any x.1 x.2.1.length c q _ (HN.out _ HB1.out) hx1).mono ?_; rintro e w2 ⟨rfl, hb2⟩; (have m0 := cell_later hb2 k0); (have HB2 : Hid (Below w.heap.size w w2) := HB1.out.trans (hb2.mono HB1.out.size)); clear hb2))
    refine (read_any _ Z a st ⟨(nameN x.1).toArray⟩ (HD.out.later HB2.out)).mono ?_
    rintro e w3 ⟨rfl, hb3⟩
    simp only [HR.out]
    have n0 := cell_later hb3 m0
    have HB3 : Hid (Below w.heap.size w w3) := HB2.out.trans (hb3.mono HB2.out.size)
    clear hb3
    by_cases he : r.2 = 0
    · have HE : Hid (r.2 = 0) := he
      obtain ⟨s, hs⟩ : ∃ s : ByteArray, s = ⟨r.1.toArray⟩ := ⟨_, rfl⟩
      have HS : Hid (s.data.toList = r.1) := by
        have : s.data.toList = r.1 := by rw [hs]
        exact this
      have hsz : s.size ≤ 1048576 := by
        have : s.size = r.1.length := by rw [hs]; simp [ByteArray.size]
        have := HRL.out
        omega
      have HSZ : Hid (s.size = r.1.length) := by
        have : s.size = r.1.length := by rw [hs]; simp [ByteArray.size]
        exact this
      rw [← hs, he]
      clear he hs
      go_wp2_with fail
      refine (all_any s _ (by omega)).mono ?_
      rintro e w4 ⟨v4, ds, n4, rfl, hall, hv4, hb4⟩
      have hall2 : AllIs r.1 ds n4 := by rw [← HS.out]; exact hall
      have HN4 : Hid (n4 = (cat (fr r.1)).length) := hall2.fr.2
      have q0 := cell_later hb4 n0
      have HB4 : Hid (Below w.heap.size w w4) := HB3.out.trans (hb4.mono HB3.out.size)
      have z4 := HB4.out.size
      clear hall hall2 hv4 hb4
      by_cases ht : n4 < s.size
      · have HST : Hid (settleR st g.segs = mendR st (nameN x.1) (cat (fr r.1))) := settleR_torn HNE.out HNM.out HR.out HE.out (by rw [← HN4.out, ← HSZ.out]; exact ht)
        have hti : (n4 : Int) < (s.size : Int) := by omega
        have hle : n4 ≤ s.size := by omega
        have HFR : Hid ((s.extract 0 n4).data.toList = cat (fr r.1)) := by
          have : (s.extract 0 n4).data.toList = cat (fr r.1) := by
            rw [extract_list, HS.out, List.drop_zero, Nat.sub_zero, HN4.out, fr_front]
          exact this
        go_wp2_with fail
        refine (mend_any B _ X l a st g (HI.out.later HB4.out).is (fun k hk => HX.out k (by omega)) hst ⟨(nameN x.1).toArray⟩ (s.extract 0 n4)).mono ?_
        rintro e w5 ⟨rfl, hi5, ho5⟩
        simp only [HFR.out] at hi5 ⊢
        go_wp2
        go_ret
        rw [HST.out]
        exact ⟨rfl, hi5, (Only.of HB4.out).trans ho5⟩
      · have HST : Hid (settleR st g.segs = synR st (nameN x.1)) := settleR_whole HNE.out HNM.out HR.out HE.out (by rw [← HN4.out, ← HSZ.out]; exact ht)
        have hti : ¬ (n4 : Int) < (s.size : Int) := by omega
        go_wp2_with fail
        refine (dsync_any (HI.out.later HB4.out) (fun k hk => HX.out k (by omega)) (by omega) ⟨(nameN x.1).toArray⟩).mono ?_
        rintro e w5 ⟨rfl, hi5, ho5⟩
        simp only at hi5 ⊢
        go_wp2
        go_ret
        rw [HST.out]
        exact ⟨rfl, hi5.is, (Only.of HB4.out).trans ho5⟩
    · have HST : Hid (settleR st g.segs = (r.2, st)) := settleR_err HNE.out HNM.out HR.out he
      go_wp2
      go_ret
      rw [HST.out]
      exact ⟨rfl, (HI.out.later HB3.out).is, Only.of HB3.out⟩
end Go.Proofs.YteanhkdnakmggaaGreatDoor
