/- Walks of layer 4, fifteenth part: DiskAtomic. -/
import Derived.Test.YtmmejcmajpljaaaD14
import Derived.Test.YtmmejcmajpljaaaM45
namespace Go.Proofs.Ytmmejcmajpljaaa
open Go.RowKit

theorem frow1 (w : World) (x y : ByteArray) (k : Int) (t : TypeId) : FRow (w.alloc (.cells #[.string x, .string y, .int .i64 k] t)) (some ⟨w.heap.size, 0, none⟩) [(x, y, k)] := fun i hi => by
  have e : i = 0 := by simp at hi; omega
  subst e
  exact ⟨w.heap.size, 0, rfl, by simp, by simp, by simp⟩
theorem ints_low {w w' : World} {p : Option Addr} {ks : List Int} {B : Nat} (h : Ints w p ks) (hB : w.heap.size ≤ B) (hb : Below B w w') : Ints w' p ks := fun i hi => by
  obtain ⟨b, off, e, hc⟩ := h i hi
  exact ⟨b, off, e, cell_at (hb.block b (Nat.lt_of_lt_of_le (World.block_lt_of_cell? _ _ hc) hB)) hc⟩

/-- Where the rest of DiskAtomic stands: what was answered, and what a crash leaves of the file a. -/
theorem str_eq (x : List UInt8) (s : ByteArray) (h : s.data.toList = x) : (⟨x.toArray⟩ : ByteArray) = s := by
  subst h
  simp

set_option maxHeartbeats 8000000 in
set_option maxRecDepth 100000 in
theorem atomic_law (o f : ByteArray) (fall : Int) (kp : Option Addr) (kc : Nat) (ks : List Int) (W : World) (hfl : fall ≤ 9223372036854775807) (hin : Ints W kp ks) (hkc : ks.length ≤ kc) :
    Calls Try.prog 7 #[.agg #[.string o, .string f, .int .i64 fall, .slice kp ks.length kc]] W fun e w' => e = .returned (.bool true) ∧ Below W.heap.size W w' := by
  by_cases h1 : 100000 < o.size
  · have h1i : (100000 : Int) < (o.size : Int) := by omega
    go_enter Try.func7, Try.ntmps7
    go_wp2
    all_goals go_ret
    all_goals exact ⟨rfl, by (repeat (first | exact Below.refl _ _ | assumption | refine Below.drew ?_ | refine below_drewN ?_ _ | refine Below.alloc ?_ (by first | omega | (simp; done) | (simp; omega)) _ | refine Below.setCell ?_ (by first | omega | (simp; done) | (simp; omega)) _ | refine Below.trans ?_ (Below.mono (by assumption) (by first | omega | (simp; done) | (simp; omega)))))⟩
  · have h1i : ¬ (100000 : Int) < (o.size : Int) := by omega
    by_cases h2 : 100000 < f.size
    · have h2i : (100000 : Int) < (f.size : Int) := by omega
      go_enter Try.func7, Try.ntmps7
      go_wp2
      all_goals go_ret
      all_goals exact ⟨rfl, by (repeat (first | exact Below.refl _ _ | assumption | refine Below.drew ?_ | refine below_drewN ?_ _ | refine Below.alloc ?_ (by first | omega | (simp; done) | (simp; omega)) _ | refine Below.setCell ?_ (by first | omega | (simp; done) | (simp; omega)) _ | refine Below.trans ?_ (Below.mono (by assumption) (by first | omega | (simp; done) | (simp; omega)))))⟩
    · have h2i : ¬ (100000 : Int) < (f.size : Int) := by omega
      by_cases h3 : 2147483647 < ks.length
      · have h3i : (2147483647 : Int) < (ks.length : Int) := by omega
        go_enter Try.func7, Try.ntmps7
        go_wp2
        all_goals go_ret
        all_goals exact ⟨rfl, by (repeat (first | exact Below.refl _ _ | assumption | refine Below.drew ?_ | refine below_drewN ?_ _ | refine Below.alloc ?_ (by first | omega | (simp; done) | (simp; omega)) _ | refine Below.setCell ?_ (by first | omega | (simp; done) | (simp; omega)) _ | refine Below.trans ?_ (Below.mono (by assumption) (by first | omega | (simp; done) | (simp; omega)))))⟩
      · have h3i : ¬ (2147483647 : Int) < (ks.length : Int) := by omega
        have HIN : Hid (Ints W kp ks) := hin
        have hol : o.data.toList.length = o.size := by simp
        have hfsl : f.data.toList.length = f.size := by simp
        have HLN : Hid (o.data.toList.length + f.data.toList.length ≤ 1048576) := by show o.data.toList.length + f.data.toList.length ≤ 1048576; omega
        have HN : Hid (newE 1048576 [(⟨#[97]⟩, o, (o.size : Int))] = 0 ∧ newSt 1048576 [(⟨#[97]⟩, o, (o.size : Int))] = sw0 o.data.toList (-1)) := sw_new (by omega)
        clear hin hol hfsl
        go_enter Try.func7, Try.ntmps7
        go_wp2_with fail
        refine (awake_any _).mono ?_
        rintro e w1 ⟨rfl, hb1⟩
        have HB1 : Hid (Below W.heap.size W w1) := ((Below.refl _ _).alloc (Nat.le_refl _) _).trans (hb1.mono (by simp))
        clear hb1
        go_wp2_with fail
        refine (new_any 1048576 (some ⟨w1.heap.size, 0, none⟩) 1 [(⟨#[97]⟩, o, (o.size : Int))] _ (by simp) (by simp; omega) (frow1 _ _ _ _ _)).mono ?_
        rintro e w2 ⟨hb2, hN⟩
        rcases hN with ⟨hN, _⟩ | ⟨_, a, rfl, hi2⟩
        · exact absurd HN.out.1 hN
        rw [HN.out.2] at hi2
        have HB2 : Hid (Below W.heap.size W w2) := (HB1.out.alloc HB1.out.size _).trans (hb2.mono (by have := HB1.out.size; simp; omega))
        have hi3 : IsDisk w2 (fun k => W.heap.size ≤ k) a (sw0 o.data.toList (-1)) := hi2.mono fun k _ hk => by have := HB1.out.size; simp at hk; omega
        have HI : Hid (IsDisk w2 (fun k => W.heap.size ≤ k) a (sw0 o.data.toList (-1))) := hi3
        clear hb2 hi2 hi3
        have HI2' := HI
        have HIw2 : Hid (IsDisk w2 (fun k => W.heap.size ≤ k) a (sw0 o.data.toList (-1))) := HI2'
        have HBw2 : Hid (Below W.heap.size W w2) := HB2
        clear HI HI2' HB2 HB1 HN
        by_cases hf0 : 0 ≤ fall
        · go_wp2_with fail
          have hs := arm_any w2 (fun k => W.heap.size ≤ k) a (sw0 o.data.toList (-1)) fall hfl HIw2.out
          rw [sw_arm hf0] at hs
          refine hs.mono ?_
          clear hs
          rintro e w3 ⟨rfl, hiw3, ho⟩
          have HBw3 : Hid (Below W.heap.size W w3) := ho.zone HBw2.out
          have HIw3 : Hid (IsDisk w3 (fun k => W.heap.size ≤ k) a (sw0 o.data.toList fall)) := hiw3
          clear hiw3 ho
          by_cases q0 : fall = 0
          · subst q0
            go_wp2_with fail
            have hs := append_any w3 (fun k => W.heap.size ≤ k) a (sw0 o.data.toList 0) ⟨#[98]⟩ f HIw3.out (zone_new HBw3.out.size) (by simp [sw0])
            rw [show appR (sw0 o.data.toList 0) [98] f.data.toList = _ from sw_app0 HLN.out] at hs
            refine hs.mono ?_
            clear hs
            rintro e wa ⟨rfl, hiwa, ho⟩
            have HBwa : Hid (Below W.heap.size W wa) := ho.zone HBw3.out
            have HIwa : Hid (IsDisk wa (fun k => W.heap.size ≤ k) a _) := hiwa
            clear hiwa ho
            go_wp2_with fail
            refine (crash_any wa (fun k => W.heap.size ≤ k) a (fallen (sw0 o.data.toList 0)) kp kc ks HIwa.out (ints_low HIN.out (Nat.le_refl _) HBwa.out) hkc (by omega)).mono ?_
            rintro e wc ⟨rfl, hic, hoc⟩
            have HBc : Hid (Below W.heap.size W wc) := hoc.zone HBwa.out
            clear hoc
            go_wp2_with fail
            have hs := read_any wc (fun k => W.heap.size ≤ k) a (crashR (fallen (sw0 o.data.toList 0)) ks) ⟨#[97]⟩ hic
            rw [sw_read (x := o.data.toList) (r := []) ks rfl, str_eq o.data.toList o rfl] at hs
            refine hs.mono ?_
            clear hs
            rintro e wd ⟨rfl, hbd⟩
            have HBd : Hid (Below W.heap.size W wd) := HBc.out.trans (hbd.mono HBc.out.size)
            clear hbd hic
            go_wp2
            go_ret
            exact ⟨rfl, HBd.out⟩
          · by_cases q1 : fall = 1
            · subst q1
              go_wp2_with fail
              have hs := append_any w3 (fun k => W.heap.size ≤ k) a (sw0 o.data.toList 1) ⟨#[98]⟩ f HIw3.out (zone_new HBw3.out.size) (by simp [sw0])
              rw [show appR (sw0 o.data.toList 1) [98] f.data.toList = (0, sw1 o.data.toList f.data.toList 0) from sw_app HLN.out (by decide)] at hs
              refine hs.mono ?_
              clear hs
              rintro e wa ⟨rfl, hiwa, ho⟩
              have HBwa : Hid (Below W.heap.size W wa) := ho.zone HBw3.out
              have HIwa : Hid (IsDisk wa (fun k => W.heap.size ≤ k) a _) := hiwa
              clear hiwa ho
              go_wp2_with fail
              have hs := sync_any wa (fun k => W.heap.size ≤ k) a (sw1 o.data.toList f.data.toList 0) ⟨#[98]⟩ HIwa.out (zone_new HBwa.out.size) (by simp [sw1])
              rw [show synR (sw1 o.data.toList f.data.toList 0) [98] = _ from sw_syn0 o.data.toList f.data.toList] at hs
              refine hs.mono ?_
              clear hs
              rintro e ws ⟨rfl, hiws, ho⟩
              have HBws : Hid (Below W.heap.size W ws) := ho.zone HBwa.out
              have HIws : Hid (IsDisk ws (fun k => W.heap.size ≤ k) a _) := hiws
              clear hiws ho
              go_wp2_with fail
              refine (crash_any ws (fun k => W.heap.size ≤ k) a (fallen (sw1 o.data.toList f.data.toList 0)) kp kc ks HIws.out (ints_low HIN.out (Nat.le_refl _) HBws.out) hkc (by omega)).mono ?_
              rintro e wc ⟨rfl, hic, hoc⟩
              have HBc : Hid (Below W.heap.size W wc) := hoc.zone HBws.out
              clear hoc
              go_wp2_with fail
              have hs := read_any wc (fun k => W.heap.size ≤ k) a (crashR (fallen (sw1 o.data.toList f.data.toList 0)) ks) ⟨#[97]⟩ hic
              rw [sw_read (x := o.data.toList) (r := [([98], (f.data.toList, 0))]) ks rfl, str_eq o.data.toList o rfl] at hs
              refine hs.mono ?_
              clear hs
              rintro e wd ⟨rfl, hbd⟩
              have HBd : Hid (Below W.heap.size W wd) := HBc.out.trans (hbd.mono HBc.out.size)
              clear hbd hic
              go_wp2
              go_ret
              exact ⟨rfl, HBd.out⟩
            · by_cases q2 : fall = 2
              · subst q2
                go_wp2_with fail
                have hs := append_any w3 (fun k => W.heap.size ≤ k) a (sw0 o.data.toList 2) ⟨#[98]⟩ f HIw3.out (zone_new HBw3.out.size) (by simp [sw0])
                rw [show appR (sw0 o.data.toList 2) [98] f.data.toList = (0, sw1 o.data.toList f.data.toList 1) from sw_app HLN.out (by decide)] at hs
                refine hs.mono ?_
                clear hs
                rintro e wa ⟨rfl, hiwa, ho⟩
                have HBwa : Hid (Below W.heap.size W wa) := ho.zone HBw3.out
                have HIwa : Hid (IsDisk wa (fun k => W.heap.size ≤ k) a _) := hiwa
                clear hiwa ho
                go_wp2_with fail
                have hs := sync_any wa (fun k => W.heap.size ≤ k) a (sw1 o.data.toList f.data.toList 1) ⟨#[98]⟩ HIwa.out (zone_new HBwa.out.size) (by simp [sw1])
                rw [show synR (sw1 o.data.toList f.data.toList 1) [98] = (0, sw2 o.data.toList f.data.toList 0) from sw_syn (by decide)] at hs
                refine hs.mono ?_
                clear hs
                rintro e ws ⟨rfl, hiws, ho⟩
                have HBws : Hid (Below W.heap.size W ws) := ho.zone HBwa.out
                have HIws : Hid (IsDisk ws (fun k => W.heap.size ≤ k) a _) := hiws
                clear hiws ho
                go_wp2_with fail
                have hs := rename_any ws (fun k => W.heap.size ≤ k) a (sw2 o.data.toList f.data.toList 0) ⟨#[98]⟩ ⟨#[97]⟩ HIws.out (zone_new HBws.out.size) (by simp [sw2])
                rw [show renR (sw2 o.data.toList f.data.toList 0) [98] [97] = _ from sw_ren0 o.data.toList f.data.toList] at hs
                refine hs.mono ?_
                clear hs
                rintro e wn ⟨rfl, hiwn, ho⟩
                have HBwn : Hid (Below W.heap.size W wn) := ho.zone HBws.out
                have HIwn : Hid (IsDisk wn (fun k => W.heap.size ≤ k) a _) := hiwn
                clear hiwn ho
                go_wp2_with fail
                refine (crash_any wn (fun k => W.heap.size ≤ k) a (fallen (sw2 o.data.toList f.data.toList 0)) kp kc ks HIwn.out (ints_low HIN.out (Nat.le_refl _) HBwn.out) hkc (by omega)).mono ?_
                rintro e wc ⟨rfl, hic, hoc⟩
                have HBc : Hid (Below W.heap.size W wc) := hoc.zone HBwn.out
                clear hoc
                go_wp2_with fail
                have hs := read_any wc (fun k => W.heap.size ≤ k) a (crashR (fallen (sw2 o.data.toList f.data.toList 0)) ks) ⟨#[97]⟩ hic
                rw [sw_read (x := o.data.toList) (r := [([98], (f.data.toList, f.data.toList.length))]) ks rfl, str_eq o.data.toList o rfl] at hs
                refine hs.mono ?_
                clear hs
                rintro e wd ⟨rfl, hbd⟩
                have HBd : Hid (Below W.heap.size W wd) := HBc.out.trans (hbd.mono HBc.out.size)
                clear hbd hic
                go_wp2
                go_ret
                exact ⟨rfl, HBd.out⟩
              · have d1 : downBy fall ≠ 0 := by simp only [downBy]; split <;> omega
                have d2 : downBy (downBy fall) ≠ 0 := by
                  have : downBy fall = fall - 1 := by simp only [downBy]; split <;> omega
                  rw [this]
                  simp only [downBy]
                  split <;> omega
                go_wp2_with fail
                have hs := append_any w3 (fun k => W.heap.size ≤ k) a (sw0 o.data.toList fall) ⟨#[98]⟩ f HIw3.out (zone_new HBw3.out.size) (by simp [sw0])
                rw [show appR (sw0 o.data.toList fall) [98] f.data.toList = _ from sw_app HLN.out q0] at hs
                refine hs.mono ?_
                clear hs
                rintro e wa ⟨rfl, hiwa, ho⟩
                have HBwa : Hid (Below W.heap.size W wa) := ho.zone HBw3.out
                have HIwa : Hid (IsDisk wa (fun k => W.heap.size ≤ k) a _) := hiwa
                clear hiwa ho
                go_wp2_with fail
                have hs := sync_any wa (fun k => W.heap.size ≤ k) a (sw1 o.data.toList f.data.toList (downBy fall)) ⟨#[98]⟩ HIwa.out (zone_new HBwa.out.size) (by simp [sw1])
                rw [show synR (sw1 o.data.toList f.data.toList (downBy fall)) [98] = _ from sw_syn d1] at hs
                refine hs.mono ?_
                clear hs
                rintro e ws ⟨rfl, hiws, ho⟩
                have HBws : Hid (Below W.heap.size W ws) := ho.zone HBwa.out
                have HIws : Hid (IsDisk ws (fun k => W.heap.size ≤ k) a _) := hiws
                clear hiws ho
                go_wp2_with fail
                have hs := rename_any ws (fun k => W.heap.size ≤ k) a (sw2 o.data.toList f.data.toList (downBy (downBy fall))) ⟨#[98]⟩ ⟨#[97]⟩ HIws.out (zone_new HBws.out.size) (by simp [sw2])
                rw [show renR (sw2 o.data.toList f.data.toList (downBy (downBy fall))) [98] [97] = _ from sw_ren d2] at hs
                refine hs.mono ?_
                clear hs
                rintro e wn ⟨rfl, hiwn, ho⟩
                have HBwn : Hid (Below W.heap.size W wn) := ho.zone HBws.out
                have HIwn : Hid (IsDisk wn (fun k => W.heap.size ≤ k) a _) := hiwn
                clear hiwn ho
                go_wp2_with fail
                refine (crash_any wn (fun k => W.heap.size ≤ k) a (sw3 f.data.toList (downBy (downBy (downBy fall)))) kp kc ks HIwn.out (ints_low HIN.out (Nat.le_refl _) HBwn.out) hkc (by omega)).mono ?_
                rintro e wc ⟨rfl, hic, hoc⟩
                have HBc : Hid (Below W.heap.size W wc) := hoc.zone HBwn.out
                clear hoc
                go_wp2_with fail
                have hs := read_any wc (fun k => W.heap.size ≤ k) a (crashR (sw3 f.data.toList (downBy (downBy (downBy fall)))) ks) ⟨#[97]⟩ hic
                rw [sw_read (x := f.data.toList) (r := []) ks rfl, str_eq f.data.toList f rfl] at hs
                refine hs.mono ?_
                clear hs
                rintro e wd ⟨rfl, hbd⟩
                have HBd : Hid (Below W.heap.size W wd) := HBc.out.trans (hbd.mono HBc.out.size)
                clear hbd hic
                go_wp2
                go_ret
                exact ⟨rfl, HBd.out⟩
        · have hf0i : ¬ (0 : Int) ≤ fall := hf0
          go_wp2_with fail
          have hs := append_any w2 (fun k => W.heap.size ≤ k) a (sw0 o.data.toList (-1)) ⟨#[98]⟩ f HIw2.out (zone_new HBw2.out.size) (by simp [sw0])
          rw [show appR (sw0 o.data.toList (-1)) [98] f.data.toList = _ from sw_app HLN.out (by decide)] at hs
          refine hs.mono ?_
          clear hs
          rintro e wa ⟨rfl, hiwa, ho⟩
          have HBwa : Hid (Below W.heap.size W wa) := ho.zone HBw2.out
          have HIwa : Hid (IsDisk wa (fun k => W.heap.size ≤ k) a _) := hiwa
          clear hiwa ho
          go_wp2_with fail
          have hs := sync_any wa (fun k => W.heap.size ≤ k) a (sw1 o.data.toList f.data.toList (downBy (-1))) ⟨#[98]⟩ HIwa.out (zone_new HBwa.out.size) (by simp [sw1])
          rw [show synR (sw1 o.data.toList f.data.toList (downBy (-1))) [98] = _ from sw_syn (by decide)] at hs
          refine hs.mono ?_
          clear hs
          rintro e ws ⟨rfl, hiws, ho⟩
          have HBws : Hid (Below W.heap.size W ws) := ho.zone HBwa.out
          have HIws : Hid (IsDisk ws (fun k => W.heap.size ≤ k) a _) := hiws
          clear hiws ho
          go_wp2_with fail
          have hs := rename_any ws (fun k => W.heap.size ≤ k) a (sw2 o.data.toList f.data.toList (downBy (downBy (-1)))) ⟨#[98]⟩ ⟨#[97]⟩ HIws.out (zone_new HBws.out.size) (by simp [sw2])
          rw [show renR (sw2 o.data.toList f.data.toList (downBy (downBy (-1)))) [98] [97] = _ from sw_ren (by decide)] at hs
          refine hs.mono ?_
          clear hs
          rintro e wn ⟨rfl, hiwn, ho⟩
          have HBwn : Hid (Below W.heap.size W wn) := ho.zone HBws.out
          have HIwn : Hid (IsDisk wn (fun k => W.heap.size ≤ k) a _) := hiwn
          clear hiwn ho
          go_wp2_with fail
          refine (crash_any wn (fun k => W.heap.size ≤ k) a (sw3 f.data.toList (downBy (downBy (downBy (-1))))) kp kc ks HIwn.out (ints_low HIN.out (Nat.le_refl _) HBwn.out) hkc (by omega)).mono ?_
          rintro e wc ⟨rfl, hic, hoc⟩
          have HBc : Hid (Below W.heap.size W wc) := hoc.zone HBwn.out
          clear hoc
          go_wp2_with fail
          have hs := read_any wc (fun k => W.heap.size ≤ k) a (crashR (sw3 f.data.toList (downBy (downBy (downBy (-1))))) ks) ⟨#[97]⟩ hic
          rw [sw_read (x := f.data.toList) (r := []) ks rfl, str_eq f.data.toList f rfl] at hs
          refine hs.mono ?_
          clear hs
          rintro e wd ⟨rfl, hbd⟩
          have HBd : Hid (Below W.heap.size W wd) := HBc.out.trans (hbd.mono HBc.out.size)
          clear hbd hic
          go_wp2
          go_ret
          exact ⟨rfl, HBd.out⟩
end Go.Proofs.Ytmmejcmajpljaaa
