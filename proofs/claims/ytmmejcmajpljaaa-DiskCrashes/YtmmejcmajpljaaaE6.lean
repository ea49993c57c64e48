/- The law DiskCrashes: what is safe lasts. -/
import Derived.Test.YtmmejcmajpljaaaE5
import Derived.Test.YtmmejcmajpljaaaD18
namespace Go.Proofs.Ytmmejcmajpljaaa
open Go.RowKit

theorem stepR_steps (st : St) (e : Int) (f : Fs → Fs) : (stepR st e f).2.steps ≤ st.steps + 1 := by
  unfold stepR
  split
  · exact Nat.le_succ _
  · split
    · exact Nat.le_succ _
    · split
      · exact Nat.le_succ _
      · exact Nat.le_refl _
theorem goR_steps (st : St) (x : OpV) : (goR st x).2.steps ≤ st.steps + 1 := by
  unfold goR
  split
  · exact stepR_steps _ _ _
  · split
    · exact stepR_steps _ _ _
    · split
      · exact stepR_steps _ _ _
      · split
        · exact stepR_steps _ _ _
        · exact Nat.le_succ _
theorem armR_steps (st : St) (n : Int) : (armR st n).2.steps = st.steps := by
  unfold armR
  split
  · rfl
  · split <;> rfl

set_option maxHeartbeats 8000000 in
set_option maxRecDepth 100000 in
theorem crashes_law (p : Option Addr) (cap : Nat) (l : List FV) (q : Option Addr) (cap' : Nat) (s : List OpV) (kp : Option Addr) (kc : Nat) (ks : List Int) (W : World) (hp : FRow W p l) (hq : ORow W q s) (hk : Ints W kp ks)
    (hls : l.length + s.length ≤ 9223372036854775807) (hnm : ∀ f ∈ l, f.1.size ≤ 9223372036854775807) (hkc : ks.length ≤ kc) :
    Calls Try.prog 4 #[.slice p l.length cap, .slice q s.length cap', .slice kp ks.length kc] W fun e w' => e = .returned (.bool true) ∧ Below W.heap.size W w' := by
  have HP : Hid (FRow W p l) := hp
  have HQ : Hid (ORow W q s) := hq
  have HK : Hid (Ints W kp ks) := hk
  have HNM : Hid (∀ f ∈ l, f.1.size ≤ 9223372036854775807) := hnm
  have HLS : Hid (l.length + s.length ≤ 9223372036854775807) := hls
  clear hp hq hk hnm hls
  go_enter Try.func4, Try.ntmps4
  go_wp2_with fail
  refine (weighs_any W p cap l q cap' s HLS.out HP.out HQ.out).mono ?_
  rintro e w0 ⟨m, rfl, hm, hb0⟩
  by_cases hbig : 2147483647 < m
  · have hbi : (2147483647 : Int) < (m : Int) := by omega
    go_wp2
    all_goals go_ret
    all_goals exact ⟨rfl, hb0⟩
  · have hbi : ¬ (2147483647 : Int) < (m : Int) := by omega
    by_cases hkb : 2147483647 < ks.length
    · have hki : (2147483647 : Int) < (ks.length : Int) := by omega
      go_wp2
      all_goals go_ret
      all_goals exact ⟨rfl, hb0⟩
    · have hki : ¬ (2147483647 : Int) < (ks.length : Int) := by omega
      obtain ⟨hs1, hs2⟩ := hm (by omega)
      have HDS : Hid (∀ f ∈ l, f.2.1.size ≤ 1099511627776) := fun f hf => Nat.le_trans (hs2 f hf) (by decide)
      have HDB : Hid (∀ f ∈ l, f.1.size ≤ 9223372036854775807 ∧ f.2.1.size ≤ 1099511627776) := fun f hf => ⟨HNM.out f hf, HDS.out f hf⟩
      have HB0 : Hid (Below W.heap.size W w0) := hb0
      have hll : l.length ≤ 2147483648 := by omega
      have hsl : s.length ≤ 2147483648 := by omega
      have hkl : ks.length ≤ 2147483648 := by omega
      have HLL : Hid (l.length ≤ 2147483648) := hll
      have HKL : Hid (ks.length ≤ 2147483648) := hkl
      clear hm hb0 hs2
      go_wp2_with fail
      refine (awake_any _).mono ?_
      rintro e w1 ⟨rfl, hb1⟩
      have HB1 : Hid (Below W.heap.size W w1) := HB0.out.trans (hb1.mono HB0.out.size)
      clear hb1
      go_wp2_with fail
      refine (new_any 1048576 p cap l w1 HLL.out HDS.out (HP.out.later HB1.out)).mono ?_
      rintro e w2 ⟨hb2, hN⟩
      have HB2 : Hid (Below W.heap.size W w2) := HB1.out.trans (hb2.mono HB1.out.size)
      rcases hN with ⟨hN, rfl⟩ | ⟨hN, a, rfl, hi2⟩
      · clear hb2
        go_wp2_with fail
        refine (rnew_any 1048576 p cap l w2 HLL.out HDB.out (HP.out.later HB2.out)).mono ?_
        rintro e w3 ⟨hb3, hM⟩
        have HB3 : Hid (Below W.heap.size W w3) := HB2.out.trans (hb3.mono HB2.out.size)
        rcases hM with ⟨_, rfl⟩ | ⟨hM, _⟩
        · clear hb3
          obtain ⟨E, hE⟩ : ∃ E, newE 1048576 l = E := ⟨_, rfl⟩
          rw [hE] at hN ⊢
          have h0 : (E != 0) = true := by simpa using hN
          have h1 : (E != E) = false := by simp
          clear hE
          go_wp2
          all_goals go_ret
          all_goals exact ⟨rfl, HB3.out⟩
        · exact absurd hM hN
      · have HI2 : Hid (IsDisk w2 (fun k => W.heap.size ≤ k) a (newSt 1048576 l)) := hi2.mono fun k _ hk => Nat.le_trans HB1.out.size hk
        clear hb2 hi2
        go_wp2_with fail
        refine (rnew_any 1048576 p cap l w2 HLL.out HDB.out (HP.out.later HB2.out)).mono ?_
        rintro e w3 ⟨hb3, hM⟩
        have HB3 : Hid (Below W.heap.size W w3) := HB2.out.trans (hb3.mono HB2.out.size)
        have HI3 : Hid (IsDisk w3 (fun k => W.heap.size ≤ k) a (newSt 1048576 l)) := HI2.out.later hb3
        rcases hM with ⟨hM, _⟩ | ⟨_, a', v', rfl, _⟩
        · exact absurd hN hM
        · clear hb3 HI2 hN
          go_wp2
          go_loopw [13] (fun i wx => ∃ (k : Nat) (st : St), k ≤ s.length ∧ i = .int .i64 k ∧ st.steps ≤ k ∧ IsDisk wx (fun k => W.heap.size ≤ k) a st ∧ Below W.heap.size W wx) (fun i _ => s.length - (intOf i).toNat)
          case atStart => exact ⟨0, _, Nat.zero_le _, rfl, Nat.le_refl _, HI3.out, HB3.out⟩
          case round =>
            clear HI3 HB3 HB2 HB1 HB0
            obtain ⟨k, st, hk, rfl, hst, hi, hb⟩ := hrel
            have HI : Hid (IsDisk wr (fun k => W.heap.size ≤ k) a st) := hi
            have HB : Hid (Below W.heap.size W wr) := hb
            have HST : Hid (st.steps ≤ k) := hst
            clear hi hb
            by_cases hlt : k < s.length
            · have hlti : (k : Int) < (s.length : Int) := by omega
              obtain ⟨x, hx⟩ : ∃ x, s[k] = x := ⟨_, rfl⟩
              obtain ⟨bb, off, rfl, d0, d1, d2, d3, d4, d5, _, _, hxn⟩ := (HQ.out.later HB.out).at hlt hx
              have HLT : Hid (k < s.length) := hlt
              have HXN : Hid (x.n ≤ 9223372036854775807) := hxn
              have HS2 : Hid (st.steps < 4611686018427387904) := by show st.steps < _; omega
              clear hx hxn hst
              by_cases h6 : x.what = 6
              · have h6b : (x.what == 6) = true := by simp [h6]
                go_wp2_with (first | (go_at_call 15; refine (arm_any wr (fun k => W.heap.size ≤ k) a st x.n HXN.out HI.out).mono ?_; rintro e w5 ⟨rfl, hi5, ho5⟩; (have HB5 : Hid (Below W.heap.size W w5) := ho5.zone HB.out); (have HI5 : Hid (IsDisk w5 (fun k => W.heap.size ≤ k) a (armR st x.n).2) := hi5); clear hi5 ho5))
                go_roundw
                case rel => exact ⟨k + 1, _, HLT.out, by go_num, by rw [armR_steps]; have := HST.out; omega, HI5.out, HB5.out⟩
                case measure => have := HLT.out; simp [intOf]; omega
              · have h6b : (x.what == 6) = false := by simpa using h6
                go_wp2_with (first | (go_at_call 16; refine (goes_any wr (fun k => W.heap.size ≤ k) a st x HI.out (zone_new HB.out.size) HS2.out).mono ?_; rintro e w5 ⟨rfl, hi5, ho5⟩; (have HB5 : Hid (Below W.heap.size W w5) := ho5.zone HB.out); (have HI5 : Hid (IsDisk w5 (fun k => W.heap.size ≤ k) a (goR st x).2) := hi5); clear hi5 ho5))
                go_roundw
                case rel => exact ⟨k + 1, _, HLT.out, by go_num, by have := HST.out; have := goR_steps st x; omega, HI5.out, HB5.out⟩
                case measure => have := HLT.out; simp [intOf]; omega
            · have hk' : k = s.length := by omega
              subst hk'
              obtain ⟨w6, hw6⟩ : ∃ w6, w6 = wr := ⟨_, rfl⟩
              subst hw6
              have HOK : Hid (OKs st) := HI.out.ok
              clear hst
              go_wp2_with fail
              refine (files_any w6 _ a st HI.out).mono ?_
              rintro e w7 ⟨va, rfl, hra, hb7⟩
              obtain ⟨A, hA⟩ : ∃ A, st.fs = A := ⟨_, rfl⟩
              have HA : Hid (st.fs = A) := hA
              rw [hA] at hra
              obtain ⟨pa, ca, rfl⟩ := own_form hra
              have HRA : Hid (w7.ownsRow w6.heap.size 27 3 (.slice pa A.length ca) A.length (fc A)) := hra
              have HI7 : Hid (IsDisk w7 (fun k => (W.heap.size ≤ k ∧ k < w6.heap.size) ∨ w7.heap.size ≤ k) a st) := HI.out.apart hb7
              have HB7 : Hid (Below W.heap.size W w7) := HB.out.trans (hb7.mono HB.out.size)
              have HZ7 : Hid (W.heap.size ≤ w6.heap.size ∧ w6.heap.size ≤ w7.heap.size) := ⟨HB.out.size, hb7.size⟩
              clear hra hb7 hA
              go_wp2_with fail
              refine (crash_any w7 _ a st kp kc ks HI7.out (ints_later HK.out HB7.out) hkc HKL.out).mono ?_
              rintro e w8 ⟨rfl, hi8, ho8⟩
              have HI8 : Hid (IsDisk w8 (fun k => (W.heap.size ≤ k ∧ k < w6.heap.size) ∨ w7.heap.size ≤ k) a (crashR st ks)) := hi8
              have HB8 : Hid (Below W.heap.size W w8) := HB7.out.trans (ho8.below HB7.out.size (fun k hk h => by have := HZ7.out; rcases h with ⟨h1, h2⟩ | h1 <;> omega))
              have HRA8 : Hid (w8.ownsRow w6.heap.size 27 3 (.slice pa A.length ca) A.length (fc A)) := own_kept HRA.out (fun g e => ho8.block g (HRA.out.lt g e).2 (fun h => by have h3 := HRA.out.lt g e; rcases h with ⟨h1, h2⟩ | h1 <;> omega))
              have HZ8 : Hid (w7.heap.size ≤ w8.heap.size) := ho8.size
              have HLA7 : Hid (∀ g, (Value.slice pa A.length ca).ownBlock = some g → w6.heap.size ≤ g ∧ g < w7.heap.size) := HRA.out.lt
              clear hi8 ho8 HI7 HB7 HRA HI HB
              go_wp2_with fail
              refine (files_any w8 _ a (crashR st ks) HI8.out).mono ?_
              rintro e w9 ⟨vb, rfl, hrb, hb9⟩
              obtain ⟨B, hB⟩ : ∃ B, (crashR st ks).fs = B := ⟨_, rfl⟩
              have HBB : Hid (crashL ks A = B) := by rw [← HA.out]; exact hB
              have HOK2 : Hid ((crashR (crashR st ks) ks).fs = B) := by
                show _ = _
                rw [crash_twice ks HOK.out, HA.out]
                exact HBB.out
              rw [hB] at hrb
              obtain ⟨pb, cb, rfl⟩ := own_form hrb
              have HRB : Hid (w9.ownsRow w8.heap.size 27 3 (.slice pb B.length cb) B.length (fc B)) := hrb
              have HI9 : Hid (IsDisk w9 (fun k => (((W.heap.size ≤ k ∧ k < w6.heap.size) ∨ w7.heap.size ≤ k) ∧ k < w8.heap.size) ∨ w9.heap.size ≤ k) a (crashR st ks)) := HI8.out.apart hb9
              have HB9 : Hid (Below W.heap.size W w9) := HB8.out.trans (hb9.mono HB8.out.size)
              have HRA9 : Hid (w9.ownsRow w6.heap.size 27 3 (.slice pa A.length ca) A.length (fc A)) := own_later HRA8.out hb9
              have HZ9 : Hid (w8.heap.size ≤ w9.heap.size) := hb9.size
              have HLA : Hid (∀ g, (Value.slice pa A.length ca).ownBlock = some g → w6.heap.size ≤ g ∧ g < w8.heap.size) := HRA8.out.lt
              clear hrb hb9 hB HI8 HB8
              go_wp2_with fail
              refine (down_any w9 _ a (crashR st ks) HI9.out).mono ?_
              rintro e w10 ⟨rfl, he⟩
              have he' := he.symm
              subst he'
              have hdn : (crashR st ks).down = false := rfl
              rw [hdn]
              clear hdn he
              go_wp2_with fail
              refine (crash_any w9 _ a (crashR st ks) kp kc ks HI9.out (ints_later HK.out HB9.out) hkc HKL.out).mono ?_
              rintro e w10 ⟨rfl, hi10, ho10⟩
              have HI10 : Hid (IsDisk w10 _ a (crashR (crashR st ks) ks)) := hi10
              have HB10 : Hid (Below W.heap.size W w10) := HB9.out.trans (ho10.below HB9.out.size (fun k hk h => by have := HZ7.out; have := HZ8.out; have := HZ9.out; rcases h with ⟨⟨h1, h2⟩ | h1, h3⟩ | h1 <;> omega))
              have HRA10 : Hid (w10.ownsRow w6.heap.size 27 3 (.slice pa A.length ca) A.length (fc A)) := own_kept HRA9.out (fun g e => ho10.block g (HRA9.out.lt g e).2 (fun h => by have h9 := HLA.out g e; have h7 := HLA7.out g e; have := HZ8.out; have := HZ9.out; rcases h with ⟨⟨h1, h2⟩ | h1, h3⟩ | h1 <;> omega))
              have HRB10 : Hid (w10.ownsRow w8.heap.size 27 3 (.slice pb B.length cb) B.length (fc B)) := own_kept HRB.out (fun g e => ho10.block g (HRB.out.lt g e).2 (fun h => by have h9 := HRB.out.lt g e; rcases h with ⟨⟨h1, h2⟩ | h1, h3⟩ | h1 <;> omega))
              clear hi10 ho10 HI9 HB9 HRA9 HRA8 HRB
              go_wp2_with fail
              refine (files_any w10 _ a _ HI10.out).mono ?_
              rintro e w11 ⟨vc, rfl, hrc, hb11⟩
              rw [HOK2.out] at hrc
              have HRC : Hid (w11.ownsRow w10.heap.size 27 3 vc B.length (fc B)) := hrc
              have HRA11 : Hid (w11.ownsRow w6.heap.size 27 3 (.slice pa A.length ca) A.length (fc A)) := own_later HRA10.out hb11
              have HRB11 : Hid (w11.ownsRow w8.heap.size 27 3 (.slice pb B.length cb) B.length (fc B)) := own_later HRB10.out hb11
              have HB11 : Hid (Below W.heap.size W w11) := HB10.out.trans (hb11.mono HB10.out.size)
              have HCR : Hid (∀ i (h : i < A.length) (h' : i < B.length), Cr A[i] B[i]) := by
                have := cr_all ks A (by rw [← HA.out]; exact HOK.out.files.safe)
                rw [HBB.out] at this
                exact this
              have hlen : B.length = A.length := by rw [← HBB.out, crashL_length]
              have HLEN : Hid (B.length = A.length) := hlen
              have hAl : A.length ≤ 64 := by rw [← HA.out]; exact HOK.out.files.few
              have HBL : Hid (B.length ≤ 2147483648) := by show _ ≤ _; omega
              have hb0 : ((A.length : Int) != (B.length : Int)) = false := by simp; omega
              clear hrc hb11 hlen HI10 HRA10 HRB10 HB10
              go_wp2_with fail
              refine (same_eq _ vc B _ _ w11 HBL.out HRB11.out HRC.out).mono ?_
              rintro e w12 ⟨rfl, hb12⟩
              have HRA12 : Hid (w12.ownsRow w6.heap.size 27 3 (.slice pa A.length ca) A.length (fc A)) := own_later HRA11.out hb12
              have HRB12 : Hid (w12.ownsRow w8.heap.size 27 3 (.slice pb B.length cb) B.length (fc B)) := own_later HRB11.out hb12
              have HB12 : Hid (Below W.heap.size W w12) := HB11.out.trans (hb12.mono HB11.out.size)
              clear hb12 HRA11 HRB11 HB11 HRC
              go_wp2
              go_loopw [19] (fun i wx => ∃ k : Nat, k ≤ A.length ∧ i = .int .i64 k ∧ Below w12.heap.size w12 wx) (fun i _ => A.length - (intOf i).toNat)
              case atStart => exact ⟨0, Nat.zero_le _, rfl, Below.refl _ _⟩
              case round =>
                obtain ⟨k, hk, rfl, hbk⟩ := hrel
                have HBK : Hid (Below w12.heap.size w12 wr) := hbk
                by_cases hlt : k < A.length
                · have hltb : k < B.length := by have := HLEN.out; omega
                  obtain ⟨ga, rfl, c0, c1, c2⟩ := row_at (own_later HRA12.out hbk) hlt
                  obtain ⟨gb, rfl, p0, p1, p2⟩ := row_at (own_later HRB12.out hbk) hltb
                  obtain ⟨hc1, hc2, hc3, n, hn1, hn2, hn3⟩ := HCR.out k hlt hltb
                  rw [hc1] at p0
                  rw [hc2] at p2
                  obtain ⟨nm, hnm⟩ : ∃ nm : ByteArray, (⟨(A[k]).1.toArray⟩ : ByteArray) = nm := ⟨_, rfl⟩
                  obtain ⟨dA, hdA⟩ : ∃ dA : ByteArray, (⟨(A[k]).2.1.toArray⟩ : ByteArray) = dA := ⟨_, rfl⟩
                  obtain ⟨dB, hdB⟩ : ∃ dB : ByteArray, (⟨(B[k]).2.1.toArray⟩ : ByteArray) = dB := ⟨_, rfl⟩
                  obtain ⟨sA, hsA⟩ : ∃ sA, (A[k]).2.2 = sA := ⟨_, rfl⟩
                  have hdAl : dA.data.toList = (A[k]).2.1 := by rw [← hdA]
                  have hdBl : dB.data.toList = (B[k]).2.1 := by rw [← hdB]
                  have hdAs : dA.size = (A[k]).2.1.length := by rw [← hdAl]; simp
                  have hdBs : dB.size = (B[k]).2.1.length := by rw [← hdBl]; simp
                  have hBe : dB = ⟨(dA.data.toList.take n).toArray⟩ := by rw [hdAl, ← hn3, hdB]
                  have hnl : dB.size = n := by rw [hdBs, hn3, List.length_take]; omega
                  have HBG1 : Hid (∀ w, Calls Try.prog 20 #[.string dB, .string (dA.extract 0 sA)] w fun e w' => e = .returned (.bool true) ∧ w' = w) := fun w => begins_yes _ _ w ⟨sA, by omega, by
                    rw [front, hBe]
                    simp only [List.take_take]
                    rw [Nat.min_eq_left (by omega)]⟩
                  have HBG2 : Hid (∀ w, Calls Try.prog 20 #[.string dA, .string dB] w fun e w' => e = .returned (.bool true) ∧ w' = w) := fun w => begins_yes _ _ w ⟨n, by omega, hBe⟩
                  rw [hnm] at c0 p0
                  rw [hdA] at c1
                  rw [hsA] at c2 hc3 hn1
                  rw [hdB] at p1
                  rw [← hdBs] at p2
                  have hsl2 : sA ≤ dA.size := by omega
                  have hsi : (sA : Int) ≤ (dA.size : Int) := by omega
                  have hlti : (k : Int) < (A.length : Int) := by omega
                  have hltbi : (k : Int) < (B.length : Int) := by omega
                  have hd1 : decide ((sA : Int) < 0) = false := decide_eq_false (by omega)
                  have hd2 : decide ((dA.size : Int) < (sA : Int)) = false := by simp; omega
                  clear hnm hdA hdB hsA hdAl hdBl hdAs hdBs hBe hnl hc1 hc2 hc3 hn1 hn2 hn3 hbk
                  go_wp2
                  go_quiet (fail)
                  go_wp2
                  go_quiet ((go_at_call 20; exact (HBG1.out _).mono (fun _ _ ⟨he, hm⟩ => ⟨he, _, hm⟩)))
                  go_wp2
                  go_quiet ((go_at_call 20; exact (HBG2.out _).mono (fun _ _ ⟨he, hm⟩ => ⟨he, _, hm⟩)))
                  go_wp2
                  go_quiet (fail)
                  go_wp2
                  go_roundw
                  case rel => exact ⟨k + 1, by omega, by go_num, by repeat (first | exact HBK.out | refine below_drewN ?_ _)⟩
                  case measure => simp [intOf]; omega
                · have hk' : k = A.length := by omega
                  subst hk'
                  clear hbk
                  go_wp2
                  go_ret
                  exact ⟨rfl, HB12.out.trans (HBK.out.mono HB12.out.size)⟩
end Go.Proofs.Ytmmejcmajpljaaa
