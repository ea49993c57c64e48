/- Walks of layer 4, eighteenth part: DiskArmed. -/
import Derived.Test.YtmmejcmajpljaaaD17
import Derived.Test.YtmmejcmajpljaaaM47
namespace Go.Proofs.Ytmmejcmajpljaaa
open Go.RowKit

theorem goR_step {A : Int} {st : St} {done : Nat} (hA : -1 ≤ A) (h : Arms A st done) (hle : 0 ≤ A → (done : Int) ≤ A) (x : OpV) : Step1 A st done (goR st x) := by
  unfold goR
  split
  · exact step_armed hA h hle (room_ne3 _ _ _)
  · split
    · exact step_armed hA h hle (find_ne3 _ _)
    · split
      · exact step_armed hA h hle (ren_ne3 _ _ _)
      · split
        · exact step_armed hA h hle (find_ne3 _ _)
        · exact none_armed h
theorem goR_down {st : St} (x : OpV) (hd : st.down = true) : (1 ≤ x.what ∧ x.what ≤ 4 → (goR st x).1 = 3) := by
  intro hw
  have hs : ∀ w f, (stepR st w f).1 = 3 := fun w f => by simp [stepR, hd]
  unfold goR
  split
  · exact hs _ _
  · split
    · exact hs _ _
    · split
      · exact hs _ _
      · split
        · exact hs _ _
        · omega
theorem goR_ok {st : St} (h : OKs st) (x : OpV) : OKs (goR st x).2 := by
  unfold goR
  split
  · exact stepR_ok h fun hw => h.files.app hw
  · split
    · exact stepR_ok h fun hw => h.files.syn hw
    · split
      · exact stepR_ok h fun hw => h.files.ren hw
      · split
        · exact stepR_ok h fun _ => h.files.rem _
        · exact h

set_option maxHeartbeats 16000000 in
set_option maxRecDepth 100000 in
theorem armed_law (q : Option Addr) (cap : Nat) (s : List OpV) (A : Int) (W : World) (hq : ORow W q s) (hqc : s.length ≤ cap) (hqm : cap ≤ maxLen) (hA : A ≤ 9223372036854775807) :
    Calls Try.prog 5 #[.slice q s.length cap, .int .i64 A] W fun e w' => e = .returned (.bool true) ∧ Below W.heap.size W w' := by
  have HQ : Hid (ORow W q s) := hq
  have hsl : s.length ≤ 9223372036854775807 := by unfold maxLen at hqm; omega
  clear hq hqc hqm
  go_enter Try.func5, Try.ntmps5
  go_wp2_with fail
  refine (weighs_any W none 0 [] q cap s (by simpa using hsl) (FRow.nil _ _) HQ.out).mono ?_
  rintro e w0 ⟨m, rfl, hm, hb0⟩
  by_cases hbig : 2147483647 < m
  · have hbi : (2147483647 : Int) < (m : Int) := by omega
    go_wp2
    go_ret
    exact ⟨rfl, hb0⟩
  · have hbi : ¬ (2147483647 : Int) < (m : Int) := by omega
    have hs2 : s.length ≤ 2147483647 := by have := (hm (by omega)).1; simpa using this
    have HB0 : Hid (Below W.heap.size W w0) := hb0
    clear hm hb0
    by_cases hA1 : A < -1
    · have HAR : Hid (armR (gst 0 [] 0 0) A = (1, gst 0 [] 0 0)) := by show armR (gst 0 [] 0 0) A = _; simp [armR, hA1]
      go_wp2_with (first
        | (go_at_call 9; refine (awake_any _).mono ?_; rintro e w1 ⟨rfl, hb1⟩; (have HB1 : Hid (Below W.heap.size W w1) := HB0.out.trans (hb1.mono HB0.out.size)); clear hb1)
        | (go_at_call 10; refine (new_any 1048576 none 0 [] _ (by simp) (by simp) (FRow.nil _ _)).mono ?_; rintro e w2 ⟨hb2, hN⟩; rcases hN with ⟨hN, _⟩ | ⟨_, a, rfl, hi2⟩; exact absurd g_new.1 hN; rw [g_new.2] at hi2; (have HB2 : Hid (Below W.heap.size W w2) := HB1.out.trans (hb2.mono HB1.out.size)); (have HI2 : Hid (IsDisk w2 (fun k => W.heap.size ≤ k) a (gst 0 [] 0 0)) := hi2.mono fun k _ hk => Nat.le_trans HB1.out.size hk); clear hb2 hi2)
        | (go_at_call 15; have hs := arm_any _ (fun k => W.heap.size ≤ k) a _ A hA HI2.out; rw [HAR.out] at hs; refine hs.mono ?_; clear hs; rintro e w3 ⟨rfl, hi3, ho3⟩; (have HB3 : Hid (Below W.heap.size W w3) := ho3.zone HB2.out); (have HI3 : Hid (IsDisk w3 (fun k => W.heap.size ≤ k) a _) := hi3); clear hi3 ho3))
      go_ret
      exact ⟨rfl, HB3.out⟩
    · have HAR : Hid (armR (gst 0 [] 0 0) A = (0, { gst 0 [] 0 0 with armed := A })) := (arm_new (by omega)).1
      have HA0 : Hid (Arms A { gst 0 [] 0 0 with armed := A } 0) := (arm_new (by omega)).2
      go_wp2_with (first
        | (go_at_call 9; refine (awake_any _).mono ?_; rintro e w1 ⟨rfl, hb1⟩; (have HB1 : Hid (Below W.heap.size W w1) := HB0.out.trans (hb1.mono HB0.out.size)); clear hb1)
        | (go_at_call 10; refine (new_any 1048576 none 0 [] _ (by simp) (by simp) (FRow.nil _ _)).mono ?_; rintro e w2 ⟨hb2, hN⟩; rcases hN with ⟨hN, _⟩ | ⟨_, a, rfl, hi2⟩; exact absurd g_new.1 hN; rw [g_new.2] at hi2; (have HB2 : Hid (Below W.heap.size W w2) := HB1.out.trans (hb2.mono HB1.out.size)); (have HI2 : Hid (IsDisk w2 (fun k => W.heap.size ≤ k) a (gst 0 [] 0 0)) := hi2.mono fun k _ hk => Nat.le_trans HB1.out.size hk); clear hb2 hi2)
        | (go_at_call 15; have hs := arm_any _ (fun k => W.heap.size ≤ k) a _ A hA HI2.out; rw [HAR.out] at hs; refine hs.mono ?_; clear hs; rintro e w3 ⟨rfl, hi3, ho3⟩; (have HB3 : Hid (Below W.heap.size W w3) := ho3.zone HB2.out); (have HI3 : Hid (IsDisk w3 (fun k => W.heap.size ≤ k) a _) := hi3); clear hi3 ho3))
      go_loopw [10, 11] (fun dn i wx => ∃ (k done : Nat) (st : St), k ≤ s.length ∧ i = .int .i64 k ∧ dn = .int .i64 (done : Int) ∧ done ≤ k ∧ Arms A st done ∧ (0 ≤ A → (done : Int) ≤ A) ∧ IsDisk wx (fun k => W.heap.size ≤ k) a st ∧ Below W.heap.size W wx) (fun _ i _ => s.length - (intOf i).toNat)
      case atStart => exact ⟨0, 0, _, Nat.zero_le _, rfl, rfl, Nat.le_refl _, HA0.out, fun h => by omega, HI3.out, HB3.out⟩
      case round =>
        clear HAR HA0 HI3 HI2 HB3 HB2 HB1 HB0
        obtain ⟨k, done, st, hk, rfl, rfl, hdk, harm, hle, hi, hb⟩ := hrel
        have HAM : Hid (Arms A st done) := harm
        have HLE : Hid (0 ≤ A → (done : Int) ≤ A) := hle
        have HI : Hid (IsDisk wr (fun k => W.heap.size ≤ k) a st) := hi
        have HB : Hid (Below W.heap.size W wr) := hb
        have hst : st.steps < 4611686018427387904 := by have := harm.steps; omega
        clear harm hle hi hb
        by_cases hlt : k < s.length
        · have hlti : (k : Int) < (s.length : Int) := by omega
          obtain ⟨x, hx⟩ : ∃ x, s[k] = x := ⟨_, rfl⟩
          obtain ⟨bb, off, rfl, d0, d1, d2, d3, d4, d5, _⟩ := (HQ.out.later HB.out).at hlt hx
          have HX : Hid (s[k] = x) := hx
          have HS1 : Hid (Step1 A st done (goR st x)) := goR_step (by omega) HAM.out HLE.out x
          obtain ⟨r, hr⟩ : ∃ r, goR st x = r := ⟨_, rfl⟩
          obtain ⟨G, st'⟩ := r
          have HGD : Hid (st.down = true → 1 ≤ x.what ∧ x.what ≤ 4 → G = 3) := fun h1 h2 => by
            have := goR_down x h1 h2
            rw [hr] at this
            exact this
          have HG1 : Hid (¬ (1 ≤ x.what ∧ x.what ≤ 4) → G = 1) := fun h2 => by
            have : goR st x = (1, st) := by
              unfold goR
              rw [if_neg (by omega), if_neg (by omega), if_neg (by omega), if_neg (by omega)]
            rw [hr] at this
            exact (Prod.mk.inj this).1
          rw [hr] at HS1
          have HR : Hid (goR st x = (G, st')) := hr
          have HLT : Hid (k < s.length) := hlt
          have hdd := HS1.out.down
          simp only at hdd
          clear hr hx
          go_wp2_with fail
          refine (down_any wr _ a st HI.out).mono ?_
          rintro e w4 ⟨rfl, rfl⟩
          go_wp2_with fail
          have hs := goes_any w4 (fun k => W.heap.size ≤ k) a st x HI.out (zone_new HB.out.size) hst
          rw [HR.out] at hs
          refine hs.mono ?_
          clear hs
          rintro e w5 ⟨rfl, hi5, ho5⟩
          have HB4 : Hid (Below W.heap.size W w5) := ho5.zone HB.out
          have HI4 : Hid (IsDisk w5 (fun k => W.heap.size ≤ k) a st') := hi5
          have e0 : w5.cell? ⟨bb, off + k * 6, none⟩ = some (.int .i64 x.what) := by
            obtain ⟨bb', off', e', f0, _⟩ := (HQ.out.later HB4.out).at HLT.out HX.out
            simp only [Option.some.injEq, Addr.mk.injEq] at e'
            rw [e'.1, e'.2.1]
            exact f0
          clear d0 d1 d2 d3 d4 d5 hi5 ho5
          go_wp2_with fail
          refine (down_any w5 _ a st' HI4.out).mono ?_
          rintro e w6 ⟨rfl, rfl⟩
          obtain ⟨wh, hwh⟩ : ∃ wh, x.what = wh := ⟨_, rfl⟩
          rw [hwh] at e0 HGD HG1
          clear hwh
          have HFELL : Hid (G = 3 → (done : Int) = A) := HS1.out.fell
          have HOTH : Hid (G ≠ 0 → Arms A st' done) := HS1.out.other
          have HZER : Hid (G = 0 → Arms A st' (done + 1) ∧ (0 ≤ A → (done : Int) + 1 ≤ A)) := HS1.out.zero
          clear HS1
          have hAcase : A = -1 ∨ 0 ≤ A := by omega
          cases hd : st.down with
          | true =>
            rw [hd] at hdd
            simp only [Bool.true_or] at hdd
            rw [hdd]
            have hA0 : 0 ≤ A := by
              rcases hAcase with g | g
              · have := (HAM.out.free g).2
                rw [hd] at this
                cases this
              · exact g
            have hdA : (done : Int) = A := (HAM.out.left hA0).2 hd
            by_cases hr1 : 1 ≤ wh
            · by_cases hr2 : wh ≤ 4
              · have hG3 := HGD.out hd ⟨hr1, hr2⟩
                subst hG3
                have HAA : Hid (Arms A st' done) := HOTH.out (by decide)
                clear hdA hd hdd
                have hdA2 : A = (done : Int) := by have := HFELL.out rfl; omega
                subst hdA2
                go_wp2
                go_roundw
                case rel => exact ⟨k + 1, done, st', HLT.out, by go_num, by first | rfl | go_num, by omega, HAA.out, fun _ => Int.le_refl _, HI4.out, HB4.out⟩
                case measure => have := HLT.out; simp [intOf]; omega
              · have hG1 := HG1.out (by omega)
                subst hG1
                have HAA : Hid (Arms A st' done) := HOTH.out (by decide)
                clear hd hdd
                have hdA2 : A = (done : Int) := by omega
                clear hdA
                subst hdA2
                go_wp2
                go_roundw
                case rel => exact ⟨k + 1, done, st', HLT.out, by go_num, by first | rfl | go_num, by omega, HAA.out, fun _ => Int.le_refl _, HI4.out, HB4.out⟩
                case measure => have := HLT.out; simp [intOf]; omega
            · have hG1 := HG1.out (by omega)
              subst hG1
              have HAA : Hid (Arms A st' done) := HOTH.out (by decide)
              clear hd hdd
              have hdA2 : A = (done : Int) := by omega
              clear hdA
              subst hdA2
              go_wp2
              go_roundw
              case rel => exact ⟨k + 1, done, st', HLT.out, by go_num, by first | rfl | go_num, by omega, HAA.out, fun _ => Int.le_refl _, HI4.out, HB4.out⟩
              case measure => have := HLT.out; simp [intOf]; omega
          | false =>
            rw [hd] at hdd
            simp only [Bool.false_or] at hdd
            by_cases g0 : G = 0
            · subst g0
              have hdd' : st'.down = false := by rw [hdd]; simp
              rw [hdd']
              have HAA : Hid (Arms A st' (done + 1)) := (HZER.out rfl).1
              have HLE2 : Hid (0 ≤ A → ((done + 1 : Nat) : Int) ≤ A) := fun h => by have := (HZER.out rfl).2 h; omega
              clear hdd hd hdd'
              rcases hAcase with g | g
              · have hAn : ¬ (0 : Int) ≤ A := by omega
                clear g
                go_wp2
                go_roundw
                case rel => exact ⟨k + 1, done + 1, st', HLT.out, by go_num, by first | rfl | go_num, by omega, HAA.out, HLE2.out, HI4.out, HB4.out⟩
                case measure => have := HLT.out; simp [intOf]; omega
              · have hle2 : (done : Int) + 1 ≤ A := (HZER.out rfl).2 g
                go_wp2
                go_roundw
                case rel => exact ⟨k + 1, done + 1, st', HLT.out, by go_num, by first | rfl | go_num, by omega, HAA.out, HLE2.out, HI4.out, HB4.out⟩
                case measure => have := HLT.out; simp [intOf]; omega
            · by_cases g3 : G = 3
              · subst g3
                have hdd' : st'.down = true := by rw [hdd]; simp
                rw [hdd']
                have HAA : Hid (Arms A st' done) := HOTH.out (by decide)
                have hdA2 : A = (done : Int) := by have := HFELL.out rfl; omega
                clear hdd hd hdd'
                subst hdA2
                go_wp2
                go_roundw
                case rel => exact ⟨k + 1, done, st', HLT.out, by go_num, by first | rfl | go_num, by omega, HAA.out, fun _ => Int.le_refl _, HI4.out, HB4.out⟩
                case measure => have := HLT.out; simp [intOf]; omega
              · have hdd' : st'.down = false := by rw [hdd]; exact decide_eq_false g3
                rw [hdd']
                have HAA : Hid (Arms A st' done) := HOTH.out g0
                have b0 : (G == 0) = false := by simpa using g0
                have b3 : (G == 3) = false := by simpa using g3
                have b3' : (G != 3) = true := by simpa using g3
                clear hdd hd hdd'
                rcases hAcase with g | g
                · have hAn : ¬ (0 : Int) ≤ A := by omega
                  clear g
                  go_wp2
                  go_roundw
                  case rel => exact ⟨k + 1, done, st', HLT.out, by go_num, by first | rfl | go_num, by omega, HAA.out, HLE.out, HI4.out, HB4.out⟩
                  case measure => have := HLT.out; simp [intOf]; omega
                · have hle2 : (done : Int) ≤ A := HLE.out g
                  go_wp2
                  go_roundw
                  case rel => exact ⟨k + 1, done, st', HLT.out, by go_num, by first | rfl | go_num, by omega, HAA.out, HLE.out, HI4.out, HB4.out⟩
                  case measure => have := HLT.out; simp [intOf]; omega
        · have hk' : k = s.length := by omega
          subst hk'
          have hsd : st.steps = done := HAM.out.steps
          go_wp2_with fail
          refine (steps_any wr _ a st HI.out).mono ?_
          rintro e w4 ⟨rfl, rfl⟩
          rw [hsd]
          go_wp2_with fail
          refine (files_any w4 _ a st HI.out).mono ?_
          rintro e w5 ⟨v, rfl, hf5, hb5⟩
          obtain ⟨pv, cv, rfl⟩ := own_form hf5
          have HB5 : Hid (Below W.heap.size W w5) := HB.out.trans (hb5.mono HB.out.size)
          have HI5 : Hid (IsDisk w5 (fun k => W.heap.size ≤ k) a st) := HI.out.later hb5
          clear hf5 hb5
          go_wp2_with fail
          refine (crash_any w5 (fun k => W.heap.size ≤ k) a st none 0 [] HI5.out (Ints.nil _ _) (Nat.le_refl _) (by simp)).mono ?_
          rintro e w6 ⟨rfl, hi6, ho6⟩
          have HB6 : Hid (Below W.heap.size W w6) := ho6.zone HB5.out
          have HI6 : Hid (IsDisk w6 (fun k => W.heap.size ≤ k) a (crashR st [])) := hi6
          clear hi6 ho6
          go_wp2_with fail
          refine (down_any w6 _ a _ HI6.out).mono ?_
          rintro e w7 ⟨rfl, rfl⟩
          rw [show (crashR st []).down = false from rfl]
          obtain ⟨L, hL⟩ : ∃ L, st.fs.length = L := ⟨_, rfl⟩
          rw [hL]
          by_cases h64 : 64 ≤ L
          · have h64i : (64 : Int) ≤ (L : Int) := by omega
            go_wp2
            go_ret
            exact ⟨rfl, HB6.out⟩
          · have h64i : ¬ (64 : Int) ≤ (L : Int) := by omega
            have HZA : Hid ((appR (crashR st []) [122] []).1 = 0 ∧ (appR (crashR st []) [122] []).2.steps = done + 1) := by
              have h1 := z_app HI6.out.ok (by show (crashL [] st.fs).length < 64; rw [crashL_length, hL]; omega) rfl rfl
              rw [show (crashR st []).steps = done from hsd] at h1
              exact h1
            clear hL
            go_wp2_with fail
            have hs := append_any w7 (fun k => W.heap.size ≤ k) a _ ⟨#[122]⟩ ⟨#[]⟩ HI6.out (zone_new HB6.out.size) (by show st.steps < _; omega)
            rw [show (appR (crashR st []) [122] []).1 = 0 from HZA.out.1] at hs
            refine hs.mono ?_
            clear hs
            rintro e w8 ⟨rfl, hi8, ho8⟩
            have HB8 : Hid (Below W.heap.size W w8) := ho8.zone HB6.out
            clear ho8
            go_wp2_with fail
            refine (steps_any w8 _ a _ hi8).mono ?_
            rintro e w9 ⟨rfl, rfl⟩
            rw [show (appR (crashR st []) [122] []).2.steps = done + 1 from HZA.out.2]
            have hdi : ((done + 1 : Nat) : Int) = (done : Int) + 1 := by omega
            rw [hdi]
            clear hi8 hdi
            go_wp2
            go_ret
            exact ⟨rfl, HB8.out⟩
end Go.Proofs.Ytmmejcmajpljaaa
