/- Walks of layer 6, eleventh part: mend, settle. -/
import Derived.Test.YteanhkdnakmggaaGreatDoorJ10
namespace Go.Proofs.YteanhkdnakmggaaGreatDoor
open Go.RowKit

theorem mendS : (⟨#[109, 101, 110, 100]⟩ : ByteArray).data.toList = mendN := rfl
theorem remR_steps (st : St) (s : Nm) : (remR st s).2.steps ≤ st.steps + 1 := stepR_steps _ _ _
theorem appR_steps (st : St) (s : Nm) (t : List UInt8) : (appR st s t).2.steps ≤ st.steps + 1 := stepR_steps _ _ _
theorem synR_steps (st : St) (s : Nm) : (synR st s).2.steps ≤ st.steps + 1 := stepR_steps _ _ _
theorem renR_steps (st : St) (s t : Nm) : (renR st s t).2.steps ≤ st.steps + 1 := stepR_steps _ _ _

set_option maxHeartbeats 8000000 in
set_option maxRecDepth 100000 in
theorem mend_any (B : Nat) (w : World) (X : Nat → Prop) (l a : Nat) (st : St) (g : Lg) (h : IsLog B w X l a st g) (hX : ∀ k, w.heap.size ≤ k → X k) (hst : st.steps < 4611686018427387000) (s t : ByteArray) :
    Calls Tryz.prog 77 #[.pointer (some ⟨l, 0, none⟩), .string s, .string t] w fun e w' => e = .returned (.int .i64 (mendR st s.data.toList t.data.toList).1) ∧ IsLog B w' X l a (mendR st s.data.toList t.data.toList).2 g ∧ Only X w w' := by
  obtain ⟨p, cap, es, h⟩ := h
  have HI : Hid (IsLogE B w X l a st g p cap es) := h
  have HX : Hid (∀ k, w.heap.size ≤ k → X k) := hX
  obtain ⟨Y, hL⟩ := h.at
  have c0 := hL.lc.c0
  obtain ⟨r1, hr1⟩ : ∃ r1, remR st mendN = r1 := ⟨_, rfl⟩
  have s1 := remR_steps st mendN
  rw [hr1] at s1
  obtain ⟨r2, hr2⟩ : ∃ r2, appR r1.2 mendN t.data.toList = r2 := ⟨_, rfl⟩
  have s2 := appR_steps r1.2 mendN t.data.toList
  rw [hr2] at s2
  obtain ⟨r3, hr3⟩ : ∃ r3, synR r2.2 mendN = r3 := ⟨_, rfl⟩
  have s3 := synR_steps r2.2 mendN
  rw [hr3] at s3
  obtain ⟨r4, hr4⟩ : ∃ r4, renR r3.2 mendN s.data.toList = r4 := ⟨_, rfl⟩
  have HM : Hid (mendR st s.data.toList t.data.toList = if r1.1 ≠ 0 ∧ r1.1 ≠ 41 then r1 else if r2.1 ≠ 0 then r2 else if r3.1 ≠ 0 then r3 else r4) := by
    have : mendR st s.data.toList t.data.toList = if r1.1 ≠ 0 ∧ r1.1 ≠ 41 then r1 else if r2.1 ≠ 0 then r2 else if r3.1 ≠ 0 then r3 else r4 := by
      simp only [mendR, thenR, hr1, hr2, hr3, hr4]
    exact this
  have HR1 : Hid (remR st mendN = r1) := hr1
  have HR2 : Hid (appR r1.2 mendN t.data.toList = r2) := hr2
  have HR3 : Hid (synR r2.2 mendN = r3) := hr3
  have HR4 : Hid (renR r3.2 mendN s.data.toList = r4) := hr4
  clear h hX hL hr1 hr2 hr3 hr4
  go_enter Tryz.func77, Tryz.ntmps77
  go_wp2_with fail
  refine (dremove_any HI.out HX.out (by omega) ⟨#[109, 101, 110, 100]⟩).mono ?_
  rintro e w1 ⟨rfl, hi1, ho1⟩
  rw [mendS, HR1.out] at hi1
  rw [mendS, HR1.out]
  have HI1 : Hid (IsLogE B w1 X l a r1.2 g p cap es) := hi1
  have HO1 : Hid (Only X w w1) := ho1
  obtain ⟨Y1, hL1⟩ := hi1.at
  have c1 := hL1.lc.c0
  have z1 := ho1.size
  clear hi1 ho1 hL1
  by_cases h1 : r1.1 ≠ 0 ∧ r1.1 ≠ 41
  · obtain ⟨h1a, h1b⟩ := h1
    have g1 : (r1.1 != 0) = true := bne_iff_ne.2 h1a
    have g2 : (r1.1 != 41) = true := bne_iff_ne.2 h1b
    have HG1 : Hid (r1.1 ≠ 0 ∧ r1.1 ≠ 41) := ⟨h1a, h1b⟩
    clear h1a h1b
    go_wp2
    go_ret
    rw [HM.out, if_pos HG1.out]
    exact ⟨rfl, HI1.out.is, HO1.out⟩
  · have h1c : r1.1 = 0 ∨ r1.1 = 41 := by omega
    have HM2 : Hid (mendR st s.data.toList t.data.toList = if r2.1 ≠ 0 then r2 else if r3.1 ≠ 0 then r3 else r4) := by
      have := HM.out
      rw [if_neg h1] at this
      exact this
    clear h1
    rcases h1c with he | he
    all_goals
      rw [he]
      clear he
      go_wp2_with fail
      refine (dappend_any HI1.out (fun k hk => HX.out k (by omega)) (by omega) ⟨#[109, 101, 110, 100]⟩ t).mono ?_
      rintro e w2 ⟨rfl, hi2, ho2⟩
      rw [mendS, HR2.out] at hi2
      rw [mendS, HR2.out]
      have HI2 : Hid (IsLogE B w2 X l a r2.2 g p cap es) := hi2
      have HO2 : Hid (Only X w w2) := HO1.out.trans ho2
      obtain ⟨Y2, hL2⟩ := hi2.at
      have c2 := hL2.lc.c0
      have z2 := ho2.size
      clear hi2 ho2 hL2
      by_cases h2 : r2.1 = 0
      · have HM3 : Hid (mendR st s.data.toList t.data.toList = if r3.1 ≠ 0 then r3 else r4) := by
          have := HM2.out
          rw [if_neg (by rw [h2]; simp)] at this
          exact this
        rw [h2]
        clear h2
        go_wp2_with fail
        refine (dsync_any HI2.out (fun k hk => HX.out k (by omega)) (by omega) ⟨#[109, 101, 110, 100]⟩).mono ?_
        rintro e w3 ⟨rfl, hi3, ho3⟩
        rw [mendS, HR3.out] at hi3
        rw [mendS, HR3.out]
        have HI3 : Hid (IsLogE B w3 X l a r3.2 g p cap es) := hi3
        have HO3 : Hid (Only X w w3) := HO2.out.trans ho3
        obtain ⟨Y3, hL3⟩ := hi3.at
        have c3 := hL3.lc.c0
        have z3 := ho3.size
        clear hi3 ho3 hL3
        by_cases h3 : r3.1 = 0
        · have HM4 : Hid (mendR st s.data.toList t.data.toList = r4) := by
            have := HM3.out
            rw [if_neg (by rw [h3]; simp)] at this
            exact this
          rw [h3]
          clear h3
          go_wp2_with fail
          refine (drename_any HI3.out (fun k hk => HX.out k (by omega)) (by omega) ⟨#[109, 101, 110, 100]⟩ s).mono ?_
          rintro e w4 ⟨rfl, hi4, ho4⟩
          rw [mendS, HR4.out] at hi4
          rw [mendS, HR4.out]
          go_wp2
          go_ret
          rw [HM4.out]
          exact ⟨rfl, hi4.is, HO3.out.trans ho4⟩
        · go_wp2
          go_ret
          rw [HM3.out, if_pos h3]
          exact ⟨rfl, HI3.out.is, HO3.out⟩
      · go_wp2
        go_ret
        rw [HM2.out, if_pos h2]
        exact ⟨rfl, HI2.out.is, HO2.out⟩
end Go.Proofs.YteanhkdnakmggaaGreatDoor
