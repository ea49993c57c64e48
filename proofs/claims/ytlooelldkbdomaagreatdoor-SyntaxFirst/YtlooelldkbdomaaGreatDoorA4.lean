/- Walks of layer 10: names, as the document tells them. -/
import Derived.Test.YtlooelldkbdomaaGreatDoorA3
namespace Go.Proofs.YtlooelldkbdomaaGreatDoor
open Go.RowKit

theorem cls_small (b : UInt8) : (cls b = 5) ↔ (97 ≤ b.toNat ∧ b.toNat ≤ 122) := by
  unfold cls
  constructor
  · intro h
    by_cases g : 97 ≤ b.toNat ∧ b.toNat ≤ 122
    · exact g
    · rw [if_neg g] at h
      repeat (first | (split at h; · simp at h) | (simp at h; done))
  · intro g
    rw [if_neg (by omega), if_neg (by omega), if_neg (by omega), if_pos g]
theorem cls_digit (b : UInt8) : (cls b = 4) ↔ (48 ≤ b.toNat ∧ b.toNat ≤ 57) := by
  unfold cls
  constructor
  · intro h
    by_cases g : 48 ≤ b.toNat ∧ b.toNat ≤ 57
    · exact g
    · rw [if_neg g] at h
      repeat (first | (split at h; · simp at h) | (simp at h; done))
  · intro g
    rw [if_neg (by omega), if_neg (by omega), if_pos g]
theorem cls_under (b : UInt8) : (cls b = 7) ↔ b.toNat = 95 := by
  unfold cls
  constructor
  · intro h
    by_cases g : b.toNat = 95
    · exact g
    · rw [if_neg (c := b.toNat = 95) g] at h
      repeat (first | (split at h; · simp at h) | (simp at h; done))
  · intro g
    rw [if_neg (by omega), if_neg (by omega), if_neg (by omega), if_neg (by omega), if_neg (by omega), if_pos g]
set_option maxHeartbeats 1000000 in
theorem dsmall_any (b : UInt8) (w : World) : Calls Tryz.prog 79 #[.int .u8 (b.toNat : Int)] w fun e w' => e = .returned (.bool (decide (cls b = 5))) ∧ w' = w := by
  rw [show decide (cls b = 5) = decide (97 ≤ b.toNat ∧ b.toNat ≤ 122) from by rw [Bool.eq_iff_iff, decide_eq_true_eq, decide_eq_true_eq]; exact cls_small b]
  obtain ⟨x, hx⟩ : ∃ x, b.toNat = x := ⟨_, rfl⟩
  rw [hx]
  clear hx
  by_cases h1 : 97 ≤ x
  · have i1 : (97 : Int) ≤ (x : Int) := by omega
    by_cases h2 : x ≤ 122
    · have i2 : (x : Int) ≤ 122 := by omega
      have HV : Hid (decide (97 ≤ x ∧ x ≤ 122) = true) := decide_eq_true ⟨h1, h2⟩
      go_enter Tryz.func79, Tryz.ntmps79
      go_wp2
      go_ret
      first | exact ⟨ret_bool HV.out.symm, rfl⟩ | exact ⟨rfl, rfl⟩
    · have i2 : ¬ (x : Int) ≤ 122 := by omega
      have HV : Hid (decide (97 ≤ x ∧ x ≤ 122) = false) := decide_eq_false (by omega)
      go_enter Tryz.func79, Tryz.ntmps79
      go_wp2
      go_ret
      first | exact ⟨ret_bool HV.out.symm, rfl⟩ | exact ⟨rfl, rfl⟩
  · have i1 : ¬ (97 : Int) ≤ (x : Int) := by omega
    have HV : Hid (decide (97 ≤ x ∧ x ≤ 122) = false) := decide_eq_false (by omega)
    go_enter Tryz.func79, Tryz.ntmps79
    go_wp2
    go_ret
    first | exact ⟨ret_bool HV.out.symm, rfl⟩ | exact ⟨rfl, rfl⟩
set_option maxHeartbeats 1000000 in
theorem ddigit_any (b : UInt8) (w : World) : Calls Tryz.prog 80 #[.int .u8 (b.toNat : Int)] w fun e w' => e = .returned (.bool (decide (cls b = 4))) ∧ w' = w := by
  rw [show decide (cls b = 4) = decide (48 ≤ b.toNat ∧ b.toNat ≤ 57) from by rw [Bool.eq_iff_iff, decide_eq_true_eq, decide_eq_true_eq]; exact cls_digit b]
  obtain ⟨x, hx⟩ : ∃ x, b.toNat = x := ⟨_, rfl⟩
  rw [hx]
  clear hx
  by_cases h1 : 48 ≤ x
  · have i1 : (48 : Int) ≤ (x : Int) := by omega
    by_cases h2 : x ≤ 57
    · have i2 : (x : Int) ≤ 57 := by omega
      have HV : Hid (decide (48 ≤ x ∧ x ≤ 57) = true) := decide_eq_true ⟨h1, h2⟩
      go_enter Tryz.func80, Tryz.ntmps80
      go_wp2
      go_ret
      first | exact ⟨ret_bool HV.out.symm, rfl⟩ | exact ⟨rfl, rfl⟩
    · have i2 : ¬ (x : Int) ≤ 57 := by omega
      have HV : Hid (decide (48 ≤ x ∧ x ≤ 57) = false) := decide_eq_false (by omega)
      go_enter Tryz.func80, Tryz.ntmps80
      go_wp2
      go_ret
      first | exact ⟨ret_bool HV.out.symm, rfl⟩ | exact ⟨rfl, rfl⟩
  · have i1 : ¬ (48 : Int) ≤ (x : Int) := by omega
    have HV : Hid (decide (48 ≤ x ∧ x ≤ 57) = false) := decide_eq_false (by omega)
    go_enter Tryz.func80, Tryz.ntmps80
    go_wp2
    go_ret
    first | exact ⟨ret_bool HV.out.symm, rfl⟩ | exact ⟨rfl, rfl⟩
theorem isName_none {s : ByteArray} (h : s.size < 1) : isName s = false := isName_head (by rw [clsAt_out (by omega)]; decide)

set_option maxHeartbeats 4000000 in
set_option maxRecDepth 100000 in
theorem dIsName_any (s : ByteArray) (w : World) : Calls Tryz.prog 41 #[.string s] w fun e w' => e = .returned (.bool (isName s)) ∧ w' = w := by
  by_cases h1 : s.size < 1
  · have i1 : (s.size : Int) < 1 := by omega
    have HV : Hid (isName s = false) := isName_none h1
    go_enter Tryz.func41, Tryz.ntmps41
    go_wp2
    go_ret
    exact ⟨ret_bool HV.out.symm, rfl⟩
  · have i1 : ¬ (s.size : Int) < 1 := by omega
    by_cases h2 : 16 < s.size
    · have i2 : (16 : Int) < (s.size : Int) := by omega
      have HV : Hid (isName s = false) := isName_long (by omega)
      go_enter Tryz.func41, Tryz.ntmps41
      go_wp2
      go_ret
      exact ⟨ret_bool HV.out.symm, rfl⟩
    · have i2 : ¬ (16 : Int) < (s.size : Int) := by omega
      go_enter Tryz.func41, Tryz.ntmps41
      go_wp2
      clear i1 i2
      go_loop [3] (fun i => ∃ k : Nat, k ≤ s.size ∧ i = .int .i64 k ∧ (∀ j, j < k → nmB (clsAt s j) = true) ∧ (0 < k → clsAt s 0 = 5)) (fun i => s.size - (intOf i).toNat)
      case atStart => exact ⟨0, Nat.zero_le _, rfl, fun j g => absurd g (Nat.not_lt_zero _), fun g => absurd g (Nat.not_lt_zero _)⟩
      case round =>
        obtain ⟨k, hk, rfl, hall, hz⟩ := hrel
        have HA := Lib.hid hall
        have HZ := Lib.hid hz
        clear hall hz
        by_cases hlt : k < s.size
        · have hlti : (k : Int) < (s.size : Int) := by omega
          have HCK : Hid (clsAt s k = cls s[k]) := clsAt_in hlt
          have hu := cls_under s[k]
          obtain ⟨c, hc⟩ : ∃ c, cls s[k] = c := ⟨_, rfl⟩
          have HD := ddigit_any s[k]
          have HS := dsmall_any s[k]
          rw [hc] at HD HS hu
          have HDD := Lib.hid HD
          have HSS := Lib.hid HS
          have HCC := Lib.hid hc
          clear HD HS hc
          have HST : Hid (nmB c = true → (k = 0 → c = 5) → (∀ j, j < k + 1 → nmB (clsAt s j) = true) ∧ (0 < k + 1 → clsAt s 0 = 5)) := by
            intro hn h0
            refine ⟨fun j g => ?_, fun _ => ?_⟩
            · by_cases e : j = k
              · rw [e, HCK.out, HCC.out]; exact hn
              · exact HA.out j (by omega)
            · by_cases e : k = 0
              · have := HCK.out
                rw [HCC.out, h0 e] at this
                rw [← e]; exact this
              · exact HZ.out (by omega)
          by_cases e5 : c = 5
          · subst e5
            have HST2 := Lib.hid (HST.out rfl fun _ => rfl)
            clear hu
            go_wp2_with (first | (go_at_call 79; refine (HSS.out _).mono ?_; rintro e w' ⟨rfl, he⟩; rw [he]; clear he) | (go_at_call 80; refine (HDD.out _).mono ?_; rintro e w' ⟨rfl, he⟩; rw [he]; clear he))
            go_round
            case rel => exact ⟨k + 1, by omega, by go_num, HST2.out.1, HST2.out.2⟩
            case measure => simp [intOf]; omega
          · have d5 : decide (c = 5) = false := decide_eq_false e5
            rw [d5] at HSS
            by_cases k0 : k = 0
            · subst k0
              have HV : Hid (isName s = false) := isName_head (by rw [HCK.out, HCC.out]; exact e5)
              obtain ⟨bd, hbd⟩ : ∃ bd, decide (c = 4) = bd := ⟨_, rfl⟩
              rw [hbd] at HDD
              clear hu
              go_wp2_with (first | (go_at_call 79; refine (HSS.out _).mono ?_; rintro e w' ⟨rfl, he⟩; rw [he]; clear he) | (go_at_call 80; refine (HDD.out _).mono ?_; rintro e w' ⟨rfl, he⟩; rw [he]; clear he))
              go_ret
              exact ⟨ret_bool HV.out.symm, rfl⟩
            · have q0 : ((k : Int) == 0) = false := by simpa using k0
              by_cases e4 : c = 4
              · subst e4
                have HST2 := Lib.hid (HST.out rfl fun e => absurd e k0)
                clear hu
                go_wp2_with (first | (go_at_call 79; refine (HSS.out _).mono ?_; rintro e w' ⟨rfl, he⟩; rw [he]; clear he) | (go_at_call 80; refine (HDD.out _).mono ?_; rintro e w' ⟨rfl, he⟩; rw [he]; clear he))
                go_round
                case rel => exact ⟨k + 1, by omega, by go_num, HST2.out.1, HST2.out.2⟩
                case measure => simp [intOf]; omega
              · have d4 : decide (c = 4) = false := decide_eq_false e4
                rw [d4] at HDD
                by_cases e7 : c = 7
                · have q95 : ((s[k].toNat : Int) != 95) = false := by simp [hu.1 e7]
                  have HST2 := Lib.hid (HST.out (by rw [e7]; rfl) fun e => absurd e k0)
                  clear hu e4 e5 e7
                  go_wp2_with (first | (go_at_call 79; refine (HSS.out _).mono ?_; rintro e w' ⟨rfl, he⟩; rw [he]; clear he) | (go_at_call 80; refine (HDD.out _).mono ?_; rintro e w' ⟨rfl, he⟩; rw [he]; clear he))
                  go_round
                  case rel => exact ⟨k + 1, by omega, by go_num, HST2.out.1, HST2.out.2⟩
                  case measure => simp [intOf]; omega
                · have q95 : ((s[k].toNat : Int) != 95) = true := by
                    have : s[k].toNat ≠ 95 := fun e => e7 (hu.2 e)
                    simp; omega
                  have HV : Hid (isName s = false) := isName_at hlt (by rw [HCK.out, HCC.out]; simp [nmB, e5, e4, e7])
                  clear hu e4 e5 e7
                  go_wp2_with (first | (go_at_call 79; refine (HSS.out _).mono ?_; rintro e w' ⟨rfl, he⟩; rw [he]; clear he) | (go_at_call 80; refine (HDD.out _).mono ?_; rintro e w' ⟨rfl, he⟩; rw [he]; clear he))
                  go_ret
                  exact ⟨ret_bool HV.out.symm, rfl⟩
        · have hlti : ¬ (k : Int) < (s.size : Int) := by omega
          have HV : Hid (isName s = true) := isName_yes (HZ.out (by omega)) (by omega) fun j h => HA.out j (by omega)
          go_wp2
          go_ret
          exact ⟨ret_bool HV.out.symm, rfl⟩
end Go.Proofs.YtlooelldkbdomaaGreatDoor
