/- Walks of layer 10: names, as the program tells them. -/
import Derived.Test.YtlooelldkbdomaaGreatDoorA1
namespace Go.Proofs.YtlooelldkbdomaaGreatDoor
open Go.RowKit

set_option maxHeartbeats 4000000 in
set_option maxRecDepth 100000 in
theorem isName_any (s : ByteArray) (w : World) : Calls Tryz.prog 29 #[.string s] w fun e w' => e = .returned (.bool (isName s)) ∧ w' = w := by
  obtain ⟨c0, hc0⟩ : ∃ c0, clsAt s 0 = c0 := ⟨_, rfl⟩
  have HC0 := classAt_any s 0
  rw [hc0] at HC0
  have HQ0 : Hid (∀ w, Calls Tryz.prog 67 #[.string s, .int .i64 0] w fun e w' => e = .returned (.int .i64 c0) ∧ w' = w) := HC0
  clear HC0
  by_cases h5 : c0 = 5
  · subst h5
    by_cases hl : s.size ≤ 16
    · have hli : ¬ (16 : Int) < (s.size : Int) := by omega
      have H0 := Lib.hid hc0
      clear hc0
      go_enter Tryz.func29, Tryz.ntmps29
      go_wp2_with (first | (go_at_call 67; refine (HQ0.out _).mono ?_; rintro e w' ⟨rfl, he⟩; rw [he]; clear he))
      go_loop [14] (fun i => ∃ k : Nat, k ≤ s.size ∧ i = .int .i64 k ∧ ∀ j, j < k → nmB (clsAt s j) = true) (fun i => s.size - (intOf i).toNat)
      case atStart => exact ⟨0, Nat.zero_le _, rfl, fun j g => absurd g (Nat.not_lt_zero _)⟩
      case round =>
        obtain ⟨k, hk, rfl, hall⟩ := hrel
        have HA := Lib.hid hall
        clear hall
        by_cases hlt : k < s.size
        · have hlti : (k : Int) < (s.size : Int) := by omega
          obtain ⟨c, hc⟩ : ∃ c, clsAt s k = c := ⟨_, rfl⟩
          have HK : Hid (nmB c = true → ∀ j, j < k + 1 → nmB (clsAt s j) = true) := fun hn j g => by
            by_cases e : j = k
            · subst e; rw [hc]; exact hn
            · exact HA.out j (by omega)
          have HN : Hid (nmB c = false → isName s = false) := fun hn => isName_at hlt (by rw [hc]; exact hn)
          have HQ := classAt_any s k
          rw [hc] at HQ
          have HQK : Hid (∀ w, Calls Tryz.prog 67 #[.string s, .int .i64 (k : Int)] w fun e w' => e = .returned (.int .i64 c) ∧ w' = w) := HQ
          clear HQ hc
          by_cases e5 : c = 5
          · subst e5
            have HK2 := Lib.hid (HK.out rfl)
            go_wp2_with (first | (go_at_call 67; refine (HQK.out _).mono ?_; rintro e w' ⟨rfl, he⟩; rw [he]; clear he))
            go_round
            case rel => exact ⟨k + 1, by omega, by go_num, HK2.out⟩
            case measure => simp [intOf]; omega
          · have q5 : (c == 5) = false := by simpa using e5
            by_cases e4 : c = 4
            · subst e4
              have HK2 := Lib.hid (HK.out rfl)
              go_wp2_with (first | (go_at_call 67; refine (HQK.out _).mono ?_; rintro e w' ⟨rfl, he⟩; rw [he]; clear he))
              go_round
              case rel => exact ⟨k + 1, by omega, by go_num, HK2.out⟩
              case measure => simp [intOf]; omega
            · have q4 : (c == 4) = false := by simpa using e4
              by_cases e7 : c = 7
              · subst e7
                have HK2 := Lib.hid (HK.out rfl)
                go_wp2_with (first | (go_at_call 67; refine (HQK.out _).mono ?_; rintro e w' ⟨rfl, he⟩; rw [he]; clear he))
                go_round
                case rel => exact ⟨k + 1, by omega, by go_num, HK2.out⟩
                case measure => simp [intOf]; omega
              · have q7 : (c == 7) = false := by simpa using e7
                have HN2 := Lib.hid (HN.out (by simp [nmB, e5, e4, e7]))
                clear e5 e4 e7
                go_wp2_with (first | (go_at_call 67; refine (HQK.out _).mono ?_; rintro e w' ⟨rfl, he⟩; rw [he]; clear he))
                go_ret
                exact ⟨ret_bool HN2.out.symm, rfl⟩
        · have hlti : ¬ (k : Int) < (s.size : Int) := by omega
          have HN : Hid (isName s = true) := isName_yes H0.out hl fun j h => HA.out j (by omega)
          go_wp2
          go_ret
          exact ⟨ret_bool HN.out.symm, rfl⟩
    · have hli : (16 : Int) < (s.size : Int) := by omega
      have HN : Hid (isName s = false) := isName_long hl
      go_enter Tryz.func29, Tryz.ntmps29
      go_wp2_with (first | (go_at_call 67; refine (HQ0.out _).mono ?_; rintro e w' ⟨rfl, he⟩; rw [he]; clear he))
      go_ret
      exact ⟨ret_bool HN.out.symm, rfl⟩
  · have q5 : (c0 != 5) = true := by simpa using h5
    have HN : Hid (isName s = false) := isName_head (by rw [hc0]; exact h5)
    clear h5 hc0
    go_enter Tryz.func29, Tryz.ntmps29
    go_wp2_with (first | (go_at_call 67; refine (HQ0.out _).mono ?_; rintro e w' ⟨rfl, he⟩; rw [he]; clear he))
    go_ret
    exact ⟨ret_bool HN.out.symm, rfl⟩
end Go.Proofs.YtlooelldkbdomaaGreatDoor
