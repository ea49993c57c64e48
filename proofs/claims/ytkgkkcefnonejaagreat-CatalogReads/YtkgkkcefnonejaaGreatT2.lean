/- Walks of layer 8: names. -/
import Derived.Test.YtkgkkcefnonejaaGreatT1
namespace Go.Proofs.YtkgkkcefnonejaaGreat
open Go.RowKit

theorem isNm_len {s : ByteArray} (h : ¬ (1 ≤ s.size ∧ s.size ≤ 16)) : isNm (bs s) = false := by
  cases e : isNm (bs s) with
  | false => rfl
  | true =>
    simp only [isNm, Bool.and_eq_true, decide_eq_true_eq, bs_len] at e
    exact absurd e.1.1 h
theorem isNm_size {s : ByteArray} (h : isNm (bs s) = true) : 1 ≤ s.size ∧ s.size ≤ 16 := by
  simp only [isNm, Bool.and_eq_true, decide_eq_true_eq, bs_len] at h
  exact h.1.1
theorem bs_get (s : ByteArray) (k : Nat) (h : k < s.size) : (bs s)[k]'(by rw [bs_len]; exact h) = s[k] := rfl
theorem isNm_head {s : ByteArray} (h : 0 < s.size) (e : smallB s[0] = false) : isNm (bs s) = false := by
  have : (bs s).head? = some s[0] := by
    rw [List.head?_eq_getElem?, List.getElem?_eq_getElem (by rw [bs_len]; exact h)]
    rfl
  simp [isNm, this, e]
theorem isNm_at {s : ByteArray} (k : Nat) (h : k < s.size) (e : nameB s[k] = false) : isNm (bs s) = false := by
  have : (bs s).all nameB = false := by
    rw [List.all_eq_false]
    exact ⟨s[k], by rw [← bs_get s k h]; exact List.getElem_mem _, by simp [e]⟩
  simp [isNm, this]
theorem isNm_yes {s : ByteArray} (h1 : 1 ≤ s.size) (h2 : s.size ≤ 16) (e : smallB (s[0]'(by omega)) = true) (ha : ∀ k (h : k < s.size), nameB s[k] = true) : isNm (bs s) = true := by
  have hh : (bs s).head? = some (s[0]'(by omega)) := by
    rw [List.head?_eq_getElem?, List.getElem?_eq_getElem (by rw [bs_len]; omega)]
    rfl
  have hl := bs_len s
  have ha' : (bs s).all nameB = true := by
    rw [List.all_eq_true]
    intro x hx
    obtain ⟨k, hk, rfl⟩ := List.getElem_of_mem hx
    rw [bs_len] at hk
    rw [bs_get s k hk]
    exact ha k hk
  simp only [isNm, hh, ha', hl, Option.any_some, e, decide_eq_true h1, decide_eq_true h2, Bool.and_true]

set_option maxHeartbeats 4000000 in
set_option maxRecDepth 100000 in
theorem name_any (s : ByteArray) (w : World) :
    Calls Tryz.prog 73 #[.string s] w fun e w' => e = .returned (.bool (isNm (bs s))) ∧ w' = w := by
  by_cases h1 : 1 ≤ s.size ∧ s.size ≤ 16
  · obtain ⟨h1, h2⟩ := h1
    have hf : fromB 1 16 (s.size : Int) = true := by simp [fromB]; omega
    have h0 : 0 < s.size := by omega
    cases hs : smallB s[0] with
    | false =>
      have HN : Hid (isNm (bs s) = false) := isNm_head h0 hs
      go_enter Tryz.func73, Tryz.ntmps73
      go_wp2_with (first | (go_at_call 79; refine (from_any _ _ _ _).mono ?_; rintro e w' ⟨rfl, he⟩; rw [hf, he]; clear he) | (go_at_call 122; refine (small_any s[0] _).mono ?_; rintro e w' ⟨rfl, he⟩; rw [hs, he]; clear he))
      go_ret
      exact ⟨ret_bool HN.out.symm, rfl⟩
    | true =>
      have HS : Hid (smallB s[0] = true) := hs
      go_enter Tryz.func73, Tryz.ntmps73
      go_wp2_with (first | (go_at_call 79; refine (from_any _ _ _ _).mono ?_; rintro e w' ⟨rfl, he⟩; rw [hf, he]; clear he) | (go_at_call 122; refine (small_any s[0] _).mono ?_; rintro e w' ⟨rfl, he⟩; rw [hs, he]; clear he))
      clear hs hf
      go_loop [16] (fun i => ∃ k : Nat, k ≤ s.size ∧ i = .int .i64 k ∧ ∀ j (h : j < s.size), j < k → nameB s[j] = true) (fun i => s.size - (intOf i).toNat)
      case atStart => exact ⟨0, Nat.zero_le _, rfl, fun j _ g => absurd g (Nat.not_lt_zero _)⟩
      case round =>
        obtain ⟨k, hk, rfl, hall⟩ := hrel
        have HA : Hid (∀ j (h : j < s.size), j < k → nameB s[j] = true) := hall
        clear hall
        by_cases hlt : k < s.size
        · have hlti : (k : Int) < (s.size : Int) := by omega
          have HK : Hid (nameB s[k] = true → ∀ j (h : j < s.size), j < k + 1 → nameB s[j] = true) := fun hn j h g => by
            by_cases e : j = k
            · subst e; exact hn
            · exact HA.out j h (by omega)
          have HN : Hid (nameB s[k] = false → isNm (bs s) = false) := fun hn => isNm_at k hlt hn
          cases g1 : smallB s[k] with
          | true =>
            have hn : nameB s[k] = true := by simp [nameB, g1]
            have HK2 := Lib.hid (HK.out hn)
            clear hn
            go_wp2_with (first | (go_at_call 122; refine (small_any s[k] _).mono ?_; rintro e w' ⟨rfl, he⟩; rw [g1, he]; clear he))
            go_round
            case rel => exact ⟨k + 1, by omega, by go_num, HK2.out⟩
            case measure => simp [intOf]; omega
          | false =>
            cases g2 : digitB s[k] with
            | true =>
              have hn : nameB s[k] = true := by simp [nameB, g2]
              have HK2 := Lib.hid (HK.out hn)
              clear hn
              go_wp2_with (first | (go_at_call 122; refine (small_any s[k] _).mono ?_; rintro e w' ⟨rfl, he⟩; rw [g1, he]; clear he) | (go_at_call 123; refine (digit_any s[k] _).mono ?_; rintro e w' ⟨rfl, he⟩; rw [g2, he]; clear he))
              go_round
              case rel => exact ⟨k + 1, by omega, by go_num, HK2.out⟩
              case measure => simp [intOf]; omega
            | false =>
              by_cases g3 : s[k].toNat = 95
              · have hn : nameB s[k] = true := by simp [nameB, g3]
                have HK2 := Lib.hid (HK.out hn)
                clear hn
                have g4 : ((s[k].toNat : Int) != 95) = false := by simp [g3]
                clear g3
                go_wp2_with (first | (go_at_call 122; refine (small_any s[k] _).mono ?_; rintro e w' ⟨rfl, he⟩; rw [g1, he]; clear he) | (go_at_call 123; refine (digit_any s[k] _).mono ?_; rintro e w' ⟨rfl, he⟩; rw [g2, he]; clear he))
                go_round
                case rel => exact ⟨k + 1, by omega, by go_num, HK2.out⟩
                case measure => simp [intOf]; omega
              · have hn : nameB s[k] = false := by simp [nameB, g1, g2, g3]
                have HN2 := Lib.hid (HN.out hn)
                clear hn
                have g4 : ((s[k].toNat : Int) != 95) = true := by simp; omega
                clear g3
                go_wp2_with (first | (go_at_call 122; refine (small_any s[k] _).mono ?_; rintro e w' ⟨rfl, he⟩; rw [g1, he]; clear he) | (go_at_call 123; refine (digit_any s[k] _).mono ?_; rintro e w' ⟨rfl, he⟩; rw [g2, he]; clear he))
                go_ret
                exact ⟨ret_bool HN2.out.symm, rfl⟩
        · have hk' : k = s.size := by omega
          subst hk'
          have HN : Hid (isNm (bs s) = true) := isNm_yes h1 h2 HS.out fun j h => HA.out j h h
          go_wp2
          go_ret
          exact ⟨ret_bool HN.out.symm, rfl⟩
  · have HN : Hid (isNm (bs s) = false) := isNm_len h1
    have hf : fromB 1 16 (s.size : Int) = false := by
      cases e : fromB 1 16 (s.size : Int) with
      | false => rfl
      | true => simp [fromB] at e; omega
    go_enter Tryz.func73, Tryz.ntmps73
    go_wp2_with (first | (go_at_call 79; refine (from_any _ _ _ _).mono ?_; rintro e w' ⟨rfl, he⟩; rw [hf, he]; clear he))
    go_ret
    exact ⟨ret_bool HN.out.symm, rfl⟩
end Go.Proofs.YtkgkkcefnonejaaGreat
