/- Walks of layer 3, ninth part: a number out of its digits. -/
import Derived.Test.YtfgpopkibjijgaaR8
import Derived.Laws.BitsAllLaws
namespace Go.Proofs.Ytfgpopkibjijgaa
open Go.RowKit

theorem lo_take {s : ByteArray} {k : Nat} (h : k < s.size) : lo (s.data.toList.take (k + 1)) = lo (s.data.toList.take k) + 128 ^ k * (s[k].toNat % 128) := by
  rw [List.take_succ_eq_append_getElem (by simpa using h), lo_snoc, List.length_take, Nat.min_eq_left (by simp; omega)]
  rfl
theorem pow7 (k : Nat) : (128 : Nat) ^ k = 2 ^ (7 * k) := by rw [Nat.pow_mul]
theorem pow_far {k : Nat} (h : 10 ≤ k) : ∃ e, (128 : Nat) ^ k = 18446744073709551616 * e := by
  refine ⟨2 ^ (7 * k - 64), ?_⟩
  rw [pow7, show (18446744073709551616 : Nat) = 2 ^ 64 from rfl, ← Nat.pow_add]
  congr 1
  omega
/-- A digit, moved to its place. -/
def pl (c k : Nat) : Nat := 128 ^ k * (c % 128) % 18446744073709551616
theorem pl_lt (c k : Nat) : pl c k < 18446744073709551616 := Nat.mod_lt _ (by omega)
theorem shl_nat (c k : Nat) : IntKind.u64.wrap ((c : Int) % 128 * 2 ^ min (k * 7) 64) = (pl c k : Int) := by
  rw [IntKind.wrap_u64, Nat.mul_comm k 7]
  unfold pl
  by_cases h : 7 * k ≤ 64
  · rw [Nat.min_eq_left h, pow7]
    simp [Int.mul_comm]
  · rw [Nat.min_eq_right (by omega)]
    obtain ⟨e, he⟩ := pow_far (k := k) (by omega)
    rw [he, Nat.mul_assoc, Nat.mul_mod_right]
    simp
theorem lo_step {L k c : Nat} (hL : L < 128 ^ k) : (pl c k % 128 ^ k = 0 ∨ 10 ≤ k) ∧ (k < 10 → L < 18446744073709551616) ∧ (L + 128 ^ k * (c % 128)) % 18446744073709551616 = (if 10 ≤ k then L % 18446744073709551616 else L + pl c k) ∧ (10 ≤ k → pl c k = 0) := by
  have hc : c % 128 < 128 := Nat.mod_lt _ (by omega)
  unfold pl
  by_cases h : 10 ≤ k
  · obtain ⟨e, he⟩ := pow_far h
    rw [if_pos h, he, Nat.mul_assoc]
    refine ⟨Or.inr h, fun g => by omega, by rw [Nat.add_mul_mod_self_left], fun _ => Nat.mul_mod_right _ _⟩
  · rw [if_neg h]
    have hk : k = 0 ∨ k = 1 ∨ k = 2 ∨ k = 3 ∨ k = 4 ∨ k = 5 ∨ k = 6 ∨ k = 7 ∨ k = 8 ∨ k = 9 := by omega
    rcases hk with rfl | rfl | rfl | rfl | rfl | rfl | rfl | rfl | rfl | rfl <;> simp only [Nat.reducePow] at hL ⊢ <;> omega
theorem lo_or {L k c : Nat} (hL : L < 128 ^ k) : bits BinOp.or IntKind.u64 ((L % 18446744073709551616 : Nat) : Int) (pl c k : Int) = (((L + 128 ^ k * (c % 128)) % 18446744073709551616 : Nat) : Int) := by
  obtain ⟨h1, h2, h3, h4⟩ := lo_step (c := c) hL
  rw [u64_or_nat _ _ (Nat.mod_lt _ (by omega)) (pl_lt _ _), h3]
  by_cases h : 10 ≤ k
  · rw [if_pos h, h4 h, Nat.or_zero]
  · rw [if_neg h, Nat.mod_eq_of_lt (h2 (by omega)), Nat.or_comm]
    rcases h1 with h1 | h1
    · rw [pow7] at h1 hL
      rw [nat_join (7 * k) _ _ h1 hL, Nat.add_comm]
    · omega
theorem lo_add {L k c : Nat} : ((L % 18446744073709551616 : Nat) + pl c k) % 18446744073709551616 = (L + 128 ^ k * (c % 128)) % 18446744073709551616 := by
  unfold pl
  omega

set_option maxHeartbeats 4000000 in
set_option maxRecDepth 100000 in
theorem rnum_any (s : ByteArray) (w : World) (hs : s.size ≤ 2147483648) : Calls Try.prog 28 #[.string s] w (VR 1 s w) := by
  go_enter Try.func28, Try.ntmps28
  go_wp2
  go_loopw [5, 9] (fun v i wr => ∃ k : Nat, k ≤ s.size ∧ i = .int .i64 k ∧ (∃ x : Nat, v = .int .u64 (x : Int) ∧ x = lo (s.data.toList.take k) % 18446744073709551616) ∧ (∀ b ∈ s.data.toList.take k, 128 ≤ b.toNat) ∧ wr = w.alloc (.cells #[.int .i64 0, .int .i64 0, .string ⟨#[]⟩] 25)) (fun _ i _ => s.size - (intOf i).toNat)
  case atStart => exact ⟨0, Nat.zero_le _, rfl, ⟨0, rfl, by simp [lo]⟩, by simp, rfl⟩
  case round =>
    obtain ⟨k, hk, rfl, ⟨x, rfl, hx⟩, hall, rfl⟩ := hrel
    have HA : Hid (∀ b ∈ s.data.toList.take k, 128 ≤ b.toNat) := hall
    by_cases hlt : k < s.size
    · have hcb := UInt8.toNat_lt s[k]
      have h7 : (0 : Int) ≤ (k : Int) * 7 := by omega
      have h7' : ¬ (k : Int) * 7 < 0 := by omega
      obtain ⟨Y, hY⟩ : ∃ Y, pl s[k].toNat k = Y := ⟨_, rfl⟩
      have hsh := shl_nat s[k].toNat k
      obtain ⟨X, hX⟩ : ∃ X, lo (s.data.toList.take (k + 1)) % 18446744073709551616 = X := ⟨_, rfl⟩
      have hor : bits BinOp.or IntKind.u64 (x : Int) (Y : Int) = (X : Int) := by
        have hl := lo_lt (s.data.toList.take k)
        rw [List.length_take, Nat.min_eq_left (by simp; omega)] at hl
        rw [hx, ← hY, ← hX, lo_or hl, lo_take hlt]
      rw [hY] at hsh
      have hXl : X < 18446744073709551616 := by rw [← hX]; exact Nat.mod_lt _ (by omega)
      have HX : Hid (lo (s.data.toList.take (k + 1)) % 18446744073709551616 = X) := hX
      clear hx hall hX hY
      by_cases hc : s[k].toNat < 128
      · have hci : (s[k].toNat : Int) < 128 := by omega
        have HV : Hid (RF 1 s.data.toList (1, unf X, ⟨#[]⟩) (s.extract (k + 1) s.size).data.toList true) := by
          have := rf_int (s := s.data.toList) (i := k) (by simpa using hlt) HA.out hc
          rw [HX.out] at this
          rw [ext_drop]
          exact this
        have hk1 : (k : Int) + 1 ≤ (s.size : Int) := by omega
        have hk2 : IntKind.i64.wrap ((k : Int) + 1) = (k : Int) + 1 := by rw [IntKind.wrap_i64]; omega
        have hk3 : (0 : Int) ≤ (k : Int) + 1 := by omega
        have hk4 : ((k : Int) + 1).toNat = k + 1 := by omega
        clear hc
        go_wp2
        go_region_law (first | (go_simp; go_at_call 31; refine (unfold_any X _ hXl).mono ?_; rintro e w2 ⟨rfl, rfl⟩; dsimp only))
        all_goals
          go_wp2
          exact bodyPost_ret (v := .tuple #[.agg #[.int .i64 1, .int .i64 (unf X), .string ⟨#[]⟩], .string (s.extract (k + 1) s.size), .bool true]) (by simp [results, Try.results28, go_sem]) rfl ⟨(1, unf X, ⟨#[]⟩), s.extract (k + 1) s.size, true, rfl, HV.out, by simp, by (repeat (first | exact Below.refl _ _ | assumption | refine Below.drew ?_ | refine below_drewN ?_ _ | refine Below.alloc ?_ (by first | omega | (simp; done) | (simp; omega)) _ | refine Below.setCell ?_ (by first | omega | (simp; done) | (simp; omega)) _ | refine Below.trans ?_ (Below.mono (by assumption) (by first | omega | (simp; done) | (simp; omega)))))⟩
      · have hci : ¬ (s[k].toNat : Int) < 128 := by omega
        have HA1 : Hid (∀ b ∈ s.data.toList.take (k + 1), 128 ≤ b.toNat) := by
          show ∀ b ∈ s.data.toList.take (k + 1), 128 ≤ b.toNat
          rw [List.take_succ_eq_append_getElem (by simpa using hlt)]
          intro b hb
          rcases List.mem_append.1 hb with hb | hb
          · exact HA.out b hb
          · rw [List.mem_singleton.1 hb]
            show 128 ≤ s[k].toNat
            omega
        clear hc
        go_wp2
        go_roundw
        case rel => exact ⟨k + 1, by omega, by go_num, ⟨X, rfl, HX.out.symm⟩, HA1.out, trivial⟩
        case measure => simp [intOf]; omega
    · have hk' : k = s.size := by omega
      subst hk'
      have HV : Hid (RF 1 s.data.toList (0, 0, ⟨#[]⟩) (⟨#[]⟩ : ByteArray).data.toList false) := rf_int0 s.size (Or.inr (by simp)) HA.out
      clear hall hx
      go_wp2
      exact bodyPost_ret (v := .tuple #[.agg #[.int .i64 0, .int .i64 0, .string ⟨#[]⟩], .string ⟨#[]⟩, .bool false]) (by simp [results, Try.results28, go_sem]) rfl ⟨(0, 0, ⟨#[]⟩), ⟨#[]⟩, false, rfl, HV.out, Nat.zero_le _, by (repeat (first | exact Below.refl _ _ | assumption | refine Below.drew ?_ | refine below_drewN ?_ _ | refine Below.alloc ?_ (by first | omega | (simp; done) | (simp; omega)) _ | refine Below.setCell ?_ (by first | omega | (simp; done) | (simp; omega)) _ | refine Below.trans ?_ (Below.mono (by assumption) (by first | omega | (simp; done) | (simp; omega)))))⟩
end Go.Proofs.Ytfgpopkibjijgaa
