/- Walks of layer 5, first part: the sum. -/
import Derived.Test.YtckmjmpajbjbkaaGreatDoorW1
import Derived.Test.YtckmjmpajbjbkaaGreatDoorM50
import Derived.Laws.BitsAllLaws
import Derived.Deep.QuietTactic
import Derived.BigQuiet
namespace Go.Proofs.YtckmjmpajbjbkaaGreatDoor
open Go.RowKit

theorem crc_take {s : ByteArray} {k : Nat} (h : k < s.size) : crcF 4294967295 (s.data.toList.take (k + 1)) = sy (crcF 4294967295 (s.data.toList.take k)) s[k] := by
  rw [List.take_succ_eq_append_getElem (by simpa using h), crcF_snoc]
  rfl
theorem crc_all (s : ByteArray) : crcF 4294967295 (s.data.toList.take s.size) = crcF 4294967295 s.data.toList := by
  rw [List.take_of_length_le (by simp)]

theorem sum_and {z : Nat} (h : z < 4294967296) : bits BinOp.and IntKind.u32 (z : Int) 1 = ((z % 2 : Nat) : Int) := by
  have := u32_and_nat z 1 h (by decide)
  rw [Nat.and_one_is_mod] at this
  exact this
theorem sum_bit {z : Nat} (h : z < 4294967296) : bits BinOp.xor IntKind.u32 ((z : Int) / 2) (bits BinOp.and IntKind.u32 (z : Int) 1 * 3988292384 % 4294967296) = (sb z : Int) := by
  have h2 : z % 2 * 3988292384 < 4294967296 := by
    have : z % 2 < 2 := Nat.mod_lt _ (by decide)
    omega
  have e1 : ((z : Int) / 2) = ((z / 2 : Nat) : Int) := by omega
  have e2 : (((z % 2 : Nat) : Int) * 3988292384 % 4294967296) = ((z % 2 * 3988292384 : Nat) : Int) := by omega
  rw [sum_and h, e1, e2, u32_xor_nat _ _ (by omega) h2]
  rfl
theorem sum_end {z : Nat} (h : z < 4294967296) : bits BinOp.xor IntKind.u32 IntKind.u32.max (z : Int) = ((z ^^^ 4294967295 : Nat) : Int) := by
  have := u32_xor_nat 4294967295 z (by decide) h
  rw [Nat.xor_comm z]
  exact this

set_option maxHeartbeats 2000000 in
set_option maxRecDepth 100000 in
theorem sum_any (s : ByteArray) (w : World) (hs : s.size ≤ 1099511627776) :
    Calls Tryz.prog 81 #[.string s] w fun e w' => e = .returned (.int .u32 (crc s.data.toList : Int)) ∧ w' = w := by
  go_enter Tryz.func81, Tryz.ntmps81
  go_wp2
  go_loopw [3, 8] (fun v i wr => ∃ k : Nat, k ≤ s.size ∧ i = .int .i64 k ∧ (∃ x : Nat, v = .int .u32 (x : Int) ∧ x = crcF 4294967295 (s.data.toList.take k)) ∧ w = wr) (fun _ i _ => s.size - (intOf i).toNat)
  case atStart => exact ⟨0, Nat.zero_le _, rfl, ⟨4294967295, rfl, by simp [crcF]⟩, rfl⟩
  case round =>
    obtain ⟨k, hk, rfl, ⟨x, rfl, hx⟩, rfl⟩ := hrel
    have hxl : x < 4294967296 := by rw [hx]; exact crcF_lt _ (by decide)
    by_cases hlt : k < s.size
    · have hcb := UInt8.toNat_lt s[k]
      have HX : Hid (crcF 4294967295 (s.data.toList.take (k + 1)) = sy x s[k]) := by rw [hx]; exact crc_take hlt
      obtain ⟨y, hy⟩ : ∃ y, x ^^^ s[k].toNat = y := ⟨_, rfl⟩
      have hxor : bits BinOp.xor IntKind.u32 (x : Int) (s[k].toNat : Int) = (y : Int) := by rw [u32_xor_nat _ _ hxl (by omega), hy]
      have HY : Hid (x ^^^ s[k].toNat = y) := hy
      have hyl : y < 4294967296 := by rw [← hy]; exact sx_lt _ hxl
      clear hx hy
      go_wp2
      go_loopw [3, 17] (fun v i wr => ∃ j : Nat, j ≤ 8 ∧ i = .int .i64 j ∧ (∃ z : Nat, v = .int .u32 (z : Int) ∧ z = sbs j y) ∧ w = wr) (fun _ i _ => 8 - (intOf i).toNat)
      case atStart => exact ⟨0, Nat.zero_le _, rfl, ⟨y, rfl, rfl⟩, rfl⟩
      case round =>
        obtain ⟨j, hj, rfl, ⟨z, rfl, hz⟩, rfl⟩ := hrel
        have hzl : z < 4294967296 := by rw [hz]; exact sbs_lt hyl j
        have HZ : Hid (z = sbs j y) := hz
        clear hz
        by_cases hlt8 : j < 8
        · go_wp2
          go_roundw
          case rel => exact ⟨j + 1, by omega, by go_num, ⟨sb z, by rw [sum_bit hzl], by rw [HZ.out]; rfl⟩, by first | rfl | trivial⟩
          case measure => simp [intOf]; omega
        · obtain rfl : j = 8 := by omega
          go_wp2
          go_roundw
          case rel => exact ⟨k + 1, by omega, by go_num, ⟨z, rfl, by rw [HZ.out, HX.out]; unfold sy; rw [HY.out]⟩, by first | rfl | trivial⟩
          case measure => simp [intOf]; omega
    · obtain rfl : k = s.size := by omega
      have HX : Hid (x = crcF 4294967295 (s.data.toList.take s.size)) := hx
      clear hx
      go_wp2
      go_ret
      exact ⟨ret_int (by rw [sum_end hxl, HX.out]; unfold crc; rw [crc_all]), rfl⟩

set_option maxHeartbeats 2000000 in
set_option maxRecDepth 100000 in
theorem rsum_any (s : ByteArray) (w : World) (hs : s.size ≤ 1099511627776) :
    Calls Tryz.prog 98 #[.string s] w fun e w' => e = .returned (.int .u32 (crc s.data.toList : Int)) ∧ w' = w := by
  go_enter Tryz.func98, Tryz.ntmps98
  go_wp2
  go_loopw [3, 4] (fun v i wr => ∃ k : Nat, k ≤ s.size ∧ i = .int .i64 k ∧ (∃ x : Nat, v = .int .u32 (x : Int) ∧ x = crcF 4294967295 (s.data.toList.take k)) ∧ w = wr) (fun _ i _ => s.size - (intOf i).toNat)
  case atStart => exact ⟨0, Nat.zero_le _, rfl, ⟨4294967295, rfl, by simp [crcF]⟩, rfl⟩
  case round =>
    obtain ⟨k, hk, rfl, ⟨x, rfl, hx⟩, rfl⟩ := hrel
    have hxl : x < 4294967296 := by rw [hx]; exact crcF_lt _ (by decide)
    by_cases hlt : k < s.size
    · have hcb := UInt8.toNat_lt s[k]
      have HX : Hid (crcF 4294967295 (s.data.toList.take (k + 1)) = sy x s[k]) := by rw [hx]; exact crc_take hlt
      obtain ⟨y, hy⟩ : ∃ y, x ^^^ s[k].toNat = y := ⟨_, rfl⟩
      have hxor : bits BinOp.xor IntKind.u32 (x : Int) (s[k].toNat : Int) = (y : Int) := by rw [u32_xor_nat _ _ hxl (by omega), hy]
      have HY : Hid (x ^^^ s[k].toNat = y) := hy
      have hyl : y < 4294967296 := by rw [← hy]; exact sx_lt _ hxl
      clear hx hy
      go_wp2
      go_loopw [3, 5] (fun v i wr => ∃ j : Nat, j ≤ 8 ∧ i = .int .i64 j ∧ (∃ z : Nat, v = .int .u32 (z : Int) ∧ z = sbs j y) ∧ w = wr) (fun _ i _ => 8 - (intOf i).toNat)
      case atStart => exact ⟨0, Nat.zero_le _, rfl, ⟨y, rfl, rfl⟩, rfl⟩
      case round =>
        obtain ⟨j, hj, rfl, ⟨z, rfl, hz⟩, rfl⟩ := hrel
        have hzl : z < 4294967296 := by rw [hz]; exact sbs_lt hyl j
        have HZ : Hid (z = sbs j y) := hz
        clear hz
        by_cases hlt8 : j < 8
        · rcases Nat.mod_two_eq_zero_or_one z with ho | ho
          · have hoi : (z : Int) % 2 = 0 := by omega
            go_wp2
            go_roundw
            case rel => exact ⟨j + 1, by omega, by go_num, ⟨sb z, by rw [sb_even ho]; rfl, by rw [HZ.out]; rfl⟩, by first | rfl | trivial⟩
            case measure => simp [intOf]; omega
          · have hoi : (z : Int) % 2 = 1 := by omega
            have hz2 : bits BinOp.xor IntKind.u32 ((z : Int) / 2) 3988292384 = (sb z : Int) := by
              have e1 : ((z : Int) / 2) = ((z / 2 : Nat) : Int) := by omega
              have := u32_xor_nat (z / 2) 3988292384 (by omega) (by decide)
              rw [e1, sb_odd ho]
              exact this
            go_wp2
            go_roundw
            case rel => exact ⟨j + 1, by omega, by go_num, ⟨sb z, rfl, by rw [HZ.out]; rfl⟩, by first | rfl | trivial⟩
            case measure => simp [intOf]; omega
        · obtain rfl : j = 8 := by omega
          go_wp2
          go_roundw
          case rel => exact ⟨k + 1, by omega, by go_num, ⟨z, rfl, by rw [HZ.out, HX.out]; unfold sy; rw [HY.out]⟩, by first | rfl | trivial⟩
          case measure => simp [intOf]; omega
    · obtain rfl : k = s.size := by omega
      have HX : Hid (x = crcF 4294967295 (s.data.toList.take s.size)) := hx
      clear hx
      have hend : bits BinOp.xor IntKind.u32 (x : Int) 4294967295 = ((x ^^^ 4294967295 : Nat) : Int) := u32_xor_nat x 4294967295 hxl (by decide)
      go_wp2
      go_ret
      exact ⟨ret_int (by rw [HX.out]; unfold crc; rw [crc_all]), rfl⟩
end Go.Proofs.YtckmjmpajbjbkaaGreatDoor
