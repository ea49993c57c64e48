/- Walks of layer 2, ninth part: a number out of its bytes. -/
import Derived.Test.YtbmgcibclmbelabDoorK8
import Derived.Test.YtbmgcibclmbelabDoorM23
import Derived.Laws.BitsAllLaws
namespace Go.Proofs.YtbmgcibclmbelabDoor
open Go.RowKit

theorem val8_take {s : ByteArray} {k : Nat} (h : k < s.size) : val8 (s.data.toList.take (k + 1)) = val8 (s.data.toList.take k) * 256 + s[k].toNat := by
  rw [List.take_succ_eq_append_getElem (by simpa using h), val8_snoc]
  rfl

theorem or_byte (X c : Nat) (hX : X * 256 < 18446744073709551616) (hc : c < 256) : bits BinOp.or IntKind.u64 (IntKind.u64.wrap ((X : Int) * 256)) (IntKind.u64.wrap (c : Int)) = ((X * 256 + c : Nat) : Int) := by
  have e1 : IntKind.u64.wrap ((X : Int) * 256) = ((X * 256 : Nat) : Int) := by rw [IntKind.wrap_u64]; omega
  have e2 : IntKind.u64.wrap (c : Int) = (c : Int) := by rw [IntKind.wrap_u64]; omega
  rw [e1, e2, u64_or_nat _ _ hX (by omega), Nat.or_comm, nat_join8' _ _ (by omega) hc]

set_option maxHeartbeats 2000000 in
set_option maxRecDepth 100000 in
theorem rword_any (s : ByteArray) (w : World) (hs : s.size ≤ 8) :
    Calls Tryd.prog 24 #[.string s] w fun e w' => e = .returned (.int .u64 (val8 s.data.toList : Int)) ∧ w' = w := by
  go_enter Tryd.func24, Tryd.ntmps24
  go_wp2
  go_loopw [3, 7] (fun v i wr => ∃ k : Nat, k ≤ s.size ∧ i = .int .i64 k ∧ (∃ x : Int, v = .int .u64 x ∧ x = (val8 (s.data.toList.take k) : Int)) ∧ wr = w) (fun _ i _ => s.size - (intOf i).toNat)
  case atStart => exact ⟨0, Nat.zero_le _, rfl, ⟨0, rfl, by simp [val8]⟩, rfl⟩
  case round =>
    obtain ⟨k, hk, rfl, ⟨x, rfl, hx⟩, rfl⟩ := hrel
    by_cases hlt : k < s.size
    · have HX : Hid (x = (val8 (s.data.toList.take k) : Int)) := hx
      have hv : val8 (s.data.toList.take (k + 1)) < 18446744073709551616 := val8_lt _ (by rw [List.length_take]; omega)
      rw [val8_take hlt] at hv
      have hcb := UInt8.toNat_lt s[k]
      have HB : Hid (bits BinOp.or IntKind.u64 (IntKind.u64.wrap (x * 256)) (IntKind.u64.wrap (s[k].toNat : Int)) = (val8 (s.data.toList.take (k + 1)) : Int)) := by
        have := or_byte (val8 (s.data.toList.take k)) s[k].toNat (by omega) hcb
        rw [← hx, ← val8_take hlt] at this
        exact this
      clear hx hv hcb
      go_wp2
      go_roundw
      case rel => exact ⟨k + 1, by omega, by go_num, ⟨_, rfl, HB.out⟩, trivial⟩
      case measure => simp [intOf]; omega
    · have hk' : k = s.size := by omega
      subst hk'
      have htk : s.data.toList.take s.size = s.data.toList := List.take_of_length_le (by simp)
      rw [htk] at hx
      have HX : Hid (x = (val8 s.data.toList : Int)) := hx
      clear hx htk
      go_wp2
      go_ret
      exact ⟨ret_int HX.out, rfl⟩
end Go.Proofs.YtbmgcibclmbelabDoor
