/- Walks of layer 3, thirteenth part: the document's own number out of its digits. -/
import Derived.Test.YtfgpopkibjijgaaR12
namespace Go.Proofs.Ytfgpopkibjijgaa
open Go.RowKit

/-- What ReadNumber answers: a number, and how many bytes it takes. -/
def NR (s : ByteArray) (w : World) (e : Ending) (w' : World) : Prop := ∃ (v : Int) (n : Nat), e = .returned (.tuple #[.int .i64 v, .int .i64 (n : Int)]) ∧ n ≤ s.size ∧ RF 1 s.data.toList (1, v, ⟨#[]⟩) (s.data.toList.drop n) true ∧ w' = w
theorem add_wrap {x Y X : Nat} (h : (x + Y) % 18446744073709551616 = X) : IntKind.u64.wrap ((x : Int) + (Y : Int)) = (X : Int) := by
  rw [IntKind.wrap_u64]; omega

set_option maxHeartbeats 4000000 in
set_option maxRecDepth 100000 in
theorem rdnum_any (s : ByteArray) (w : World) : Calls Try.prog 21 #[.string s] w (NR s w) := by
  go_enter Try.func21, Try.ntmps21
  go_wp2
  go_loopw [4, 5, 6] (fun v z i wr => ∃ k : Nat, k ≤ s.size ∧ k ≤ 10 ∧ i = .int .i64 k ∧ z = .int .i64 ((k : Int) * 7) ∧ (∃ x : Nat, v = .int .u64 (x : Int) ∧ x = lo (s.data.toList.take k) % 18446744073709551616) ∧ (∀ b ∈ s.data.toList.take k, 128 ≤ b.toNat) ∧ wr = w) (fun _ _ i _ => s.size - (intOf i).toNat)
  case atStart => exact ⟨0, Nat.zero_le _, by omega, rfl, rfl, ⟨0, rfl, by simp [lo]⟩, by simp, rfl⟩
  case round =>
    obtain ⟨k, hk, hk10, rfl, rfl, ⟨x, rfl, hx⟩, hall, rfl⟩ := hrel
    have HA : Hid (∀ b ∈ s.data.toList.take k, 128 ≤ b.toNat) := hall
    by_cases hgo : k < s.size ∧ k < 10
    · obtain ⟨hlt, hlt10⟩ := hgo
      have hcb := UInt8.toNat_lt s[k]
      have h7 : (0 : Int) ≤ (k : Int) * 7 := by omega
      have h7' : ¬ (k : Int) * 7 < 0 := by omega
      obtain ⟨Y, hY⟩ : ∃ Y, pl s[k].toNat k = Y := ⟨_, rfl⟩
      have hsh := shl_nat s[k].toNat k
      rw [Nat.min_eq_left (by omega)] at hsh
      obtain ⟨X, hX⟩ : ∃ X, lo (s.data.toList.take (k + 1)) % 18446744073709551616 = X := ⟨_, rfl⟩
      have hadd : IntKind.u64.wrap ((x : Int) + (Y : Int)) = (X : Int) := by
        apply add_wrap
        rw [hx, ← hY, ← hX, lo_add, lo_take hlt]
      rw [hY] at hsh
      have hXl : X < 18446744073709551616 := by rw [← hX]; exact Nat.mod_lt _ (by omega)
      have HX : Hid (lo (s.data.toList.take (k + 1)) % 18446744073709551616 = X) := hX
      clear hx hall hX hY
      by_cases hc : s[k].toNat < 128
      · have hci : (s[k].toNat : Int) < 128 := by omega
        have HV : Hid (RF 1 s.data.toList (1, unf X, ⟨#[]⟩) (s.data.toList.drop (k + 1)) true) := by
          have := rf_int (s := s.data.toList) (i := k) (by simpa using hlt) HA.out hc
          rw [HX.out] at this
          exact this
        clear hc
        by_cases hp : X % 2 = 1
        · have hpi : (X : Int) % 2 = 1 := by omega
          have HU : Hid (unf X = -((X : Int) / 2) - 1) := by show unf X = _; unfold unf; rw [if_pos hp]; omega
          clear hp
          go_wp2
          exact bodyPost_ret (v := .tuple #[.int .i64 (unf X), .int .i64 ((k + 1 : Nat) : Int)]) (by rw [HU.out]; simp [results, Try.results21, go_sem]) rfl ⟨unf X, k + 1, rfl, by omega, HV.out, rfl⟩
        · have hpi : (X : Int) % 2 = 0 := by omega
          have HU : Hid (unf X = (X : Int) / 2) := by show unf X = _; unfold unf; rw [if_neg hp]; omega
          clear hp
          go_wp2
          exact bodyPost_ret (v := .tuple #[.int .i64 (unf X), .int .i64 ((k + 1 : Nat) : Int)]) (by rw [HU.out]; simp [results, Try.results21, go_sem]) rfl ⟨unf X, k + 1, rfl, by omega, HV.out, rfl⟩
      · have hci : ¬ (s[k].toNat : Int) < 128 := by omega
        have HA1 : Hid (∀ b ∈ s.data.toList.take (k + 1), 128 ≤ b.toNat) := by
          show ∀ b ∈ s.data.toList.take (k + 1), 128 ≤ b.toNat
          rw [List.take_succ_eq_append_getElem (by simpa using hlt)]
          intro b hb
          rcases List.mem_append.1 hb with hb | hb
          · exact HA.out b hb
          · rw [List.mem_singleton.1 hb]
            show 128 ≤ s[k].toNat
            omega
        clear hc
        go_wp2
        go_roundw
        case rel => exact ⟨k + 1, by omega, by omega, by go_num, by go_num, ⟨X, rfl, HX.out.symm⟩, HA1.out, trivial⟩
        case measure => simp [intOf]; omega
    · have hgo' : ¬ (k : Int) < (s.size : Int) ∨ ((k : Int) < (s.size : Int) ∧ ¬ (k : Int) < 10) := by omega
      have HV : ∀ v, Hid (RF 1 s.data.toList (1, v, ⟨#[]⟩) (s.data.toList.drop k) true) := fun v => rf_int0 k (by rw [size_toList]; omega) HA.out
      have hxl : x < 18446744073709551616 := by rw [hx]; exact Nat.mod_lt _ (by omega)
      clear hall hx hgo
      have hp : (x : Int) % 2 = 1 ∨ (x : Int) % 2 = 0 := by omega
      rcases hgo' with a | ⟨a, b⟩
      all_goals
        rcases hp with hp | hp
        · go_wp2
          exact bodyPost_ret (v := .tuple #[.int .i64 (-((x : Int) / 2) - 1), .int .i64 (k : Int)]) (by simp [results, Try.results21, go_sem]) rfl ⟨_, k, rfl, hk, (HV _).out, rfl⟩
        · go_wp2
          exact bodyPost_ret (v := .tuple #[.int .i64 ((x : Int) / 2), .int .i64 (k : Int)]) (by simp [results, Try.results21, go_sem]) rfl ⟨_, k, rfl, hk, (HV _).out, rfl⟩
end Go.Proofs.Ytfgpopkibjijgaa
