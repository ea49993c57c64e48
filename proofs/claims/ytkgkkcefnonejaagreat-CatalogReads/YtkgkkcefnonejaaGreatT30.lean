/- Walks of layer 8: a reader, and the numbers it reads. -/
import Derived.Test.YtkgkkcefnonejaaGreatT26
import Derived.Test.YtkgkkcefnonejaaGreatM101
import Derived.Laws.BitsAllLaws
namespace Go.Proofs.YtkgkkcefnonejaaGreat
open Go.RowKit

theorem lo_take {s : ByteArray} {k : Nat} (h : k < s.size) : lo ((bs s).take (k + 1)) = lo ((bs s).take k) + 128 ^ k * (s[k].toNat % 128) := by
  rw [List.take_succ_eq_append_getElem (by rw [bs_len]; exact h), lo_snoc, List.length_take, Nat.min_eq_left (by rw [bs_len]; omega)]
  rfl
theorem pow7 (k : Nat) : (128 : Nat) ^ k = 2 ^ (7 * k) := by rw [Nat.pow_mul]
theorem pow_far {k : Nat} (h : 10 ≤ k) : ∃ e, (128 : Nat) ^ k = 18446744073709551616 * e := by
  refine ⟨2 ^ (7 * k - 64), ?_⟩
  rw [pow7, show (18446744073709551616 : Nat) = 2 ^ 64 from rfl, ← Nat.pow_add]
  congr 1
  omega
/-- A digit, moved to its place. -/
def pl (c k : Nat) : Nat := 128 ^ k * (c % 128) % 18446744073709551616
theorem pl_lt (c k : Nat) : pl c k < 18446744073709551616 := Nat.mod_lt _ (by omega)
theorem shl_nat (c k : Nat) : IntKind.u64.wrap ((c : Int) % 128 * 2 ^ min (k * 7) 64) = (pl c k : Int) := by
  rw [IntKind.wrap_u64, Nat.mul_comm k 7]
  unfold pl
  by_cases h : 7 * k ≤ 64
  · rw [Nat.min_eq_left h, pow7]
    simp [Int.mul_comm]
  · rw [Nat.min_eq_right (by omega)]
    obtain ⟨e, he⟩ := pow_far (k := k) (by omega)
    rw [he, Nat.mul_assoc, Nat.mul_mod_right]
    simp
theorem lo_step {L k c : Nat} (hL : L < 128 ^ k) : (pl c k % 128 ^ k = 0 ∨ 10 ≤ k) ∧ (k < 10 → L < 18446744073709551616) ∧ (L + 128 ^ k * (c % 128)) % 18446744073709551616 = (if 10 ≤ k then L % 18446744073709551616 else L + pl c k) ∧ (10 ≤ k → pl c k = 0) := by
  have hc : c % 128 < 128 := Nat.mod_lt _ (by omega)
  unfold pl
  by_cases h : 10 ≤ k
  · obtain ⟨e, he⟩ := pow_far h
    rw [if_pos h, he, Nat.mul_assoc]
    refine ⟨Or.inr h, fun g => by omega, by rw [Nat.add_mul_mod_self_left], fun _ => Nat.mul_mod_right _ _⟩
  · rw [if_neg h]
    have hk : k = 0 ∨ k = 1 ∨ k = 2 ∨ k = 3 ∨ k = 4 ∨ k = 5 ∨ k = 6 ∨ k = 7 ∨ k = 8 ∨ k = 9 := by omega
    rcases hk with rfl | rfl | rfl | rfl | rfl | rfl | rfl | rfl | rfl | rfl <;> simp only [Nat.reducePow] at hL ⊢ <;> omega
theorem lo_or {L k c : Nat} (hL : L < 128 ^ k) : bits BinOp.or IntKind.u64 ((L % 18446744073709551616 : Nat) : Int) (pl c k : Int) = (((L + 128 ^ k * (c % 128)) % 18446744073709551616 : Nat) : Int) := by
  obtain ⟨h1, h2, h3, h4⟩ := lo_step (c := c) hL
  rw [u64_or_nat _ _ (Nat.mod_lt _ (by omega)) (pl_lt _ _), h3]
  by_cases h : 10 ≤ k
  · rw [if_pos h, h4 h, Nat.or_zero]
  · rw [if_neg h, Nat.mod_eq_of_lt (h2 (by omega)), Nat.or_comm]
    rcases h1 with h1 | h1
    · rw [pow7] at h1 hL
      rw [nat_join (7 * k) _ _ h1 hL, Nat.add_comm]
    · omega

/-- A reader and what is left to it. -/
def Rdr (w : World) (r : Nat) (s : ByteArray) : Prop := w.heap[r]? = some (.cells #[.string s] 85 (0, 0))
theorem Rdr.later {w w' : World} {r : Nat} {s : ByteArray} (h : Rdr w r s) (hb : Below w.heap.size w w') : Rdr w' r s := heap_of h hb
theorem Rdr.lt {w : World} {r : Nat} {s : ByteArray} (h : Rdr w r s) : r < w.heap.size := (Array.getElem?_eq_some_iff.1 h).1
theorem Rdr.set {w : World} {r : Nat} {s : ByteArray} (h : Rdr w r s) (t : ByteArray) : Rdr (w.setCell ⟨r, 0, none⟩ (.string t)) r t := by
  have : (w.setCell ⟨r, 0, none⟩ (.string t)).heap[r]? = some (.cells (#[Value.string s].setIfInBounds 0 (.string t)) 85 (0, 0)) := by
    simp only [World.setCell, Array.getElem?_modify, if_true]
    rw [show w.heap[r]? = _ from h]
    simp
  exact this
theorem ext_bs {t : ByteArray} {n : Nat} : bs (t.extract n t.size) = (bs t).drop n := by
  simp [bs]
  exact List.take_of_length_le (by simp)
theorem minU_eq (a b : Nat) (W : World) : (Builtin.min_ #[154, 154] 154 #[.int .u64 (a : Int), .int .u64 (b : Int)]).run Tryz.prog W = .ok (.int .u64 ((min a b : Nat) : Int)) W := by
  simp [Builtin.min_, Builtin.min2]
  split <;> omega
/-- What is told of a number. -/
def UpP (r : Nat) (s : ByteArray) (M : Nat) (w : World) (e : Ending) (w' : World) : Prop := ∃ (n : Nat) (s' : ByteArray), e = .returned (.int .i64 (n : Int)) ∧ n ≤ M ∧ Rdr w' r s' ∧ s'.size ≤ s.size ∧ Rd num (fun m => m ≤ M ∧ m < 2097152) (bs s) n (bs s') ∧ Only (fun k => k = r) w w'

set_option maxHeartbeats 8000000 in
set_option maxRecDepth 100000 in
theorem upTo_any (r : Nat) (s : ByteArray) (M : Nat) (w : World) (h : Rdr w r s) (hs : s.size ≤ 2147483648) (hM : M ≤ 2147483648) :
    Calls Tryz.prog 93 #[.pointer (some ⟨r, 0, none⟩), .int .i64 (M : Int)] w (UpP r s M w) := by
  have c0 := cell_of_one h
  have f0 := free_of_one h
  have HH := Lib.hid h
  have hmin := minU_eq
  clear h
  go_enter Tryz.func93, Tryz.ntmps93
  go_wp2
  go_loopw [5, 13] (fun v i wr => ∃ k : Nat, k ≤ s.size ∧ i = .int .i64 k ∧ (∃ x : Nat, v = .int .u64 (x : Int) ∧ x = lo ((bs s).take k) % 18446744073709551616) ∧ (∀ b ∈ (bs s).take k, 128 ≤ b.toNat) ∧ wr = w) (fun _ i _ => s.size - (intOf i).toNat)
  case atStart => exact ⟨0, Nat.zero_le _, rfl, ⟨0, rfl, by simp [lo]⟩, by simp, rfl⟩
  case round =>
    obtain ⟨k, hk, rfl, ⟨x, rfl, hx⟩, hall, rfl⟩ := hrel
    have HA : Hid (∀ b ∈ (bs s).take k, 128 ≤ b.toNat) := hall
    by_cases hlt : k < s.size
    · have hlti : (k : Int) < (s.size : Int) := by omega
      have hcb := UInt8.toNat_lt s[k]
      have h7 : (0 : Int) ≤ (k : Int) * 7 := by omega
      have h7' : ¬ (k : Int) * 7 < 0 := by omega
      obtain ⟨Y, hY⟩ : ∃ Y, pl s[k].toNat k = Y := ⟨_, rfl⟩
      have hsh := shl_nat s[k].toNat k
      obtain ⟨X, hX⟩ : ∃ X, lo ((bs s).take (k + 1)) % 18446744073709551616 = X := ⟨_, rfl⟩
      have hor : bits BinOp.or IntKind.u64 (x : Int) (Y : Int) = (X : Int) := by
        have hl := lo_lt ((bs s).take k)
        rw [List.length_take, Nat.min_eq_left (by rw [bs_len]; omega)] at hl
        rw [hx, ← hY, ← hX, lo_or hl, lo_take hlt]
      rw [hY] at hsh
      have hXl : X < 18446744073709551616 := by rw [← hX]; exact Nat.mod_lt _ (by omega)
      have HX : Hid (lo ((bs s).take (k + 1)) % 18446744073709551616 = X) := hX
      clear hx hall hX hY
      by_cases hc : s[k].toNat < 128
      · have hci : (s[k].toNat : Int) < 128 := by omega
        obtain ⟨N, hN⟩ : ∃ N, min X M = N := ⟨_, rfl⟩
        have hNM : N ≤ M := by omega
        have HV : Hid (Rd num (fun m => m ≤ M ∧ m < 2097152) (bs s) N (bs (s.extract (k + 1) s.size))) := by
          intro m y hm e
          have hbl : k < (bs s).length := by rw [bs_len]; exact hlt
          have hsp : bs s = (bs s).take k ++ (bs s)[k] :: (bs s).drop (k + 1) := by
            rw [← List.drop_eq_getElem_cons hbl, List.take_append_drop]
          obtain ⟨e1, e2⟩ := num_front (bs s)[k] ((bs s).drop (k + 1)) y hc ((bs s).take k) m hm.2 HA.out (by rw [← e, ← hsp])
          rw [ext_bs]
          refine ⟨?_, e2.symm⟩
          have e3 : lo ((bs s).take (k + 1)) = m := by
            rw [List.take_succ_eq_append_getElem hbl, ← e1]
            exact lo_num hm.2
          have := HX.out
          rw [e3] at this
          omega
        have hmN : ∀ W, (Builtin.min_ #[154, 154] 154 #[.int .u64 (X : Int), .int .u64 (M : Int)]).run Tryz.prog W = .ok (.int .u64 (N : Int)) W := fun W => by rw [← hN]; exact minU_eq X M W
        have hk1 : (k : Int) + 1 ≤ (s.size : Int) := by omega
        have hk2 : IntKind.i64.wrap ((k : Int) + 1) = (k : Int) + 1 := by rw [IntKind.wrap_i64]; omega
        have hk3 : (0 : Int) ≤ (k : Int) + 1 := by omega
        have hk4 : ((k : Int) + 1).toNat = k + 1 := by omega
        have hu : IntKind.u64.wrap (M : Int) = (M : Int) := by rw [IntKind.wrap_u64]; omega
        have hv : IntKind.i64.wrap (N : Int) = (N : Int) := by rw [IntKind.wrap_i64]; omega
        clear hc hmin hN
        go_wp2
        go_ret
        refine ⟨N, s.extract (k + 1) s.size, rfl, hNM, HH.out.set _, ?_, HV.out, Only.setCell (Z := fun k => k = r) (Only.refl _ _) (p := ⟨r, 0, none⟩) rfl _⟩
        simp
      · have hci : ¬ (s[k].toNat : Int) < 128 := by omega
        have HA1 : Hid (∀ b ∈ (bs s).take (k + 1), 128 ≤ b.toNat) := by
          show ∀ b ∈ (bs s).take (k + 1), 128 ≤ b.toNat
          rw [List.take_succ_eq_append_getElem (by rw [bs_len]; exact hlt)]
          intro b hb
          rcases List.mem_append.1 hb with hb | hb
          · exact HA.out b hb
          · rw [List.mem_singleton.1 hb]
            show 128 ≤ s[k].toNat
            omega
        clear hc hmin
        go_wp2
        go_roundw
        case rel => exact ⟨k + 1, by omega, by go_num, ⟨X, rfl, HX.out.symm⟩, HA1.out, trivial⟩
        case measure => simp [intOf]; omega
    · have hk' : k = s.size := by omega
      subst hk'
      have HV : Hid (Rd num (fun m => m ≤ M ∧ m < 2097152) (bs s) 0 (bs (⟨#[]⟩ : ByteArray))) := by
        intro m y hm e
        exfalso
        obtain ⟨b, hb, hb2⟩ := num_has hm.2
        have h1 := HA.out b (by rw [List.take_of_length_le (by rw [bs_len]; omega), e]; exact List.mem_append_left _ hb)
        omega
      clear hall hx
      go_wp2
      go_ret
      exact ⟨0, ⟨#[]⟩, rfl, Nat.zero_le _, HH.out.set _, Nat.zero_le _, HV.out, Only.setCell (Z := fun k => k = r) (Only.refl _ _) (p := ⟨r, 0, none⟩) rfl _⟩
end Go.Proofs.YtkgkkcefnonejaaGreat
