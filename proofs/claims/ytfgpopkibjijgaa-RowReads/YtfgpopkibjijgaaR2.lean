/- Walks of layer 3, second part: numbers as digits. -/
import Derived.Test.YtfgpopkibjijgaaR1
namespace Go.Proofs.Ytfgpopkibjijgaa
open Go.RowKit

theorem kbytes_any (n : Nat) (w : World) (hn : n ≤ 1000000) :
    Calls Try.prog 23 #[.int .i64 (n : Int)] w fun e w' => e = .returned (.int .i64 ((n + 3) / 4 : Nat)) ∧ w' = w := by
  go_enter Try.func23, Try.ntmps23
  go_wp2
  go_ret
  exact ⟨ret_int (by first | omega | (go_simp; omega)), rfl⟩

theorem fold_any (n : Int) (w : World) (h : -4611686018427387904 ≤ n) (h' : n ≤ 4611686018427387904) :
    Calls Try.prog 25 #[.int .i64 n] w fun e w' => e = .returned (.int .u64 (fd n : Int)) ∧ w' = w := by
  by_cases h0 : n < 0
  · go_enter Try.func25, Try.ntmps25
    go_wp2
    go_ret
    exact ⟨ret_int (by unfold fd; rw [if_pos h0]; first | omega | (simp only [IntKind.wrap_u64, IntKind.wrap_i64]; omega)), rfl⟩
  · go_enter Try.func25, Try.ntmps25
    go_wp2
    go_ret
    exact ⟨ret_int (by unfold fd; rw [if_neg (by omega)]; first | omega | (simp only [IntKind.wrap_u64, IntKind.wrap_i64]; omega)), rfl⟩

theorem unfold_any (m : Nat) (w : World) (hm : m < 18446744073709551616) :
    Calls Try.prog 31 #[.int .u64 (m : Int)] w fun e w' => e = .returned (.int .i64 (unf m)) ∧ w' = w := by
  by_cases h0 : m % 2 = 1
  · have h0' : (m : Int) % 2 = 1 := by omega
    go_enter Try.func31, Try.ntmps31
    go_wp2
    go_ret
    exact ⟨ret_int (by unfold unf; rw [if_pos h0]; first | omega | (simp only [IntKind.wrap_u64, IntKind.wrap_i64]; omega)), rfl⟩
  · have h0' : (m : Int) % 2 = 0 := by omega
    go_enter Try.func31, Try.ntmps31
    go_wp2
    go_ret
    exact ⟨ret_int (by unfold unf; rw [if_neg h0]; first | omega | (simp only [IntKind.wrap_u64, IntKind.wrap_i64]; omega)), rfl⟩

/-- A number's digits behind others. -/
def DA (B n : Nat) (xs : List UInt8) (m : Nat) (w : World) (e : Ending) (w' : World) : Prop := ∃ v', e = .returned v' ∧ w'.ownsRow B 5 1 v' (n + (dg m).length) (bv (xs ++ dg m)) ∧ Below B w w'

set_option maxHeartbeats 2000000 in
set_option maxRecDepth 100000 in
theorem digits_any (B n : Nat) (v : Value) (xs : List UInt8) (m : Nat) (w : World) (hown : w.ownsRow B 5 1 v n (bv xs)) (hn : n ≤ 1000000000) (hB : B ≤ w.heap.size) (hm : m < 18446744073709551616) :
    Calls Try.prog 24 #[v, .int .u64 (m : Int)] w (DA B n xs m w) := by
  obtain ⟨i0, hi, hz0, hz1, hz2⟩ := info_parts Try.info5
  have hdl := dg_len 9 m (by omega)
  go_enter Try.func24, Try.ntmps24
  go_wp2
  go_loopw [0, 1] (fun v i wr => ∃ (k : Nat) (p : List UInt8), k < 18446744073709551616 ∧ i = .int .u64 k ∧ dg m = p ++ dg k ∧ wr.ownsRow B 5 1 v (n + p.length) (bv (xs ++ p)) ∧ Below B w wr) (fun _ i _ => (intOf i).toNat)
  case atStart => exact ⟨m, [], hm, rfl, rfl, by simpa using hown, Below.refl _ _⟩
  case round =>
    clear hown
    obtain ⟨k, p, hk, rfl, hp, hown, hb⟩ := hrel
    have hsz := hb.size
    have hlt := hown.lt
    have hpl : p.length + (dg k).length ≤ 10 := by have := congrArg List.length hp; rw [List.length_append] at this; omega
    have hkp := dg_pos k
    have HP : Hid (dg m = p ++ dg k) := hp
    clear hp
    by_cases h : 128 ≤ k
    · have h' : (128 : Int) ≤ (k : Int) := by omega
      have HD : Hid (dg k = UInt8.ofNat (k % 128 + 128) :: dg (k / 128)) := dg_big (by omega)
      go_wp2_with (first | (at_builtin; refine wpList_append_own _ rfl _ _ 40 rfl B 5 i0 (.int .u8 0) 1 1 Try.underlying40 hi hz0 hz1 hz2 rfl (by decide) _ _ _ rfl (hown.alloc _) ⟨wr.heap.size, 0, none⟩ 1 1 (bv [UInt8.ofNat (k % 128 + 128)]) rfl rfl ?c1 ?c2 ?c3 ?c4 ?c5 ?_))
      case c1 => exact cells1 wr _ _ _ (by rw [UInt8.toNat_ofNat']; omega)
      case c2 => exact bv_one _
      case c3 => unfold maxLen; omega
      case c4 => omega
      case c5 => simp; omega
      · intro v' w1 hown' hgrow _
        have hbb : Below B w w1 := (hb.alloc (by omega) _).grown hgrow (by simp; omega) fun k hk => (hlt k hk).1
        rw [← bv_append, List.append_assoc] at hown'
        clear hgrow hown hlt
        go_wp2
        go_roundw
        case rel => exact ⟨k / 128, p ++ [UInt8.ofNat (k % 128 + 128)], by omega, by go_num, by rw [HP.out, HD.out]; simp, by simpa [Nat.add_assoc] using hown', hbb⟩
        case measure => simp [intOf]; omega
    · have h' : ¬ (128 : Int) ≤ (k : Int) := by omega
      have HD : Hid (dg k = [UInt8.ofNat k]) := dg_small (by omega)
      go_wp2_with (first | (at_builtin; refine wpList_append_own _ rfl _ _ 40 rfl B 5 i0 (.int .u8 0) 1 1 Try.underlying40 hi hz0 hz1 hz2 rfl (by decide) _ _ _ rfl (hown.alloc _) ⟨wr.heap.size, 0, none⟩ 1 1 (bv [UInt8.ofNat k]) rfl rfl ?c1 ?c2 ?c3 ?c4 ?c5 ?_))
      case c1 =>
        intro j u hj
        simpa [bv, Nat.mod_eq_of_lt (show k < 256 by omega)] using hj
      case c2 => exact bv_one _
      case c3 => unfold maxLen; omega
      case c4 => omega
      case c5 => first | omega | (simp; omega)
      · intro v' w1 hown' hgrow _
        have hbb : Below B w w1 := (hb.alloc (by omega) _).grown hgrow (by simp; omega) fun k hk => (hlt k hk).1
        rw [← bv_append, List.append_assoc] at hown'
        clear hgrow hown hlt
        go_wp2
        go_ret
        refine ⟨v', rfl, ?_, hbb⟩
        rw [HP.out, HD.out, List.length_append, ← Nat.add_assoc]
        exact hown'

set_option maxHeartbeats 2000000 in
set_option maxRecDepth 100000 in
theorem number_any (B n : Nat) (v : Value) (xs : List UInt8) (c : Int) (w : World) (hown : w.ownsRow B 5 1 v n (bv xs)) (hn : n ≤ 1000000000) (hB : B ≤ w.heap.size) (hc1 : -4611686018427387904 ≤ c) (hc2 : c ≤ 4611686018427387904) :
    Calls Try.prog 19 #[v, .int .i64 c] w (DA B n xs (fd c) w) := by
  obtain ⟨i0, hi, hz0, hz1, hz2⟩ := info_parts Try.info5
  have hfl := fd_le hc1 hc2
  obtain ⟨m, hm⟩ : ∃ m, fd c = m := ⟨_, rfl⟩
  rw [hm] at hfl ⊢
  have hdl := dg_len 9 m (by omega)
  have hx : (c < 0 ∧ IntKind.u64.wrap (IntKind.i64.wrap (IntKind.i64.wrap (-2 * c) - 1)) = (m : Int)) ∨ (¬ c < 0 ∧ IntKind.u64.wrap (IntKind.i64.wrap (2 * c)) = (m : Int)) := by
    by_cases h0 : c < 0
    · left
      refine ⟨h0, ?_⟩
      unfold fd at hm
      rw [if_pos h0] at hm
      rw [IntKind.wrap_u64, IntKind.wrap_i64, IntKind.wrap_i64]
      omega
    · right
      refine ⟨h0, ?_⟩
      unfold fd at hm
      rw [if_neg h0] at hm
      rw [IntKind.wrap_u64, IntKind.wrap_i64]
      omega
  have HM : Hid (fd c = m) := hm
  clear hm
  rcases hx with ⟨h0, hx⟩ | ⟨h0, hx⟩
  all_goals
    go_enter Try.func19, Try.ntmps19
    go_wp2
    go_loopw [0, 5] (fun v i wr => ∃ (k : Nat) (p : List UInt8), k < 18446744073709551616 ∧ i = .int .u64 k ∧ dg m = p ++ dg k ∧ wr.ownsRow B 5 1 v (n + p.length) (bv (xs ++ p)) ∧ Below B w wr) (fun _ i _ => (intOf i).toNat)
    case atStart => exact ⟨m, [], by omega, by rw [← hx]; first | rfl | simp [wrap64, IntKind.wrap_i64], rfl, by simpa using hown, Below.refl _ _⟩
    case round =>
      clear hown
      obtain ⟨k, p, hk, rfl, hp, hown, hb⟩ := hrel
      have hsz := hb.size
      have hlt := hown.lt
      have hpl : p.length + (dg k).length ≤ 10 := by have := congrArg List.length hp; rw [List.length_append] at this; omega
      have hkp := dg_pos k
      have HP : Hid (dg m = p ++ dg k) := hp
      clear hp hx
      by_cases h : 127 < k
      · have h' : (127 : Int) < (k : Int) := by omega
        have HD : Hid (dg k = UInt8.ofNat (k % 128 + 128) :: dg (k / 128)) := dg_big (by omega)
        go_wp2_with (first | (at_builtin; refine wpList_append_own _ rfl _ _ 40 rfl B 5 i0 (.int .u8 0) 1 1 Try.underlying40 hi hz0 hz1 hz2 rfl (by decide) _ _ _ rfl (hown.alloc _) ⟨wr.heap.size, 0, none⟩ 1 1 (bv [UInt8.ofNat (k % 128 + 128)]) rfl rfl ?c1 ?c2 ?c3 ?c4 ?c5 ?_))
        case c1 => exact cells1 wr _ _ _ (by rw [UInt8.toNat_ofNat']; omega)
        case c2 => exact bv_one _
        case c3 => unfold maxLen; omega
        case c4 => omega
        case c5 => first | omega | (simp; omega)
        · intro v' w1 hown' hgrow _
          have hbb : Below B w w1 := (hb.alloc (by omega) _).grown hgrow (by simp; omega) fun k hk => (hlt k hk).1
          rw [← bv_append, List.append_assoc] at hown'
          clear hgrow hown hlt
          go_wp2
          go_roundw
          case rel => exact ⟨k / 128, p ++ [UInt8.ofNat (k % 128 + 128)], by omega, by go_num, by rw [HP.out, HD.out]; simp, by simpa [Nat.add_assoc] using hown', hbb⟩
          case measure => simp [intOf]; omega
      · have h' : ¬ (127 : Int) < (k : Int) := by omega
        have HD : Hid (dg k = [UInt8.ofNat k]) := dg_small (by omega)
        go_wp2_with (first | (at_builtin; refine wpList_append_own _ rfl _ _ 40 rfl B 5 i0 (.int .u8 0) 1 1 Try.underlying40 hi hz0 hz1 hz2 rfl (by decide) _ _ _ rfl (hown.alloc _) ⟨wr.heap.size, 0, none⟩ 1 1 (bv [UInt8.ofNat k]) rfl rfl ?c1 ?c2 ?c3 ?c4 ?c5 ?_))
        case c1 =>
          intro j u hj
          first | (simpa [bv, Nat.mod_eq_of_lt (show k < 256 by omega)] using hj) | exact cells1 wr _ _ _ (by rw [UInt8.toNat_ofNat']; omega) j u hj
        case c2 => exact bv_one _
        case c3 => unfold maxLen; omega
        case c4 => omega
        case c5 => first | omega | (simp; omega)
        · intro v' w1 hown' hgrow _
          have hbb : Below B w w1 := (hb.alloc (by omega) _).grown hgrow (by simp; omega) fun k hk => (hlt k hk).1
          rw [← bv_append, List.append_assoc] at hown'
          clear hgrow hown hlt
          go_wp2
          go_ret
          refine ⟨v', rfl, ?_, hbb⟩
          rw [HP.out, HD.out, List.length_append, ← Nat.add_assoc]
          exact hown'
end Go.Proofs.Ytfgpopkibjijgaa
