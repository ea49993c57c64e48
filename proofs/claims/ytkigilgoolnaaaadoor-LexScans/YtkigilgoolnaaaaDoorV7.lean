/- Walks of layer 1: the document's digits. -/
import Derived.Test.YtkigilgoolnaaaaDoorM27
import Derived.Test.YtkigilgoolnaaaaDoorW1
namespace Go.Proofs.YtkigilgoolnaaaaDoor
open Go.RowKit

theorem app_dig (c : UInt8) (l : List UInt8) : (⟨#[c]⟩ : ByteArray) ++ (⟨l.toArray⟩ : ByteArray) = ⟨(c :: l).toArray⟩ := by
  apply bytes_eq
  simp [ByteArray.data_append]

set_option maxHeartbeats 2000000 in
set_option maxRecDepth 100000 in
theorem digits_pos (u : Nat) (w : World) (hu : u ≤ 4611686018427387904) :
    Calls Tryd.prog 58 #[.int .i64 (u : Int)] w fun e w' => e = .returned (.string ⟨(Lib.decDigits u).toArray⟩) ∧ w' = w := by
  obtain ⟨g, hg⟩ : ∃ g, u / 10 = g := ⟨_, rfl⟩
  obtain ⟨d, hd⟩ : ∃ d, u % 10 = d := ⟨_, rfl⟩
  have HD : Hid (Lib.decDigits u = ddl g ++ [UInt8.ofNat (48 + d)]) := by
    have := dec_eq u
    rw [hg, hd] at this
    exact this
  have hq : (u : Int).tdiv 10 = (g : Int) := by rw [Int.tdiv_eq_ediv_of_nonneg (by omega)]; omega
  have hr : (u : Int).tmod 10 = (d : Int) := by rw [Int.tmod_eq_emod_of_nonneg (by omega)]; omega
  have d0 : ¬ (d : Int) < 0 := by omega
  have d1 : (0 : Int) ≤ (d : Int) + 1 := by omega
  have d2 : (d : Int) + 1 ≤ 10 := by omega
  have d3 : (d : Int) ≤ (d : Int) + 1 := by omega
  have d4 : ((d : Int) + 1).toNat = d + 1 := by omega
  have d5 := dig_ext d (by omega)
  obtain ⟨c, hc⟩ : ∃ c, UInt8.ofNat (48 + d) = c := ⟨_, rfl⟩
  rw [hc] at d5 HD
  have u0 : ¬ (u : Int) < 0 := by omega
  have hg2 : g ≤ 4611686018427387904 := by omega
  clear hg hd hc
  go_enter Tryd.func58, Tryd.ntmps58
  go_wp2
  go_loopw [3, 5] (fun i v wr => ∃ (m : Nat) (l : List UInt8), m ≤ 4611686018427387904 ∧ i = .int .i64 m ∧ v = .string ⟨l.toArray⟩ ∧ Lib.decDigits u = ddl m ++ l ∧ wr = w) (fun i _ _ => (intOf i).toNat)
  case atStart => exact ⟨g, [c], hg2, rfl, rfl, HD.out, rfl⟩
  case round =>
    obtain ⟨m, l, hm, rfl, rfl, hl, rfl⟩ := hrel
    have HL : Hid (Lib.decDigits u = ddl m ++ l) := hl
    clear hl hq hr d0 d1 d2 d3 d4 d5
    by_cases hm0 : m = 0
    · subst hm0
      go_wp2
      go_ret
      exact ⟨by rw [HL.out]; rfl, rfl⟩
    · obtain ⟨g', hg'⟩ : ∃ g', m / 10 = g' := ⟨_, rfl⟩
      obtain ⟨d', hd'⟩ : ∃ d', m % 10 = d' := ⟨_, rfl⟩
      have HD' : Hid (Lib.decDigits u = ddl g' ++ (UInt8.ofNat (48 + d') :: l)) := by
        have := ddl_step hm0
        rw [hg', hd'] at this
        have e := HL.out
        rw [this] at e
        have e2 : Lib.decDigits u = ddl g' ++ (UInt8.ofNat (48 + d') :: l) := by rw [e]; simp
        exact e2
      have hq : (m : Int).tdiv 10 = (g' : Int) := by rw [Int.tdiv_eq_ediv_of_nonneg (by omega)]; omega
      have hr : (m : Int).tmod 10 = (d' : Int) := by rw [Int.tmod_eq_emod_of_nonneg (by omega)]; omega
      have d0 : ¬ (d' : Int) < 0 := by omega
      have d1 : (0 : Int) ≤ (d' : Int) + 1 := by omega
      have d2 : (d' : Int) + 1 ≤ 10 := by omega
      have d3 : (d' : Int) ≤ (d' : Int) + 1 := by omega
      have d4 : ((d' : Int) + 1).toNat = d' + 1 := by omega
      have d5 := dig_ext d' (by omega)
      obtain ⟨c', hc'⟩ : ∃ c', UInt8.ofNat (48 + d') = c' := ⟨_, rfl⟩
      rw [hc'] at d5 HD'
      have d6 := app_dig c' l
      have d7 : ¬ 9223372036854775807 < 1 + l.length := by
        have h1 := dec_len 18 u (by omega)
        have h2 := congrArg List.length HL.out
        rw [List.length_append] at h2
        omega
      have hg2' : g' ≤ 4611686018427387904 := by omega
      have hg3 : g' < m := by omega
      have hmi : ((m : Int) != 0) = true := by simp; omega
      clear hg' hd' hc'
      go_wp2
      go_roundw
      case rel => exact ⟨g', c' :: l, hg2', rfl, rfl, HD'.out, by first | rfl | trivial⟩
      case measure => simp [intOf]; omega
set_option maxHeartbeats 2000000 in
set_option maxRecDepth 100000 in
theorem digits_neg (u : Nat) (w : World) (hu : u ≤ 4611686018427387904) (hp : 0 < u) :
    Calls Tryd.prog 58 #[.int .i64 (-(u : Int))] w fun e w' => e = .returned (.string ⟨(45 :: Lib.decDigits u).toArray⟩) ∧ w' = w := by
  obtain ⟨g, hg⟩ : ∃ g, u / 10 = g := ⟨_, rfl⟩
  obtain ⟨d, hd⟩ : ∃ d, u % 10 = d := ⟨_, rfl⟩
  have HD : Hid (Lib.decDigits u = ddl g ++ [UInt8.ofNat (48 + d)]) := by
    have := dec_eq u
    rw [hg, hd] at this
    exact this
  have hq : (-(u : Int)).tdiv 10 = -(g : Int) := by rw [Int.neg_tdiv, Int.tdiv_eq_ediv_of_nonneg (by omega)]; omega
  have hr0 : (-(u : Int)).tmod 10 = -(d : Int) := by rw [Int.neg_tmod, Int.tmod_eq_emod_of_nonneg (by omega)]; omega
  have hr1 : ((-(u : Int)).tmod 10 = (d : Int) ∧ ¬ (d : Int) < 0) ∨ ((-(u : Int)).tmod 10 = -(d : Int) ∧ -(d : Int) < 0) := by omega
  have d1 : (0 : Int) ≤ (d : Int) + 1 := by omega
  have d2 : (d : Int) + 1 ≤ 10 := by omega
  have d3 : (d : Int) ≤ (d : Int) + 1 := by omega
  have d4 : ((d : Int) + 1).toNat = d + 1 := by omega
  have d5 := dig_ext d (by omega)
  obtain ⟨c, hc⟩ : ∃ c, UInt8.ofNat (48 + d) = c := ⟨_, rfl⟩
  rw [hc] at d5 HD
  have u0 : -(u : Int) < 0 := by omega
  have hg2 : g ≤ 4611686018427387904 := by omega
  clear hg hd hc hr0
  rcases hr1 with ⟨hr, d0⟩ | ⟨hr, d0⟩
  all_goals
    go_enter Tryd.func58, Tryd.ntmps58
    go_wp2
    go_loopw [3, 5] (fun i v wr => ∃ (m : Nat) (l : List UInt8), m ≤ 4611686018427387904 ∧ i = .int .i64 (-(m : Int)) ∧ v = .string ⟨l.toArray⟩ ∧ Lib.decDigits u = ddl m ++ l ∧ wr = w) (fun i _ _ => (-(intOf i)).toNat)
    case atStart => exact ⟨g, [c], hg2, rfl, rfl, HD.out, rfl⟩
    case round =>
      obtain ⟨m, l, hm, rfl, rfl, hl, rfl⟩ := hrel
      have HL : Hid (Lib.decDigits u = ddl m ++ l) := hl
      clear hl hq hr d0 d1 d2 d3 d4 d5
      by_cases hm0 : m = 0
      · subst hm0
        have d6 := app_dig 45 l
        have d7 : ¬ 9223372036854775807 < 1 + l.length := by
          have h1 := dec_len 18 u (by omega)
          have h2 := congrArg List.length HL.out
          rw [List.length_append] at h2
          omega
        go_wp2
        go_ret
        exact ⟨by rw [HL.out]; rfl, rfl⟩
      · obtain ⟨g', hg'⟩ : ∃ g', m / 10 = g' := ⟨_, rfl⟩
        obtain ⟨d', hd'⟩ : ∃ d', m % 10 = d' := ⟨_, rfl⟩
        have HD' : Hid (Lib.decDigits u = ddl g' ++ (UInt8.ofNat (48 + d') :: l)) := by
          have := ddl_step hm0
          rw [hg', hd'] at this
          have e := HL.out
          rw [this] at e
          have e2 : Lib.decDigits u = ddl g' ++ (UInt8.ofNat (48 + d') :: l) := by rw [e]; simp
          exact e2
        have hq : (-(m : Int)).tdiv 10 = -(g' : Int) := by rw [Int.neg_tdiv, Int.tdiv_eq_ediv_of_nonneg (by omega)]; omega
        have hr0 : (-(m : Int)).tmod 10 = -(d' : Int) := by rw [Int.neg_tmod, Int.tmod_eq_emod_of_nonneg (by omega)]; omega
        have hr1 : ((-(m : Int)).tmod 10 = (d' : Int) ∧ ¬ (d' : Int) < 0) ∨ ((-(m : Int)).tmod 10 = -(d' : Int) ∧ -(d' : Int) < 0) := by omega
        have d1 : (0 : Int) ≤ (d' : Int) + 1 := by omega
        have d2 : (d' : Int) + 1 ≤ 10 := by omega
        have d3 : (d' : Int) ≤ (d' : Int) + 1 := by omega
        have d4 : ((d' : Int) + 1).toNat = d' + 1 := by omega
        have d5 := dig_ext d' (by omega)
        obtain ⟨c', hc'⟩ : ∃ c', UInt8.ofNat (48 + d') = c' := ⟨_, rfl⟩
        rw [hc'] at d5 HD'
        have d6 := app_dig c' l
        have d7 : ¬ 9223372036854775807 < 1 + l.length := by
          have h1 := dec_len 18 u (by omega)
          have h2 := congrArg List.length HL.out
          rw [List.length_append] at h2
          omega
        have hg2' : g' ≤ 4611686018427387904 := by omega
        have hg3 : g' < m := by omega
        have hmi : (-(m : Int) != 0) = true := by simp; omega
        clear hg' hd' hc' hr0
        rcases hr1 with ⟨hr, d0⟩ | ⟨hr, d0⟩
        all_goals
          go_wp2
          go_roundw
          case rel => exact ⟨g', c' :: l, hg2', rfl, rfl, HD'.out, by first | rfl | trivial⟩
          case measure => simp [intOf]; omega

theorem digits_any (n : Int) (w : World) (h1 : -4611686018427387904 ≤ n) (h2 : n ≤ 4611686018427387904) :
    Calls Tryd.prog 58 #[.int .i64 n] w fun e w' => e = .returned (.string ⟨(Lib.itoa n).toArray⟩) ∧ w' = w := by
  by_cases h : n < 0
  · have e : n = -((n.natAbs : Nat) : Int) := by omega
    have e2 : Lib.itoa n = 45 :: Lib.decDigits n.natAbs := by unfold Lib.itoa; rw [if_pos h]
    rw [e2]
    have := digits_neg n.natAbs w (by omega) (by omega)
    rw [← e] at this
    exact this
  · have e : n = ((n.toNat : Nat) : Int) := by omega
    have e2 : Lib.itoa n = Lib.decDigits n.toNat := by unfold Lib.itoa; rw [if_neg h]
    rw [e2]
    have := digits_pos n.toNat w (by omega)
    rw [← e] at this
    exact this
end Go.Proofs.YtkigilgoolnaaaaDoor
