/- Walks of layer 1, sixth part: what two numbers come to. -/
import Derived.Test.YtenpggdmmgokpaaDoorW3
import Derived.Test.YtenpggdmmgokpaaDoorM3
import Derived.Shelf.Bits.Mul64
namespace Go.Proofs.YtenpggdmmgokpaaDoor
open Go.RowKit

theorem ret_two {a b c d : Value} (h : a = c) (g : b = d) : Ending.returned (.tuple #[a, b]) = .returned (.tuple #[c, d]) := by rw [h, g]

set_option maxHeartbeats 400000 in
theorem size_any (n : Int) (w : World) (h1 : -4611686018427387904 ≤ n) (h2 : n ≤ 4611686018427387904) :
    Calls Tryd.prog 58 #[.int .i64 n] w fun e w' => e = .returned (.int .u64 (n.natAbs : Int)) ∧ w' = w := by
  go_enter Tryd.func58, Tryd.ntmps58
  go_wp2
  all_goals go_ret
  all_goals refine ⟨ret_int ?_, rfl⟩
  all_goals go_light
  all_goals (try simp only [IntKind.wrap_u64])
  all_goals omega

set_option maxHeartbeats 1000000 in
theorem mul64_any (x y : Nat) (hx : x < 18446744073709551616) (hy : y < 18446744073709551616) (w : World) :
    Calls Tryd.prog 57 #[.int .u64 x, .int .u64 y] w fun e w' => e = .returned (.tuple #[.int .u64 ((x * y / 18446744073709551616 : Nat) : Int), .int .u64 ((x * y % 18446744073709551616 : Nat) : Int)]) ∧ w' = w := by
  obtain ⟨bd, bt, bw, hhi⟩ := Lib.mul64_hi x y hx hy
  have ba := Lib.half_mul_le (a := x / 4294967296) (b := y / 4294967296) (by omega) (by omega)
  have bb := Lib.half_mul_le (a := x / 4294967296) (b := y % 4294967296) (by omega) (by omega)
  have bc := Lib.half_mul_le (a := x % 4294967296) (b := y / 4294967296) (by omega) (by omega)
  have ba' : x / 4294967296 * (y / 4294967296) < 18446744073709551616 := by omega
  have bb' : x / 4294967296 * (y % 4294967296) < 18446744073709551616 := by omega
  have bc' : x % 4294967296 * (y / 4294967296) < 18446744073709551616 := by omega
  have bh1 : x / 4294967296 * (y / 4294967296) + (x / 4294967296 * (y % 4294967296) + x % 4294967296 * (y % 4294967296) / 4294967296) / 4294967296 < 18446744073709551616 := by omega
  have bh : x / 4294967296 * (y / 4294967296) + (x / 4294967296 * (y % 4294967296) + x % 4294967296 * (y % 4294967296) / 4294967296) / 4294967296 + ((x / 4294967296 * (y % 4294967296) + x % 4294967296 * (y % 4294967296) / 4294967296) % 4294967296 + x % 4294967296 * (y / 4294967296)) / 4294967296 < 18446744073709551616 := by omega
  go_enter Tryd.func57, Tryd.ntmps57
  go_wp2
  simp only [Mul64.maskN x hx, Mul64.maskN y hy, Mul64.divN, Mul64.mulN, Mul64.addN, Mul64.wrapN _ bd, Mul64.wrapN _ bb', Mul64.wrapN _ bt, Mul64.maskN _ bt, Mul64.wrapN _ bc', Mul64.wrapN _ bw, Mul64.wrapN _ ba', Mul64.wrapN _ bh1, Mul64.wrapN _ bh, Mul64.wrapM (x * y)]
  rw [hhi]
  go_ret2
  exact ⟨rfl, rfl⟩

/-- A product that is a number. -/
theorem product_ok (a b : Int) (w : World) (ha1 : -4611686018427387904 ≤ a) (ha2 : a ≤ 4611686018427387904) (hb1 : -4611686018427387904 ≤ b) (hb2 : b ≤ 4611686018427387904)
    (hr1 : -4611686018427387904 ≤ a * b) (hr2 : a * b ≤ 4611686018427387904) :
    Calls Tryd.prog 49 #[.int .i64 a, .int .i64 b] w fun e w' => e = .returned (.tuple #[.int .i64 (a * b), .bool true]) ∧ w' = w := by
  have hm := mul_abs a b
  obtain ⟨p, hp⟩ : ∃ p : Nat, a.natAbs * b.natAbs = p := ⟨_, rfl⟩
  obtain ⟨r, hr⟩ : ∃ r : Int, a * b = r := ⟨_, rfl⟩
  have hx : a.natAbs < 18446744073709551616 := by omega
  have hy : b.natAbs < 18446744073709551616 := by omega
  rw [hr] at hr1 hr2 hm
  rw [hp] at hm
  have hp1 : p ≤ 4611686018427387904 := by omega
  have hp1' : (p : Int) ≤ 4611686018427387904 := by omega
  have e1 : p / 18446744073709551616 = 0 := by omega
  have e2 : p % 18446744073709551616 = p := by omega
  have HS : Hid (decide (a < 0) = decide (b < 0) → r = (p : Int)) := fun g => by rw [← hr, mul_same g, hp]
  have HD : Hid (decide (a < 0) ≠ decide (b < 0) → r = -(p : Int)) := fun g => by rw [← hr, mul_diff g, hp]
  rw [hr]
  clear hr hm hr1 hr2
  obtain ⟨d1, e1'⟩ : ∃ d, decide (a < 0) = d := ⟨_, rfl⟩
  obtain ⟨d2, e2'⟩ : ∃ d, decide (b < 0) = d := ⟨_, rfl⟩
  rw [e1', e2'] at HS HD
  cases d1 <;> cases d2
  all_goals
    go_enter Tryd.func49, Tryd.ntmps49
    go_wp2_with fail
    refine (size_any a _ ha1 ha2).mono ?_
    rintro e w' ⟨rfl, rfl⟩
    go_wp2_with fail
    refine (size_any b _ hb1 hb2).mono ?_
    rintro e w' ⟨rfl, rfl⟩
    go_wp2_with fail
    refine (mul64_any a.natAbs b.natAbs hx hy _).mono ?_
    rintro e w' ⟨rfl, rfl⟩
    rw [hp, e1, e2]
    clear hp e1 e2
    go_wp2
    go_ret2
    refine ⟨ret_two ?_ rfl, rfl⟩
    go_light
  · exact congrArg (Value.int .i64) (HS.out (by first | trivial | rfl)).symm
  · exact congrArg (Value.int .i64) (HD.out (by decide)).symm
  · exact congrArg (Value.int .i64) (HD.out (by decide)).symm
  · exact congrArg (Value.int .i64) (HS.out (by first | trivial | rfl)).symm

/-- A product that is none. -/
theorem product_no (a b : Int) (w : World) (ha1 : -4611686018427387904 ≤ a) (ha2 : a ≤ 4611686018427387904) (hb1 : -4611686018427387904 ≤ b) (hb2 : b ≤ 4611686018427387904)
    (hr : ¬ (-4611686018427387904 ≤ a * b ∧ a * b ≤ 4611686018427387904)) :
    Calls Tryd.prog 49 #[.int .i64 a, .int .i64 b] w fun e w' => e = .returned (.tuple #[.int .i64 0, .bool false]) ∧ w' = w := by
  have hm := mul_abs a b
  obtain ⟨p, hp⟩ : ∃ p : Nat, a.natAbs * b.natAbs = p := ⟨_, rfl⟩
  have hx : a.natAbs < 18446744073709551616 := by omega
  have hy : b.natAbs < 18446744073709551616 := by omega
  rw [hp] at hm
  have hp1 : 4611686018427387904 < p := by omega
  clear hr hm
  by_cases h1 : p / 18446744073709551616 = 0
  · have e2 : p % 18446744073709551616 = p := by omega
    have hp1' : (4611686018427387904 : Int) < (p : Int) := by omega
    go_enter Tryd.func49, Tryd.ntmps49
    go_wp2_with fail
    refine (size_any a _ ha1 ha2).mono ?_
    rintro e w' ⟨rfl, rfl⟩
    go_wp2_with fail
    refine (size_any b _ hb1 hb2).mono ?_
    rintro e w' ⟨rfl, rfl⟩
    go_wp2_with fail
    refine (mul64_any a.natAbs b.natAbs hx hy _).mono ?_
    rintro e w' ⟨rfl, rfl⟩
    rw [hp, h1, e2]
    clear hp h1 e2
    go_wp2
    go_ret2
    exact ⟨rfl, rfl⟩
  · obtain ⟨q, hq⟩ : ∃ q : Nat, p / 18446744073709551616 = q := ⟨_, rfl⟩
    obtain ⟨r, hr⟩ : ∃ q : Nat, p % 18446744073709551616 = q := ⟨_, rfl⟩
    have hq1 : ((q : Int) != 0) = true := by simp; omega
    clear h1
    go_enter Tryd.func49, Tryd.ntmps49
    go_wp2_with fail
    refine (size_any a _ ha1 ha2).mono ?_
    rintro e w' ⟨rfl, rfl⟩
    go_wp2_with fail
    refine (size_any b _ hb1 hb2).mono ?_
    rintro e w' ⟨rfl, rfl⟩
    go_wp2_with fail
    refine (mul64_any a.natAbs b.natAbs hx hy _).mono ?_
    rintro e w' ⟨rfl, rfl⟩
    rw [hp, hq, hr]
    clear hp hq hr
    go_wp2
    go_ret2
    exact ⟨rfl, rfl⟩

theorem reckon_ok (op a b : Int) (w : World) (ha1 : -4611686018427387904 ≤ a) (ha2 : a ≤ 4611686018427387904) (hb1 : -4611686018427387904 ≤ b) (hb2 : b ≤ 4611686018427387904)
    (h1 : 1 ≤ op) (h5 : op ≤ 5) (hz : ¬ ((op = 4 ∨ op = 5) ∧ b = 0)) (hr : inR (exact2 op a b) = true) :
    Calls Tryd.prog 33 #[.int .i64 op, .int .i64 a, .int .i64 b] w fun e w' => e = .returned (.tuple #[.int .i64 (exact2 op a b), .bool true]) ∧ w' = w := by
  obtain ⟨r1, r2⟩ := inR_iff.1 hr
  clear hr
  rcases (by omega : op = 1 ∨ op = 2 ∨ op = 3 ∨ op = 4 ∨ op = 5) with rfl | rfl | rfl | rfl | rfl
  · have e : exact2 1 a b = a + b := rfl
    rw [e] at r1 r2 ⊢
    go_enter Tryd.func33, Tryd.ntmps33
    go_wp2_with (first | (go_at_call 25; refine (inRange_any _ _).mono ?_; rintro e w' ⟨rfl, rfl⟩))
    go_ret2
    exact ⟨ret_two rfl (congrArg Value.bool (by first | (simp; done) | (simp; omega))), rfl⟩
  · have e : exact2 2 a b = a - b := rfl
    rw [e] at r1 r2 ⊢
    go_enter Tryd.func33, Tryd.ntmps33
    go_wp2_with (first | (go_at_call 25; refine (inRange_any _ _).mono ?_; rintro e w' ⟨rfl, rfl⟩))
    go_ret2
    exact ⟨ret_two rfl (congrArg Value.bool (by first | (simp; done) | (simp; omega))), rfl⟩
  · have e : exact2 3 a b = a * b := rfl
    rw [e] at r1 r2 ⊢
    go_enter Tryd.func33, Tryd.ntmps33
    go_wp2_with (first | (go_at_call 49; refine (product_ok _ _ _ ha1 ha2 hb1 hb2 r1 r2).mono ?_; rintro e w' ⟨rfl, rfl⟩))
    go_ret2
    exact ⟨rfl, rfl⟩
  · have e : exact2 4 a b = a.tdiv b := rfl
    rw [e] at r1 r2 ⊢
    have hz' : ¬ b = 0 := by omega
    clear hz
    go_enter Tryd.func33, Tryd.ntmps33
    go_wp2
    go_ret2
    exact ⟨rfl, rfl⟩
  · have e : exact2 5 a b = a.tmod b := rfl
    rw [e] at r1 r2 ⊢
    have hz' : ¬ b = 0 := by omega
    clear hz
    go_enter Tryd.func33, Tryd.ntmps33
    go_wp2
    go_ret2
    exact ⟨rfl, rfl⟩

theorem wrap_out {x : Int} (h1 : -9223372036854775808 ≤ x) (h2 : x ≤ 9223372036854775808) (h : ¬ (-4611686018427387904 ≤ x ∧ x ≤ 4611686018427387904)) :
    (decide (-4611686018427387904 ≤ wrap64 x) && decide (wrap64 x ≤ 4611686018427387904)) = false := by
  simp only [Bool.and_eq_false_iff, decide_eq_false_iff_not]
  simp only [wrap64]
  omega

theorem reckon_no (op a b : Int) (w : World) (ha1 : -4611686018427387904 ≤ a) (ha2 : a ≤ 4611686018427387904) (hb1 : -4611686018427387904 ≤ b) (hb2 : b ≤ 4611686018427387904)
    (h1 : 1 ≤ op) (h5 : op ≤ 5) (hr : inR (exact2 op a b) = false) :
    Calls Tryd.prog 33 #[.int .i64 op, .int .i64 a, .int .i64 b] w fun e w' => ∃ n, e = .returned (.tuple #[.int .i64 n, .bool false]) ∧ w' = w := by
  have hr' := inR_not hr
  clear hr
  rcases (by omega : op = 1 ∨ op = 2 ∨ op = 3 ∨ op = 4 ∨ op = 5) with rfl | rfl | rfl | rfl | rfl
  · have e : exact2 1 a b = a + b := rfl
    rw [e] at hr'
    go_enter Tryd.func33, Tryd.ntmps33
    go_wp2_with (first | (go_at_call 25; refine (inRange_any _ _).mono ?_; rintro e w' ⟨rfl, rfl⟩))
    go_ret2
    refine ⟨_, ret_two rfl (congrArg Value.bool ?_), rfl⟩
    go_light
    exact wrap_out (by omega) (by omega) hr'
  · have e : exact2 2 a b = a - b := rfl
    rw [e] at hr'
    go_enter Tryd.func33, Tryd.ntmps33
    go_wp2_with (first | (go_at_call 25; refine (inRange_any _ _).mono ?_; rintro e w' ⟨rfl, rfl⟩))
    go_ret2
    refine ⟨_, ret_two rfl (congrArg Value.bool ?_), rfl⟩
    go_light
    exact wrap_out (by omega) (by omega) hr'
  · have e : exact2 3 a b = a * b := rfl
    rw [e] at hr'
    go_enter Tryd.func33, Tryd.ntmps33
    go_wp2_with (first | (go_at_call 49; refine (product_no _ _ _ ha1 ha2 hb1 hb2 hr').mono ?_; rintro e w' ⟨rfl, rfl⟩))
    go_ret2
    exact ⟨_, rfl, rfl⟩
  · exact absurd (tdiv_in ha1 ha2) hr'
  · exact absurd (tmod_in ha1 ha2) hr'
end Go.Proofs.YtenpggdmmgokpaaDoor
