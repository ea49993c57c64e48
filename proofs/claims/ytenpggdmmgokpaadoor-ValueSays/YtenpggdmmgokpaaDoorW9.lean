/- Walks of layer 1, ninth part: Sum. -/
import Derived.Test.YtenpggdmmgokpaaDoorW8
import Derived.Test.YtenpggdmmgokpaaDoorM4
import Derived.Deep.QuietTactic
import Derived.BigQuiet
namespace Go.Proofs.YtenpggdmmgokpaaDoor
open Go.RowKit

theorem ret_two' {a b c d : Value} (h : a = c) (g : b = d) : Ending.returned (.tuple #[a, b]) = .returned (.tuple #[c, d]) := by rw [h, g]

theorem narrow_ok (S : Int) (w : World) (h1 : -4611686018427387904 ≤ S) (h2 : S ≤ 4611686018427387904) :
    Calls Tryd.prog 36 #[.agg #[.int .u64 (S / 18446744073709551616 % 18446744073709551616), .int .u64 (S % 18446744073709551616)]] w fun e w' =>
      e = .returned (.tuple #[.int .i64 S, .bool true]) ∧ Below w.heap.size w w' := by
  obtain ⟨H, hH⟩ : ∃ H, S / 18446744073709551616 % 18446744073709551616 = H := ⟨_, rfl⟩
  obtain ⟨L, hL⟩ : ∃ L, S % 18446744073709551616 = L := ⟨_, rfl⟩
  have hw : wrap64 L = S := by simp only [wrap64]; omega
  have HG : Hid (S / 18446744073709551616 % 18446744073709551616 = H) := hH
  rw [hH, hL]
  clear hH hL
  go_enter Tryd.func36, Tryd.ntmps36
  go_wp2
  have hg : (H == H) = true := by simp
  go_region_held3 (fun w' => w'.cell? ⟨w.heap.size, 0, none⟩ = some (.int .u64 H) ∧ w'.cell? ⟨w.heap.size, 1, none⟩ = some (.int .u64 L)) (go_keep)
    (first | (go_at_call 51; refine (signs_any _ _ (by omega) (by omega)).mono ?_; rintro e w' ⟨rfl, rfl⟩; rw [HG.out]) | (go_at_call 25; refine (inRange_any _ _).mono ?_; rintro e w' ⟨rfl, rfl⟩))
  go_wp2
  go_ret2
  exact ⟨ret_two' rfl (congrArg Value.bool (by first | (simp; done) | (simp; omega))), by (repeat (first | exact Below.refl _ _ | assumption | refine Below.drew ?_ | refine below_drewN ?_ _ | refine Below.alloc ?_ (by first | omega | (simp; done) | (simp; omega)) _ | refine Below.setCell ?_ (by first | omega | (simp; done) | (simp; omega)) _ | refine Below.trans ?_ (Below.mono (by assumption) (by first | omega | (simp; done) | (simp; omega)))))⟩

theorem narrow_no (S : Int) (w : World) (b1 : -9903520314283042199192993792 ≤ S) (b2 : S ≤ 9903520314283042199192993792) (hr : inR S = false) :
    Calls Tryd.prog 36 #[.agg #[.int .u64 (S / 18446744073709551616 % 18446744073709551616), .int .u64 (S % 18446744073709551616)]] w fun e w' =>
      ∃ n, e = .returned (.tuple #[.int .i64 n, .bool false]) ∧ Below w.heap.size w w' := by
  have hr' := inR_not hr
  clear hr
  obtain ⟨H, hH⟩ : ∃ H, S / 18446744073709551616 % 18446744073709551616 = H := ⟨_, rfl⟩
  obtain ⟨L, hL⟩ : ∃ L, S % 18446744073709551616 = L := ⟨_, rfl⟩
  obtain ⟨N, hw⟩ : ∃ N, wrap64 L = N := ⟨_, rfl⟩
  obtain ⟨G, hG⟩ : ∃ G, N / 18446744073709551616 % 18446744073709551616 = G := ⟨_, rfl⟩
  have hN1 : -9223372036854775808 ≤ N := by simp only [wrap64] at hw; omega
  have hN2 : N ≤ 9223372036854775807 := by simp only [wrap64] at hw; omega
  have hm : H = G → ¬ (-4611686018427387904 ≤ N ∧ N ≤ 4611686018427387904) := by
    intro e
    have : N = S := by simp only [wrap64] at hw; omega
    rw [this]; exact hr'
  have HG : Hid (N / 18446744073709551616 % 18446744073709551616 = G) := hG
  rw [hH, hL]
  clear hH hL hG hr' b1 b2
  by_cases e : H = G
  · have hm' := hm e
    subst e
    clear hm
    have hd : (decide (-4611686018427387904 ≤ N) && decide (N ≤ 4611686018427387904)) = false := by simp; omega
    have HD : Hid ((decide (-4611686018427387904 ≤ N) && decide (N ≤ 4611686018427387904)) = false) := hd
    clear hm' hd
    have hg : (H == H) = true := by simp
    go_enter Tryd.func36, Tryd.ntmps36
    go_wp2
    go_region_held3 (fun w' => w'.cell? ⟨w.heap.size, 0, none⟩ = some (.int .u64 H) ∧ w'.cell? ⟨w.heap.size, 1, none⟩ = some (.int .u64 L)) (go_keep)
      (first | (go_at_call 51; refine (signs_any _ _ (by omega) (by omega)).mono ?_; rintro e w' ⟨rfl, rfl⟩; rw [HG.out]) | (go_at_call 25; refine (inRange_any _ _).mono ?_; rintro e w' ⟨rfl, rfl⟩; rw [HD.out]))
    go_wp2
    go_ret2
    exact ⟨_, ret_two' rfl rfl, by (repeat (first | exact Below.refl _ _ | assumption | refine Below.drew ?_ | refine below_drewN ?_ _ | refine Below.alloc ?_ (by first | omega | (simp; done) | (simp; omega)) _ | refine Below.setCell ?_ (by first | omega | (simp; done) | (simp; omega)) _ | refine Below.trans ?_ (Below.mono (by assumption) (by first | omega | (simp; done) | (simp; omega)))))⟩
  · have hg : (H == G) = false := by simpa using e
    clear e hm
    go_enter Tryd.func36, Tryd.ntmps36
    go_wp2
    have HSG : Hid (∀ w, Calls Tryd.prog 51 #[.int .i64 N] w fun e w' => e = .returned (.int .u64 G) ∧ w' = w) := fun w => by
      refine (signs_any N w hN1 hN2).mono ?_
      rintro e w' ⟨rfl, rfl⟩
      rw [HG.out]; exact ⟨rfl, rfl⟩
    go_quiet ((go_at_call 51; exact Calls.quiet_of_same (HSG.out _)))
    go_wp2
    go_ret2
    exact ⟨_, ret_two' rfl rfl, by (repeat (first | exact Below.refl _ _ | assumption | refine Below.drew ?_ | refine below_drewN ?_ _ | refine Below.alloc ?_ (by first | omega | (simp; done) | (simp; omega)) _ | refine Below.setCell ?_ (by first | omega | (simp; done) | (simp; omega)) _ | refine Below.trans ?_ (Below.mono (by assumption) (by first | omega | (simp; done) | (simp; omega)))))⟩
end Go.Proofs.YtenpggdmmgokpaaDoor
