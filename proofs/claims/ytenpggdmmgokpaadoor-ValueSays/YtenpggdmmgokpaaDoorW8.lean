/- Walks of layer 1, eighth part: sums. -/
import Derived.Test.YtenpggdmmgokpaaDoorW5
import Derived.Test.YtenpggdmmgokpaaDoorM3
import Derived.Test.YtenpggdmmgokpaaDoorW3b
import Derived.Laws.Externs
namespace Go.Proofs.YtenpggdmmgokpaaDoor
open Go.RowKit

theorem add64_run (x y c : Int) (hx : 0 ≤ x) (hy : 0 ≤ y) (hc0 : 0 ≤ c) (hc : c ≤ 1) (w : World) :
    (callFunc 50 #[.int .u64 x, .int .u64 y, .int .u64 c]).run Tryd.prog w =
      .ok (.value (.tuple #[.int .u64 ((x + y + c) % 18446744073709551616), .int .u64 ((x + y + c) / 18446744073709551616)])) w := by
  rw [run_callFunc_extern Tryd.func50 (by kernel_rfl) (by kernel_rfl) (by kernel_rfl) (e := add64Entry) (by kernel_rfl), run_add64 x y c hx hy hc0 hc]
  rfl

theorem signs_any (n : Int) (w : World) (h1 : -9223372036854775808 ≤ n) (h2 : n ≤ 9223372036854775807) :
    Calls Tryd.prog 51 #[.int .i64 n] w fun e w' => e = .returned (.int .u64 (n / 18446744073709551616 % 18446744073709551616)) ∧ w' = w := by
  go_enter Tryd.func51, Tryd.ntmps51
  go_wp2
  go_ret
  refine ⟨ret_int ?_, rfl⟩
  rw [IntKind.wrap_u64]
  omega

theorem plus_any (S n : Int) (w : World) (h1 : -4611686018427387904 ≤ n) (h2 : n ≤ 4611686018427387904) :
    Calls Tryd.prog 35 #[.agg #[.int .u64 (S / 18446744073709551616 % 18446744073709551616), .int .u64 (S % 18446744073709551616)], .int .i64 n] w fun e w' =>
      e = .returned (.agg #[.int .u64 ((S + n) / 18446744073709551616 % 18446744073709551616), .int .u64 ((S + n) % 18446744073709551616)]) ∧ Below w.heap.size w w' := by
  obtain ⟨H, hH⟩ : ∃ H, S / 18446744073709551616 % 18446744073709551616 = H := ⟨_, rfl⟩
  obtain ⟨L, hL⟩ : ∃ L, S % 18446744073709551616 = L := ⟨_, rfl⟩
  obtain ⟨G, hG⟩ : ∃ G, n / 18446744073709551616 % 18446744073709551616 = G := ⟨_, rfl⟩
  obtain ⟨R, hR⟩ : ∃ G, n % 18446744073709551616 = G := ⟨_, rfl⟩
  have hwn : IntKind.u64.wrap n = R := by rw [IntKind.wrap_u64, hR]
  rw [hH, hL]
  have r1 := fun w => add64_run L R 0 (by omega) (by omega) (by omega) (by omega) w
  obtain ⟨C, hC⟩ : ∃ C, (L + R + 0) / 18446744073709551616 = C := ⟨_, rfl⟩
  obtain ⟨L', hL'⟩ : ∃ C, (L + R + 0) % 18446744073709551616 = C := ⟨_, rfl⟩
  have r2 := fun w => add64_run H G C (by omega) (by omega) (by omega) (by omega) w
  obtain ⟨C', hC'⟩ : ∃ D, (H + G + C) / 18446744073709551616 = D := ⟨_, rfl⟩
  obtain ⟨H', hH'⟩ : ∃ D, (H + G + C) % 18446744073709551616 = D := ⟨_, rfl⟩
  simp only [hC, hL'] at r1
  simp only [hC', hH'] at r2
  have HF : Hid ((S + n) / 18446744073709551616 % 18446744073709551616 = H' ∧ (S + n) % 18446744073709551616 = L') := by
    refine ⟨?_, ?_⟩ <;> omega
  rw [HF.out.1, HF.out.2]
  have HG : Hid (n / 18446744073709551616 % 18446744073709551616 = G) := hG
  clear hH hL hR hG hC hL' hC' hH' HF
  go_enter Tryd.func35, Tryd.ntmps35
  go_wp2
  go_region_held3 (fun w' => w'.cell? ⟨w.heap.size, 0, none⟩ = some (.int .u64 H) ∧ w'.cell? ⟨w.heap.size, 1, none⟩ = some (.int .u64 L)) (go_keep)
    (first | (go_at_call 51; refine (signs_any _ _ (by omega) (by omega)).mono ?_; rintro e w' ⟨rfl, rfl⟩; rw [HG.out]))
  go_wp2
  exact bodyPost_ret (v := .agg #[.int .u64 H', .int .u64 L']) (by simp [results, Tryd.results35, go_sem, *]) rfl ⟨rfl, by (repeat (first | exact Below.refl _ _ | assumption | refine Below.drew ?_ | refine below_drewN ?_ _ | refine Below.alloc ?_ (by first | omega | (simp; done) | (simp; omega)) _ | refine Below.setCell ?_ (by first | omega | (simp; done) | (simp; omega)) _ | refine Below.trans ?_ (Below.mono (by assumption) (by first | omega | (simp; done) | (simp; omega)))))⟩
end Go.Proofs.YtenpggdmmgokpaaDoor
