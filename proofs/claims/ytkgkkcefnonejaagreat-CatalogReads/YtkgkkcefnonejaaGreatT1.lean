/- Walks of layer 8: names, types, numbers. -/
import Derived.Test.YtkgkkcefnonejaaGreatT0
namespace Go.Proofs.YtkgkkcefnonejaaGreat
open Go.RowKit

def fromB (a b n : Int) : Bool := decide (a ≤ n) && decide (n ≤ b)
set_option maxHeartbeats 400000 in
theorem from_any (a b n : Int) (w : World) :
    Calls Tryz.prog 79 #[.int .i64 a, .int .i64 b, .int .i64 n] w fun e w' => e = .returned (.bool (fromB a b n)) ∧ w' = w := by
  go_enter Tryz.func79, Tryz.ntmps79
  go_wp2
  all_goals go_ret
  · exact ⟨ret_bool (by simp [fromB, *]), rfl⟩
  · exact ⟨ret_bool (by simp [fromB]; omega), rfl⟩

set_option maxHeartbeats 400000 in
theorem small_any (c : UInt8) (w : World) :
    Calls Tryz.prog 122 #[.int .u8 (c.toNat : Int)] w fun e w' => e = .returned (.bool (smallB c)) ∧ w' = w := by
  go_enter Tryz.func122, Tryz.ntmps122
  go_wp2
  all_goals go_ret
  all_goals (refine ⟨ret_bool ?_, rfl⟩; go_light; rw [Bool.eq_iff_iff]; simp [smallB]; omega)

set_option maxHeartbeats 400000 in
theorem digit_any (c : UInt8) (w : World) :
    Calls Tryz.prog 123 #[.int .u8 (c.toNat : Int)] w fun e w' => e = .returned (.bool (digitB c)) ∧ w' = w := by
  go_enter Tryz.func123, Tryz.ntmps123
  go_wp2
  all_goals go_ret
  all_goals (refine ⟨ret_bool ?_, rfl⟩; go_light; rw [Bool.eq_iff_iff]; simp [digitB]; omega)

set_option maxHeartbeats 400000 in
theorem type_any (n : Int) (w : World) :
    Calls Tryz.prog 126 #[.int .i64 n] w fun e w' => e = .returned (.bool (typB n)) ∧ w' = w := by
  go_enter Tryz.func126, Tryz.ntmps126
  go_wp2
  all_goals go_ret
  all_goals (refine ⟨ret_bool ?_, rfl⟩; go_light; rw [Bool.eq_iff_iff]; simp [typB]; omega)
end Go.Proofs.YtkgkkcefnonejaaGreat
