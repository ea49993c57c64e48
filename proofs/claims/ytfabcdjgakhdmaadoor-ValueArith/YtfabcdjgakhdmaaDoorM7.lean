/- Plain mathematics of layer 1: products by division; opposites. -/
import Derived.Test.YtfabcdjgakhdmaaDoorM3
namespace Go.Proofs.YtfabcdjgakhdmaaDoor

theorem prod_le {x y : Nat} (hx : 0 < x) : (4611686018427387904 / x < y) ↔ 4611686018427387904 < x * y := by
  rw [Nat.div_lt_iff_lt_mul hx, Nat.mul_comm]

/-- The opposite: a kind, a number, an error. -/
def negR (k n : Int) (s : ByteArray) : Int × Int × Int :=
  if adm 1 [(k, n, s)] ≠ 0 then (0, 0, adm 1 [(k, n, s)]) else if k = 0 then (0, 0, 0) else (1, -n, 0)
section
variable {k n : Int} {s : ByteArray}
theorem negR_adm (g : adm 1 [(k, n, s)] ≠ 0) : negR k n s = (0, 0, adm 1 [(k, n, s)]) := by unfold negR; rw [if_pos g]
theorem negR_null (g : adm 1 [(k, n, s)] = 0) (h : k = 0) : negR k n s = (0, 0, 0) := by unfold negR; rw [if_neg (by simp [g]), if_pos h]
theorem negR_ok (g : adm 1 [(k, n, s)] = 0) (h : ¬ k = 0) : negR k n s = (1, -n, 0) := by unfold negR; rw [if_neg (by simp [g]), if_neg h]
end
end Go.Proofs.YtfabcdjgakhdmaaDoor
