/- Walk of the law ValueSums. -/
import Derived.Test.YtfabcdjgakhdmaaDoorW14
import Derived.Test.YtfabcdjgakhdmaaDoorW19
import Derived.Test.YtfabcdjgakhdmaaDoorW22
namespace Go.Proofs.YtfabcdjgakhdmaaDoor
open Go.RowKit

set_option maxHeartbeats 4000000 in
set_option maxRecDepth 100000 in
theorem lsums_any (a : Option Addr) (cap : Nat) (vs : List V3) (w : World) (hrow : Row w a vs) :
    Calls Tryd.prog 6 #[.slice a vs.length cap] w fun e w' => e = .returned (.bool true) ∧ Below w.heap.size w w' := by
  by_cases hbig : (2147483647 : Int) < (vs.length : Int)
  · go_enter Tryd.func6, Tryd.ntmps6
    go_wp2
    go_ret
    exact ⟨rfl, Below.refl _ _⟩
  have hlen : vs.length ≤ 2147483647 := by omega
  have hlen' : vs.length ≤ 2147483648 := by omega
  have i1 : (0 : Int) ≤ (vs.length : Int) := by omega
  have i2 : (vs.length : Int) ≤ (vs.length : Int) + 2 := by omega
  have i3 : (vs.length : Int) ≤ ((vs.length + 2 : Nat) : Int) := by omega
  have HR : Hid (Row w a vs) := hrow
  clear hrow
  go_enter Tryd.func6, Tryd.ntmps6
  go_wp2_with fail
  refine (awake_any _).mono ?_
  rintro e w1 ⟨rfl, h1⟩
  have z1 := h1.size
  go_wp2_with fail
  refine (lent_any a cap vs _ hlen (HR.out.later h1)).mono ?_
  rintro e w2 ⟨g, rfl, hown, h2⟩
  have HO : Hid (Row w2 (some ⟨g, 0, none⟩) (more vs)) := hown
  clear hown
  have z2 := h2.size
  have H2 : Below w.heap.size w w2 := b2 h1 h2 z1
  clear h1 h2
  go_wp2_with fail
  refine (sum_any _ _ vs _ hlen' HO.out.prefix).mono ?_
  rintro e w3 ⟨rfl, h3⟩
  have z3 := h3.size
  go_wp2_with fail
  refine (rsum_any a cap vs _ hlen' (HR.out.later (by (repeat (first | exact Below.refl _ _ | assumption | refine Below.drew ?_ | refine below_drewN ?_ _ | refine Below.alloc ?_ (by first | omega | (simp; done) | (simp; omega)) _ | refine Below.setCell ?_ (by first | omega | (simp; done) | (simp; omega)) _ | refine Below.trans ?_ (Below.mono (by assumption) (by first | omega | (simp; done) | (simp; omega)))))))).mono ?_
  rintro e w4 ⟨rfl, h4⟩
  obtain ⟨hc4, hf4⟩ := bcell h4
  have z4 := h4.size
  (try simp at z4)
  have q4w3 : w3.heap.size < w4.heap.size := by omega
  have p4w3 : w3.heap.size < w4.heap.size + 1 := by omega
  go_wp2_with fail
  refine (kept_any g a cap vs _ hlen (HO.out.later (by (repeat (first | exact Below.refl _ _ | assumption | refine Below.drew ?_ | refine below_drewN ?_ _ | refine Below.alloc ?_ (by first | omega | (simp; done) | (simp; omega)) _ | refine Below.setCell ?_ (by first | omega | (simp; done) | (simp; omega)) _ | refine Below.trans ?_ (Below.mono (by assumption) (by first | omega | (simp; done) | (simp; omega))))))) (HR.out.later (by (repeat (first | exact Below.refl _ _ | assumption | refine Below.drew ?_ | refine below_drewN ?_ _ | refine Below.alloc ?_ (by first | omega | (simp; done) | (simp; omega)) _ | refine Below.setCell ?_ (by first | omega | (simp; done) | (simp; omega)) _ | refine Below.trans ?_ (Below.mono (by assumption) (by first | omega | (simp; done) | (simp; omega)))))))).mono ?_
  rintro e w5 ⟨rfl, h5⟩
  obtain ⟨hc5, hf5⟩ := bcell h5
  have z5 := h5.size
  (try simp at z5)
  have q5w3 : w3.heap.size < w5.heap.size := by omega
  have p5w3 : w3.heap.size < w5.heap.size + 1 := by omega
  have q5w4 : w4.heap.size < w5.heap.size := by omega
  have p5w4 : w4.heap.size < w5.heap.size + 1 := by omega
  go_wp2
  go_ret
  refine ⟨ret_bool ?_, by (repeat (first | exact Below.refl _ _ | assumption | refine Below.drew ?_ | refine below_drewN ?_ _ | refine Below.alloc ?_ (by first | omega | (simp; done) | (simp; omega)) _ | refine Below.setCell ?_ (by first | omega | (simp; done) | (simp; omega)) _ | refine Below.trans ?_ (Below.mono (by assumption) (by first | omega | (simp; done) | (simp; omega)))))⟩
  rfl
end Go.Proofs.YtfabcdjgakhdmaaDoor
