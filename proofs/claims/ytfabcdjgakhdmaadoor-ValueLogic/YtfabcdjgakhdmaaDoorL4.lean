/- Walk of the law ValueLogic. -/
import Derived.Test.YtfabcdjgakhdmaaDoorW14
import Derived.Test.YtfabcdjgakhdmaaDoorW19
import Derived.Test.YtfabcdjgakhdmaaDoorW21
namespace Go.Proofs.YtfabcdjgakhdmaaDoor
open Go.RowKit

theorem Row.first {w : World} {a : Option Addr} {vs : List V3} (h : Row w a vs) (hl : 0 < vs.length) : ∃ b off, a = some ⟨b, off, none⟩ ∧ w.cell? ⟨b, off, none⟩ = some (.int .i64 (vs[0]).1) ∧ w.cell? ⟨b, off + 1, none⟩ = some (.int .i64 (vs[0]).2.1) ∧ w.cell? ⟨b, off + 2, none⟩ = some (.string (vs[0]).2.2) := by
  obtain ⟨b, off, e, c0, c1, c2⟩ := h 0 hl
  exact ⟨b, off, e, by simpa using c0, by simpa using c1, by simpa using c2⟩

set_option maxHeartbeats 4000000 in
set_option maxRecDepth 100000 in
theorem llogic_any (a : Option Addr) (cap : Nat) (vs : List V3) (w : World) (hrow : Row w a vs) :
    Calls Tryd.prog 4 #[.slice a vs.length cap] w fun e w' => e = .returned (.bool true) ∧ Below w.heap.size w w' := by
  by_cases hbig : (2147483647 : Int) < (vs.length : Int)
  · go_enter Tryd.func4, Tryd.ntmps4
    go_wp2
    go_ret
    exact ⟨rfl, Below.refl _ _⟩
  have hlen : vs.length ≤ 2147483647 := by omega
  have hlen' : vs.length ≤ 2147483648 := by omega
  have i1 : (0 : Int) ≤ (vs.length : Int) := by omega
  have i2 : (vs.length : Int) ≤ (vs.length : Int) + 2 := by omega
  have i3 : (vs.length : Int) ≤ ((vs.length + 2 : Nat) : Int) := by omega
  have HR : Hid (Row w a vs) := hrow
  clear hrow
  go_enter Tryd.func4, Tryd.ntmps4
  go_wp2_with fail
  refine (awake_any _).mono ?_
  rintro e w1 ⟨rfl, h1⟩
  have z1 := h1.size
  go_wp2_with fail
  refine (lent_any a cap vs _ hlen (HR.out.later h1)).mono ?_
  rintro e w2 ⟨g, rfl, hown, h2⟩
  have HO : Hid (Row w2 (some ⟨g, 0, none⟩) (more vs)) := hown
  clear hown
  have z2 := h2.size
  have H2 : Below w.heap.size w w2 := b2 h1 h2 z1
  clear h1 h2
  go_wp2_with fail
  refine (and_any _ _ vs _ hlen' HO.out.prefix).mono ?_
  rintro e w3 ⟨rfl, h3⟩
  have z3 := h3.size
  go_wp2_with fail
  refine (rand_any a cap vs _ hlen' (HR.out.later (by (repeat (first | exact Below.refl _ _ | assumption | refine Below.drew ?_ | refine below_drewN ?_ _ | refine Below.alloc ?_ (by first | omega | (simp; done) | (simp; omega)) _ | refine Below.setCell ?_ (by first | omega | (simp; done) | (simp; omega)) _ | refine Below.trans ?_ (Below.mono (by assumption) (by first | omega | (simp; done) | (simp; omega)))))))).mono ?_
  rintro e w4 ⟨rfl, h4⟩
  obtain ⟨hc4, hf4⟩ := bcell h4
  have z4 := h4.size
  (try simp at z4)
  have q4w3 : w3.heap.size < w4.heap.size := by omega
  have p4w3 : w3.heap.size < w4.heap.size + 1 := by omega
  go_wp2_with fail
  refine (vor_any _ _ vs _ hlen' (HO.out.prefix.later (by (repeat (first | exact Below.refl _ _ | assumption | refine Below.drew ?_ | refine below_drewN ?_ _ | refine Below.alloc ?_ (by first | omega | (simp; done) | (simp; omega)) _ | refine Below.setCell ?_ (by first | omega | (simp; done) | (simp; omega)) _ | refine Below.trans ?_ (Below.mono (by assumption) (by first | omega | (simp; done) | (simp; omega)))))))).mono ?_
  rintro e w5 ⟨rfl, h5⟩
  obtain ⟨hc5, hf5⟩ := bcell h5
  have z5 := h5.size
  (try simp at z5)
  have q5w3 : w3.heap.size < w5.heap.size := by omega
  have p5w3 : w3.heap.size < w5.heap.size + 1 := by omega
  have q5w4 : w4.heap.size < w5.heap.size := by omega
  have p5w4 : w4.heap.size < w5.heap.size + 1 := by omega
  go_wp2_with fail
  refine (ror_any a cap vs _ hlen' (HR.out.later (by (repeat (first | exact Below.refl _ _ | assumption | refine Below.drew ?_ | refine below_drewN ?_ _ | refine Below.alloc ?_ (by first | omega | (simp; done) | (simp; omega)) _ | refine Below.setCell ?_ (by first | omega | (simp; done) | (simp; omega)) _ | refine Below.trans ?_ (Below.mono (by assumption) (by first | omega | (simp; done) | (simp; omega)))))))).mono ?_
  rintro e w6 ⟨rfl, h6⟩
  obtain ⟨hc6, hf6⟩ := bcell h6
  have z6 := h6.size
  (try simp at z6)
  have q6w3 : w3.heap.size < w6.heap.size := by omega
  have p6w3 : w3.heap.size < w6.heap.size + 1 := by omega
  have q6w4 : w4.heap.size < w6.heap.size := by omega
  have p6w4 : w4.heap.size < w6.heap.size + 1 := by omega
  have q6w5 : w5.heap.size < w6.heap.size := by omega
  have p6w5 : w5.heap.size < w6.heap.size + 1 := by omega
  go_wp2_with fail
  refine (kept_any g a cap vs _ hlen (HO.out.later (by (repeat (first | exact Below.refl _ _ | assumption | refine Below.drew ?_ | refine below_drewN ?_ _ | refine Below.alloc ?_ (by first | omega | (simp; done) | (simp; omega)) _ | refine Below.setCell ?_ (by first | omega | (simp; done) | (simp; omega)) _ | refine Below.trans ?_ (Below.mono (by assumption) (by first | omega | (simp; done) | (simp; omega))))))) (HR.out.later (by (repeat (first | exact Below.refl _ _ | assumption | refine Below.drew ?_ | refine below_drewN ?_ _ | refine Below.alloc ?_ (by first | omega | (simp; done) | (simp; omega)) _ | refine Below.setCell ?_ (by first | omega | (simp; done) | (simp; omega)) _ | refine Below.trans ?_ (Below.mono (by assumption) (by first | omega | (simp; done) | (simp; omega)))))))).mono ?_
  rintro e w7 ⟨rfl, h7⟩
  obtain ⟨hc7, hf7⟩ := bcell h7
  have z7 := h7.size
  (try simp at z7)
  have q7w3 : w3.heap.size < w7.heap.size := by omega
  have p7w3 : w3.heap.size < w7.heap.size + 1 := by omega
  have q7w4 : w4.heap.size < w7.heap.size := by omega
  have p7w4 : w4.heap.size < w7.heap.size + 1 := by omega
  have q7w5 : w5.heap.size < w7.heap.size := by omega
  have p7w5 : w5.heap.size < w7.heap.size + 1 := by omega
  have q7w6 : w6.heap.size < w7.heap.size := by omega
  have p7w6 : w6.heap.size < w7.heap.size + 1 := by omega
  have H7 : Below w.heap.size w w7 := by (repeat (first | exact Below.refl _ _ | assumption | refine Below.drew ?_ | refine below_drewN ?_ _ | refine Below.alloc ?_ (by first | omega | (simp; done) | (simp; omega)) _ | refine Below.setCell ?_ (by first | omega | (simp; done) | (simp; omega)) _ | refine Below.trans ?_ (Below.mono (by assumption) (by first | omega | (simp; done) | (simp; omega)))))
  by_cases h0 : 0 < vs.length
  · have h0' : (0 : Int) < (vs.length : Int) := by omega
    obtain ⟨b, off, rfl, c0, c1, c2⟩ := (HR.out.later H7).first h0
    go_wp2_with fail
    refine (not_any _ _ _ _).mono ?_
    rintro e w8 ⟨rfl, h8⟩
    obtain ⟨hc8, hf8⟩ := bcell h8
    have z8 := h8.size
    (try simp at z8)
    have q8w3 : w3.heap.size < w8.heap.size := by omega
    have p8w3 : w3.heap.size < w8.heap.size + 1 := by omega
    have q8w4 : w4.heap.size < w8.heap.size := by omega
    have p8w4 : w4.heap.size < w8.heap.size + 1 := by omega
    have q8w5 : w5.heap.size < w8.heap.size := by omega
    have p8w5 : w5.heap.size < w8.heap.size + 1 := by omega
    have q8w6 : w6.heap.size < w8.heap.size := by omega
    have p8w6 : w6.heap.size < w8.heap.size + 1 := by omega
    have d0 := cell_later h8 c0
    have d1 := cell_later h8 c1
    have d2 := cell_later h8 c2
    have c8 : b < w8.heap.size := cell_lt d0
    go_wp2_with fail
    refine (rnot_any _ _ _ _).mono ?_
    rintro e w9 ⟨rfl, h9⟩
    obtain ⟨hc9, hf9⟩ := bcell h9
    have z9 := h9.size
    (try simp at z9)
    have q9w3 : w3.heap.size < w9.heap.size := by omega
    have p9w3 : w3.heap.size < w9.heap.size + 1 := by omega
    have q9w4 : w4.heap.size < w9.heap.size := by omega
    have p9w4 : w4.heap.size < w9.heap.size + 1 := by omega
    have q9w5 : w5.heap.size < w9.heap.size := by omega
    have p9w5 : w5.heap.size < w9.heap.size + 1 := by omega
    have q9w6 : w6.heap.size < w9.heap.size := by omega
    have p9w6 : w6.heap.size < w9.heap.size + 1 := by omega
    have q9w8 : w8.heap.size < w9.heap.size := by omega
    have p9w8 : w8.heap.size < w9.heap.size + 1 := by omega
    go_wp2
    go_ret
    refine ⟨ret_bool ?_, by (repeat (first | exact Below.refl _ _ | assumption | refine Below.drew ?_ | refine below_drewN ?_ _ | refine Below.alloc ?_ (by first | omega | (simp; done) | (simp; omega)) _ | refine Below.setCell ?_ (by first | omega | (simp; done) | (simp; omega)) _ | refine Below.trans ?_ (Below.mono (by assumption) (by first | omega | (simp; done) | (simp; omega)))))⟩
    rfl
  · have h0' : ¬ (0 : Int) < (vs.length : Int) := by omega
    go_wp2
    go_ret
    refine ⟨ret_bool ?_, by (repeat (first | exact Below.refl _ _ | assumption | refine Below.drew ?_ | refine below_drewN ?_ _ | refine Below.alloc ?_ (by first | omega | (simp; done) | (simp; omega)) _ | refine Below.setCell ?_ (by first | omega | (simp; done) | (simp; omega)) _ | refine Below.trans ?_ (Below.mono (by assumption) (by first | omega | (simp; done) | (simp; omega)))))⟩
    rfl
end Go.Proofs.YtfabcdjgakhdmaaDoor
