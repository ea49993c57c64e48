/- Walks of layer 1, fifteenth part: the document's products and bounds. -/
import Derived.Test.YtfabcdjgakhdmaaDoorW5
import Derived.Test.YtfabcdjgakhdmaaDoorW6
import Derived.Test.YtfabcdjgakhdmaaDoorW3b
import Derived.Test.YtfabcdjgakhdmaaDoorM7
namespace Go.Proofs.YtfabcdjgakhdmaaDoor
open Go.RowKit

theorem fits_ok (n : Int) (w : World) (h1 : -4611686018427387904 ≤ n) (h2 : n ≤ 4611686018427387904) :
    Calls Tryd.prog 50 #[.int .i64 n] w fun e w' => e = .returned (.tuple #[.agg #[.int .i64 1, .int .i64 n, .string ⟨#[]⟩], .int .i64 0]) ∧ Below w.heap.size w w' := by
  go_enter Tryd.func50, Tryd.ntmps50
  go_wp2_with (first | (go_at_call 52; refine (rnumber_any _ _).mono ?_; rintro e w' ⟨rfl, hb⟩; obtain ⟨hc, hf⟩ := bcell hb; have hz := hb.size; (try simp at hz); (try have hz0 : w.heap.size < w'.heap.size := by omega); (try have hz1 : w.heap.size + 1 < w'.heap.size := by omega); (try have hz2 : w.heap.size + 1 + 1 < w'.heap.size := by omega); (try have hz3 : w.heap.size + 1 + 1 + 1 < w'.heap.size := by omega)))
  exact bodyPost_ret (v := .tuple #[.agg #[.int .i64 1, .int .i64 n, .string ⟨#[]⟩], .int .i64 0]) (by simp [results, Tryd.results50, go_sem, *]) rfl ⟨rfl, by (repeat (first | exact Below.refl _ _ | assumption | refine Below.drew ?_ | refine below_drewN ?_ _ | refine Below.alloc ?_ (by first | omega | (simp; done) | (simp; omega)) _ | refine Below.setCell ?_ (by first | omega | (simp; done) | (simp; omega)) _ | refine Below.trans ?_ (Below.mono (by assumption) (by first | omega | (simp; done) | (simp; omega)))))⟩

theorem fits_no (n : Int) (w : World) (h : (decide (-4611686018427387904 ≤ n) && decide (n ≤ 4611686018427387904)) = false) :
    Calls Tryd.prog 50 #[.int .i64 n] w fun e w' => e = .returned (.tuple #[.agg #[.int .i64 0, .int .i64 0, .string ⟨#[]⟩], .int .i64 12]) ∧ Below w.heap.size w w' := by
  have h' : n < -4611686018427387904 ∨ (¬ n < -4611686018427387904 ∧ 4611686018427387904 < n) := by
    simp only [Bool.and_eq_false_iff, decide_eq_false_iff_not] at h; omega
  clear h
  rcases h' with h | ⟨h, g⟩
  all_goals
    go_enter Tryd.func50, Tryd.ntmps50
    go_wp2
    exact bodyPost_ret (v := .tuple #[.agg #[.int .i64 0, .int .i64 0, .string ⟨#[]⟩], .int .i64 12]) (by simp [results, Tryd.results50, go_sem]) rfl ⟨rfl, by (repeat (first | exact Below.refl _ _ | assumption | refine Below.drew ?_ | refine below_drewN ?_ _ | refine Below.alloc ?_ (by first | omega | (simp; done) | (simp; omega)) _ | refine Below.setCell ?_ (by first | omega | (simp; done) | (simp; omega)) _ | refine Below.trans ?_ (Below.mono (by assumption) (by first | omega | (simp; done) | (simp; omega)))))⟩

theorem quo_neg {a : Int} {X q : Nat} (ha : a < 0) (hX : a.natAbs = X) (hq : 4611686018427387904 / X = q) (hqle : q ≤ 4611686018427387904) : wrap64 (-Int.tdiv 4611686018427387904 a) = (q : Int) := by
  have e : a = -(X : Int) := by omega
  have : Int.tdiv 4611686018427387904 a = -(q : Int) := by
    rw [e, Int.tdiv_neg, ← hq]
    rfl
  rw [this]
  simp only [wrap64]
  omega
theorem quo_pos {a : Int} {X q : Nat} (ha : ¬ a < 0) (hX : a.natAbs = X) (hq : 4611686018427387904 / X = q) : (4611686018427387904 : Int) / a = (q : Int) := by
  have e : a = (X : Int) := by omega
  rw [e, ← hq]
  rfl

set_option maxRecDepth 100000 in
theorem times_ok (a b : Int) (w : World) (ha1 : -4611686018427387904 ≤ a) (ha2 : a ≤ 4611686018427387904) (hb1 : -4611686018427387904 ≤ b) (hb2 : b ≤ 4611686018427387904) (r1 : -4611686018427387904 ≤ a * b) (r2 : a * b ≤ 4611686018427387904) :
    Calls Tryd.prog 51 #[.int .i64 a, .int .i64 b] w fun e w' => e = .returned (.tuple #[.int .i64 (a * b), .bool true]) ∧ w' = w := by
  obtain ⟨X, hX⟩ : ∃ X : Nat, a.natAbs = X := ⟨_, rfl⟩
  obtain ⟨Y, hY⟩ : ∃ Y : Nat, b.natAbs = Y := ⟨_, rfl⟩
  have hm := mul_abs a b
  rw [hX, hY] at hm
  obtain ⟨q, hq⟩ : ∃ q : Nat, 4611686018427387904 / X = q := ⟨_, rfl⟩
  have hqle : q ≤ 4611686018427387904 := by rw [← hq]; exact Nat.div_le_self _ _
  have hw : wrap64 (a * b) = a * b := by simp only [wrap64]; omega
  have hle : X = 0 ∨ Y ≤ q := by
    by_cases h : X = 0
    · exact Or.inl h
    · right
      have := (prod_le (x := X) (y := Y) (by omega))
      rw [hq] at this
      omega
  have HW : Hid (wrap64 (a * b) = a * b) := hw
  have hl2 : a = 0 ∨ ((b < 0 ∧ -b ≤ (q : Int)) ∨ (¬ b < 0 ∧ b ≤ (q : Int))) := by omega
  by_cases ha : a < 0
  · have hQ := quo_neg ha hX hq hqle
    rcases hl2 with rfl | ⟨g1, g2⟩ | ⟨g1, g2⟩
    · omega
    all_goals
      clear hX hY hm hq hle hw r1 r2
      go_enter Tryd.func51, Tryd.ntmps51
      go_wp2
      go_ret2
      exact ⟨ret_two (congrArg (Value.int .i64) (by first | exact HW.out | rfl)) rfl, rfl⟩
  · by_cases ha0 : a = 0
    · subst ha0
      have e0 : (0 : Int) * b = 0 := Int.zero_mul b
      by_cases g1 : b < 0
      all_goals
        clear hX hY hm hq hle hw r1 r2
        go_enter Tryd.func51, Tryd.ntmps51
        go_wp2
        go_ret2
        exact ⟨ret_two (congrArg (Value.int .i64) (by first | rfl | (simp [wrap64]; done) | exact HW.out)) rfl, rfl⟩
    · have hQ := quo_pos ha hX hq
      have ha3 : 0 < a := by omega
      rcases hl2 with rfl | ⟨g1, g2⟩ | ⟨g1, g2⟩
      · omega
      all_goals
        clear hX hY hm hq hle hw r1 r2
        go_enter Tryd.func51, Tryd.ntmps51
        go_wp2
        go_ret2
        exact ⟨ret_two (congrArg (Value.int .i64) (by first | exact HW.out | rfl)) rfl, rfl⟩

set_option maxRecDepth 100000 in
theorem times_no (a b : Int) (w : World) (ha1 : -4611686018427387904 ≤ a) (ha2 : a ≤ 4611686018427387904) (hb1 : -4611686018427387904 ≤ b) (hb2 : b ≤ 4611686018427387904) (hr : ¬ (-4611686018427387904 ≤ a * b ∧ a * b ≤ 4611686018427387904)) :
    Calls Tryd.prog 51 #[.int .i64 a, .int .i64 b] w fun e w' => e = .returned (.tuple #[.int .i64 0, .bool false]) ∧ w' = w := by
  obtain ⟨X, hX⟩ : ∃ X : Nat, a.natAbs = X := ⟨_, rfl⟩
  obtain ⟨Y, hY⟩ : ∃ Y : Nat, b.natAbs = Y := ⟨_, rfl⟩
  have hm := mul_abs a b
  rw [hX, hY] at hm
  obtain ⟨q, hq⟩ : ∃ q : Nat, 4611686018427387904 / X = q := ⟨_, rfl⟩
  have hqle : q ≤ 4611686018427387904 := by rw [← hq]; exact Nat.div_le_self _ _
  have hX0 : 0 < X := by
    rcases Nat.eq_zero_or_pos X with h | h
    · rw [h, Nat.zero_mul] at hm; omega
    · exact h
  have hlt : q < Y := by
    have := (prod_le (x := X) (y := Y) hX0)
    rw [hq] at this
    omega
  have hl2 : (b < 0 ∧ (q : Int) < -b) ∨ (¬ b < 0 ∧ (q : Int) < b) := by omega
  by_cases ha : a < 0
  · have hQ := quo_neg ha hX hq hqle
    rcases hl2 with ⟨g1, g2⟩ | ⟨g1, g2⟩
    all_goals
      clear hX hY hm hq hlt hr
      go_enter Tryd.func51, Tryd.ntmps51
      go_wp2
      go_ret2
      exact ⟨rfl, rfl⟩
  · have hQ := quo_pos ha hX hq
    have ha3 : 0 < a := by omega
    rcases hl2 with ⟨g1, g2⟩ | ⟨g1, g2⟩
    all_goals
      clear hX hY hm hq hlt hr
      go_enter Tryd.func51, Tryd.ntmps51
      go_wp2
      go_ret2
      exact ⟨rfl, rfl⟩
end Go.Proofs.YtfabcdjgakhdmaaDoor
