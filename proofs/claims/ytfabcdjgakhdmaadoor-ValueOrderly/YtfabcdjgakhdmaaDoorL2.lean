/- The law ValueOrderly out of its four cases. -/
import Derived.Test.YtfabcdjgakhdmaaDoorL2a
import Derived.Test.YtfabcdjgakhdmaaDoorL2b
import Derived.Test.YtfabcdjgakhdmaaDoorL2c
import Derived.Test.YtfabcdjgakhdmaaDoorL2d
namespace Go.Proofs.YtfabcdjgakhdmaaDoor
open Go.RowKit

theorem cmp36 (k n : Int) (s : ByteArray) (k' n' : Int) (s' : ByteArray) :
    ∃ r1 r2 r3 q1 q2 : Int, cmpR 3 k n s k' n' s' = (r1, r2, r3) ∧ cmpR 6 k n s k' n' s' = (q1, q2, r3) ∧
      (((r3 ≠ 0 ∨ (r3 = 0 ∧ k = 0) ∨ (r3 = 0 ∧ k ≠ 0 ∧ k' = 0)) ∧ r1 = 0 ∧ r2 = 0 ∧ q1 = 0 ∧ q2 = 0) ∨
        (r3 = 0 ∧ k ≠ 0 ∧ k' ≠ 0 ∧ r1 = 2 ∧ q1 = 2 ∧ ((ordV k n s k' n' s' < 0 ∧ r2 = 1 ∧ q2 = 0) ∨ (0 ≤ ordV k n s k' n' s' ∧ r2 = 0 ∧ q2 = 1)))) := by
  have o3 : ¬ ((3 : Int) < 1 ∨ (6 : Int) < 3) := by omega
  have o6 : ¬ ((6 : Int) < 1 ∨ (6 : Int) < 6) := by omega
  by_cases h1 : rgt k n s = true
  · by_cases h2 : rgt k' n' s' = true
    · by_cases h3 : k = 0 ∨ k' = 0
      · refine ⟨0, 0, 0, 0, 0, cmpR_null o3 h1 h2 h3, cmpR_null o6 h1 h2 h3, Or.inl ⟨?_, rfl, rfl, rfl, rfl⟩⟩
        omega
      · by_cases h4 : k = k'
        · by_cases h5 : ordV k n s k' n' s' < 0
          · refine ⟨2, 1, 0, 2, 0, ?_, ?_, Or.inr ⟨rfl, by omega, by omega, rfl, rfl, Or.inl ⟨h5, rfl, rfl⟩⟩⟩
            · rw [cmpR_ok o3 h1 h2 h3 h4]; simp [hold, b2i, h5]
            · rw [cmpR_ok o6 h1 h2 h3 h4]; simp [hold, b2i]; omega
          · refine ⟨2, 0, 0, 2, 1, ?_, ?_, Or.inr ⟨rfl, by omega, by omega, rfl, rfl, Or.inr ⟨by omega, rfl, rfl⟩⟩⟩
            · rw [cmpR_ok o3 h1 h2 h3 h4]; simp [hold, b2i, h5]
            · rw [cmpR_ok o6 h1 h2 h3 h4]; simp [hold, b2i]; omega
        · exact ⟨0, 0, 11, 0, 0, cmpR_type o3 h1 h2 h3 h4, cmpR_type o6 h1 h2 h3 h4, Or.inl ⟨Or.inl (by omega), rfl, rfl, rfl, rfl⟩⟩
    · have g : rgt k n s = false ∨ rgt k' n' s' = false := Or.inr (by simpa using h2)
      exact ⟨0, 0, 10, 0, 0, cmpR_right o3 g, cmpR_right o6 g, Or.inl ⟨Or.inl (by omega), rfl, rfl, rfl, rfl⟩⟩
  · have g : rgt k n s = false ∨ rgt k' n' s' = false := Or.inl (by simpa using h1)
    exact ⟨0, 0, 10, 0, 0, cmpR_right o3 g, cmpR_right o6 g, Or.inl ⟨Or.inl (by omega), rfl, rfl, rfl, rfl⟩⟩

theorem orderly_any (k n : Int) (s : ByteArray) (k' n' : Int) (s' : ByteArray) (k2 n2 : Int) (s2 : ByteArray) (w : World) :
    Calls Tryd.prog 8 #[.agg #[.int .i64 k, .int .i64 n, .string s], .agg #[.int .i64 k', .int .i64 n', .string s'], .agg #[.int .i64 k2, .int .i64 n2, .string s2]] w fun e w' => e = .returned (.bool true) ∧ Below w.heap.size w w' := by
  obtain ⟨r1, r2, r3, q1, q2, c3, c6, hfin⟩ := cmp36 k n s k' n' s'
  have hself := (ordV_zero k n s k n s).2 ⟨rfl, rfl, rfl⟩
  have hneg := ordV_neg k n s k' n' s'
  have hrg := ordV_range k n s k' n' s'
  have htr := ordV_trans k n s k' n' s' k2 n2 s2
  have hz := ordV_zero k n s k' n' s'
  obtain ⟨tl, tt, _, _⟩ := htr
  by_cases h1 : k = k'
  · by_cases h2 : n = n'
    · by_cases h3 : s.toList = s'.toList
      · have hx := hz.2 ⟨h1, h2, h3⟩
        subst h1 h2
        rw [hx] at hneg hfin tl tt
        exact orderly_a k n s s' k2 n2 s2 w _ _ r1 r2 r3 q1 q2 hx hneg rfl rfl hself c3 c6 (by omega) (by omega) h3 (by rcases hfin with h | ⟨a, b, c, d, e, f⟩; exact Or.inl h; exact Or.inr ⟨a, b, c, d, e, Or.inr ⟨Nat.le_refl 0, by omega, by omega⟩⟩)
      · have hx : ordV k n s k' n' s' ≠ 0 := fun e => h3 (hz.1 e).2.2
        subst h1 h2
        exact orderly_d k n s s' k2 n2 s2 w _ _ _ r1 r2 r3 q1 q2 rfl hneg rfl rfl hself c3 c6 hrg.1 hrg.2 (by omega) (by simpa using hx) (by omega) (by omega) h3 hfin
    · have hx : ordV k n s k' n' s' ≠ 0 := fun e => h2 (hz.1 e).2.1
      subst h1
      exact orderly_c k n s n' s' k2 n2 s2 w _ _ _ r1 r2 r3 q1 q2 rfl hneg rfl rfl hself c3 c6 hrg.1 hrg.2 (by omega) (by simpa using hx) (by omega) (by omega) h2 hfin
  · have hx : ordV k n s k' n' s' ≠ 0 := fun e => h1 (hz.1 e).1
    exact orderly_b k n s k' n' s' k2 n2 s2 w _ _ _ r1 r2 r3 q1 q2 rfl hneg rfl rfl hself c3 c6 hrg.1 hrg.2 (by omega) (by simpa using hx) (by omega) (by omega) h1 hfin
end Go.Proofs.YtfabcdjgakhdmaaDoor
