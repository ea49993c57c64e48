/- The law ValueReckons out of its cases. -/
import Derived.Test.YtfabcdjgakhdmabDoorL7TT
import Derived.Test.YtfabcdjgakhdmabDoorL7TN
import Derived.Test.YtfabcdjgakhdmabDoorL7NT
import Derived.Test.YtfabcdjgakhdmabDoorL7NN
namespace Go.Proofs.YtfabcdjgakhdmabDoor
open Go.RowKit

theorem beq_of_iff {a b c : Int} (h : a = c ↔ b = c) : (a == c) = (b == c) := by
  rw [Bool.eq_iff_iff, beq_iff_eq, beq_iff_eq]; exact h

theorem tail_of (vs : List V3) : ∃ t1 t2 t3 u1 u2 u3 : Int, sumR vs = (t1, t2, t3) ∧ sumR (turnedL vs) = (u1, u2, u3) ∧ (t3 == 10) = (u3 == 10) ∧ (t3 == 11) = (u3 == 11) ∧
    (vs.length = 0 ∨ (∃ h : 0 < vs.length, t3 ≠ 0 ∨ (t3 = 0 ∧ (t1 ≠ 1 ∨ (t1 = 1 ∧ ((vs[0]).1 ≠ 1 ∨ ((vs[0]).1 = 1 ∧ arR 1 t1 t2 ⟨#[]⟩ (vs[0]).1 (vs[0]).2.1 (vs[0]).2.2 = (u1, u2, u3)))))))) := by
  have he := sum_errs vs
  refine ⟨(sumR vs).1, (sumR vs).2.1, (sumR vs).2.2, (sumR (turnedL vs)).1, (sumR (turnedL vs)).2.1, (sumR (turnedL vs)).2.2, rfl, rfl, beq_of_iff he.1, beq_of_iff he.2, ?_⟩
  by_cases h : 0 < vs.length
  · refine Or.inr ⟨h, ?_⟩
    by_cases h3 : (sumR vs).2.2 = 0
    · refine Or.inr ⟨h3, ?_⟩
      by_cases h1 : (sumR vs).1 = 1
      · refine Or.inr ⟨h1, ?_⟩
        by_cases hl : (vs[0]).1 = 1
        · exact Or.inr ⟨hl, (sum_turned h h3 h1 hl).symm⟩
        · exact Or.inl hl
      · exact Or.inl h1
    · exact Or.inl h3
  · exact Or.inl (by omega)

set_option maxHeartbeats 1000000 in
set_option maxRecDepth 100000 in
theorem lreck_any (k n : Int) (s : ByteArray) (k' n' : Int) (s' : ByteArray) (a : Option Addr) (cap : Nat) (vs : List V3) (w : World) (hrow : Row w a vs) :
    Calls Tryd.prog 4 #[.agg #[.int .i64 k, .int .i64 n, .string s], .agg #[.int .i64 k', .int .i64 n', .string s'], .slice a vs.length cap] w fun e w' => e = .returned (.bool true) ∧ Below w.heap.size w w' := by
  by_cases hbig : (536870911 : Int) < (vs.length : Int)
  · go_enter Tryd.func4, Tryd.ntmps4
    go_wp2
    go_ret
    exact ⟨rfl, by (repeat (first | exact Below.refl _ _ | assumption | refine Below.drew ?_ | refine below_drewN ?_ _ | refine Below.alloc ?_ (by first | omega | (simp; done) | (simp; omega)) _ | refine Below.setCell ?_ (by first | omega | (simp; done) | (simp; omega)) _ | refine Below.trans ?_ (Below.mono (by assumption) (by first | omega | (simp; done) | (simp; omega)))))⟩
  have hlen : vs.length ≤ 536870911 := by omega
  obtain ⟨t1, t2, t3, u1, u2, u3, ht, hu, hb10, hb11, htail⟩ := tail_of vs
  rcases pair_cases k n s k' n' s' with ⟨e, he⟩ | ⟨rfl, rfl, rfl, rfl, _, a1, a2, b1, b2⟩
  · exact reck_NN k n s k' n' s' e a cap vs w hlen hrow (he 1 (by omega) (by omega)) (he 4 (by omega) (by omega)) (he 5 (by omega) (by omega)) t1 t2 t3 u1 u2 u3 ht hu hb10 hb11 htail
  · have ex1 : exact2 1 n n' = n + n' := rfl
    have exy : exact2 1 n' n = n + n' := Int.add_comm n' n
    have ex2 : exact2 2 (n + n') n' = n := by show n + n' - n' = n; omega
    by_cases hs : -4611686018427387904 ≤ n + n' ∧ n + n' ≤ 4611686018427387904
    · have hA := ar_num (op := 1) (by omega) (by omega) a1 a2 b1 b2 (by omega) ex1 hs.1 hs.2
      have hX := ar_num (op := 2) (by omega) (by omega) hs.1 hs.2 b1 b2 (by omega) ex2 a1 a2
      have hY := ar_num (op := 1) (by omega) (by omega) b1 b2 a1 a2 (by omega) exy hs.1 hs.2
      have hZ := sum_pair a1 a2 b1 b2 hs.1 hs.2
      by_cases hz : n' = 0
      · subst hz
        exact reck_TN n 0 (n + 0) a cap vs w hlen hrow hA hX hY hZ (ar_zero (Or.inl rfl) a1 a2) (ar_zero (Or.inr rfl) a1 a2) t1 t2 t3 u1 u2 u3 ht hu hb10 hb11 htail
      · have d := tdiv_in (b := n') a1 a2
        have m := tmod_in (b := n') a1 a2
        have q := quo_bound (b := n') a1 a2
        have g := rem_sign n n'
        exact reck_TT n n' (n + n') (n.tdiv n') (n.tmod n') (n.tdiv n' * n') a cap vs w hlen hrow hA hX hY hZ
          (ar_num (op := 4) (by omega) (by omega) a1 a2 b1 b2 (by omega) rfl d.1 d.2) (ar_num (op := 5) (by omega) (by omega) a1 a2 b1 b2 (by omega) rfl m.1 m.2)
          (ar_num (op := 3) (by omega) (by omega) d.1 d.2 b1 b2 (by omega) rfl q.1 q.2) (ar_num (op := 1) (by omega) (by omega) q.1 q.2 m.1 m.2 (by omega) (quo_back n n') a1 a2) g.1 g.2 t1 t2 t3 u1 u2 u3 ht hu hb10 hb11 htail
    · have hz : ¬ n' = 0 := by omega
      have hA := ar_over (op := 1) (by omega) (by omega) a1 a2 b1 b2 (by rw [ex1]; exact hs)
      have d := tdiv_in (b := n') a1 a2
      have m := tmod_in (b := n') a1 a2
      have q := quo_bound (b := n') a1 a2
      have g := rem_sign n n'
      exact reck_NT n n' (n.tdiv n') (n.tmod n') (n.tdiv n' * n') a cap vs w hlen hrow hA
        (ar_num (op := 4) (by omega) (by omega) a1 a2 b1 b2 (by omega) rfl d.1 d.2) (ar_num (op := 5) (by omega) (by omega) a1 a2 b1 b2 (by omega) rfl m.1 m.2)
        (ar_num (op := 3) (by omega) (by omega) d.1 d.2 b1 b2 (by omega) rfl q.1 q.2) (ar_num (op := 1) (by omega) (by omega) q.1 q.2 m.1 m.2 (by omega) (quo_back n n') a1 a2) g.1 g.2 t1 t2 t3 u1 u2 u3 ht hu hb10 hb11 htail
end Go.Proofs.YtfabcdjgakhdmabDoor
