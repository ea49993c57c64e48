/- Walk of the law ValueBack. -/
import Derived.Test.YtenpggdmmgokpaaDoorW14
import Derived.Test.YtenpggdmmgokpaaDoorV6
import Derived.Lib.ItoaLen
namespace Go.Proofs.YtenpggdmmgokpaaDoor
open Go.RowKit

theorem lit_len {v : V3} (h : V3.right v = true) : (lit v).length ≤ 1000 := by
  rcases rt_kind h with k | k | k | k
  · rw [lit_null k]; simp
  · rw [lit_int k]
    obtain ⟨a, b, _⟩ := rt_num h k
    have := Lib.itoa_length_le v.2.1 (by omega) (by omega)
    omega
  · rcases (right_bool h k).1 with q | q
    · rw [lit_false k q]; simp
    · rw [lit_true k q]; simp
  · rw [lit_text k, quo]
    have h1 := (rt_text h k).2
    have h2 := qbs_len v.2.2.data.toList
    have h3 : v.2.2.data.toList.length = v.2.2.size := by simp
    simp
    omega
/-- What Print answers of a right value, and what Parse answers of that. -/
theorem there {v : V3} (h : V3.right v = true) : ∃ S : ByteArray, LitOf S.data.toList v ∧ prV v = .tuple #[.string S, .int .i64 0] ∧ paV S = .tuple #[.agg #[.int .i64 v.1, .int .i64 v.2.1, .string v.2.2], .int .i64 0] ∧ S.size ≤ 2147483648 := by
  have hl : LitOf (⟨(lit v).toArray⟩ : ByteArray).data.toList v := ⟨h, by simp⟩
  refine ⟨⟨(lit v).toArray⟩, hl, ?_, paV_ok hl, ?_⟩
  · unfold prV; rw [prR_ok h]
  · have := lit_len h
    simp [ByteArray.size]
    omega
theorem prV_no {v : V3} (h : V3.right v = false) : prV v = .tuple #[.string ⟨#[]⟩, .int .i64 10] := by unfold prV; rw [prR_no h]
theorem v3_ne {u v : V3} (h : u ≠ v) : (u.1 == v.1) = false ∨ ((u.1 == v.1) = true ∧ (u.2.1 == v.2.1) = false) ∨ ((u.1 == v.1) = true ∧ (u.2.1 == v.2.1) = true ∧ (u.2.2.toList == v.2.2.toList) = false) := by
  by_cases e1 : u.1 = v.1
  · by_cases e2 : u.2.1 = v.2.1
    · by_cases e3 : u.2.2 = v.2.2
      · exact absurd (v3_eq e1 e2 e3) h
      · refine Or.inr (Or.inr ⟨by simpa using e1, by simpa using e2, ?_⟩)
        rw [beq_eq_false_iff_ne, ByteArray.toList_eq, ByteArray.toList_eq]
        exact fun h => e3 (bytes_eq h)
    · exact Or.inr (Or.inl ⟨by simpa using e1, by simpa using e2⟩)
  · exact Or.inl (by simpa using e1)

set_option maxHeartbeats 4000000 in
set_option maxRecDepth 100000 in
theorem back_no (k n : Int) (s : ByteArray) (k' n' : Int) (s' : ByteArray) (w : World) (hv : SV w) (x y : Bool) (hx : rgt k n s = x) (hy : rgt k' n' s' = y) (hxy : x = false ∨ (x = true ∧ y = false)) :
    Calls Tryd.prog 4 #[.agg #[.int .i64 k, .int .i64 n, .string s], .agg #[.int .i64 k', .int .i64 n', .string s']] w fun e w' => e = .returned (.bool true) ∧ Below w.heap.size w w' := by
  have HSV : Hid (SV w) := hv
  clear hv
  have HX : Hid (rgt k n s = x) := hx
  have HY : Hid (rgt k' n' s' = y) := hy
  have HA : Hid (∃ S p, prV (k, n, s) = .tuple #[.string S, .int .i64 p] ∧ (p == 0) = x) := by
    cases x with
    | false => exact ⟨_, _, prV_no hx, by decide⟩
    | true => obtain ⟨S, _, e, _⟩ := there (v := (k, n, s)) hx; exact ⟨_, _, e, by decide⟩
  have HB : Hid (∃ S p, prV (k', n', s') = .tuple #[.string S, .int .i64 p] ∧ (p == 0) = y) := by
    cases y with
    | false => exact ⟨_, _, prV_no hy, by decide⟩
    | true => obtain ⟨S, _, e, _⟩ := there (v := (k', n', s')) hy; exact ⟨_, _, e, by decide⟩
  clear hx hy
  go_enter Tryd.func4, Tryd.ntmps4
  go_wp2_with fail
  refine (awake_any _).mono ?_
  rintro e w1 ⟨rfl, hb1⟩
  have z1 := hb1.size
  simp at z1
  have g1 : w.heap.size < w1.heap.size := by omega
  have g1' : w.heap.size + 1 < w1.heap.size := by omega
  obtain ⟨hc1, hf1⟩ := bcell hb1
  go_wp2_with fail
  refine (rright_any k n s _).mono ?_
  rintro e w2 ⟨rfl, hb2⟩
  rw [HX.out]
  have z2 := hb2.size
  have g2 : w.heap.size < w2.heap.size := by omega
  have g2' : w.heap.size + 1 < w2.heap.size := by omega
  obtain ⟨hc2, hf2⟩ := bcell hb2
  go_wp2_with fail
  refine (rright_any k' n' s' _).mono ?_
  rintro e w3 ⟨rfl, hb3⟩
  rw [HY.out]
  have z3 := hb3.size
  have g3 : w.heap.size < w3.heap.size := by omega
  have g3' : w.heap.size + 1 < w3.heap.size := by omega
  obtain ⟨hc3, hf3⟩ := bcell hb3
  have HS3 : Hid (SV w3) := ((((HSV.out.alloc _).alloc _).later hb1).later hb2).later hb3
  go_wp2_with fail
  refine (print_any (k, n, s) _ HS3.out).mono ?_
  rintro e w4 ⟨rfl, hb4⟩
  obtain ⟨S, p, e1, hp⟩ := HA.out
  rw [e1]
  clear e1
  have z4 := hb4.size
  have g4 : w.heap.size < w4.heap.size := by omega
  have g4' : w.heap.size + 1 < w4.heap.size := by omega
  obtain ⟨hc4, hf4⟩ := bcell hb4
  have HS4 : Hid (SV w4) := HS3.out.later hb4
  go_wp2_with fail
  refine (print_any (k', n', s') _ HS4.out).mono ?_
  rintro e w5 ⟨rfl, hb5⟩
  obtain ⟨T, q, e2, hq⟩ := HB.out
  rw [e2]
  clear e2
  have z5 := hb5.size
  have g5 : w.heap.size < w5.heap.size := by omega
  have g5' : w.heap.size + 1 < w5.heap.size := by omega
  rcases hxy with rfl | ⟨rfl, rfl⟩
  · cases y
    all_goals
      go_wp2
      go_ret
      exact ⟨rfl, by (repeat (first | exact Below.refl _ _ | assumption | refine Below.drew ?_ | refine below_drewN ?_ _ | refine Below.alloc ?_ (by first | omega | (simp; done) | (simp; omega)) _ | refine Below.setCell ?_ (by first | omega | (simp; done) | (simp; omega)) _ | refine Below.trans ?_ (Below.mono (by assumption) (by first | omega | (simp; done) | (simp; omega)))))⟩
  · go_wp2
    go_ret
    exact ⟨rfl, by (repeat (first | exact Below.refl _ _ | assumption | refine Below.drew ?_ | refine below_drewN ?_ _ | refine Below.alloc ?_ (by first | omega | (simp; done) | (simp; omega)) _ | refine Below.setCell ?_ (by first | omega | (simp; done) | (simp; omega)) _ | refine Below.trans ?_ (Below.mono (by assumption) (by first | omega | (simp; done) | (simp; omega)))))⟩

set_option maxHeartbeats 4000000 in
set_option maxRecDepth 100000 in
theorem back_yes (k n : Int) (s : ByteArray) (k' n' : Int) (s' : ByteArray) (w : World) (hv : SV w) (hx : rgt k n s = true) (hy : rgt k' n' s' = true) (S T : ByteArray)
    (p1 : prV (k, n, s) = .tuple #[.string S, .int .i64 0]) (p2 : prV (k', n', s') = .tuple #[.string T, .int .i64 0])
    (q1 : paV S = .tuple #[.agg #[.int .i64 k, .int .i64 n, .string s], .int .i64 0]) (q2 : paV T = .tuple #[.agg #[.int .i64 k', .int .i64 n', .string s'], .int .i64 0])
    (hS : S.size ≤ 2147483648) (hT : T.size ≤ 2147483648)
    (hst : ((k == k') = true ∧ (n == n') = true ∧ (s.toList == s'.toList) = true ∧ (S.toList == T.toList) = true) ∨ ((S.toList == T.toList) = false ∧ ((k == k') = false ∨ ((k == k') = true ∧ (n == n') = false) ∨ ((k == k') = true ∧ (n == n') = true ∧ (s.toList == s'.toList) = false)))) :
    Calls Tryd.prog 4 #[.agg #[.int .i64 k, .int .i64 n, .string s], .agg #[.int .i64 k', .int .i64 n', .string s']] w fun e w' => e = .returned (.bool true) ∧ Below w.heap.size w w' := by
  have HSV : Hid (SV w) := hv
  have HX : Hid (rgt k n s = true) := hx
  have HY : Hid (rgt k' n' s' = true) := hy
  have HP1 : Hid (prV (k, n, s) = .tuple #[.string S, .int .i64 0]) := p1
  have HP2 : Hid (prV (k', n', s') = .tuple #[.string T, .int .i64 0]) := p2
  have HQ1 : Hid (paV S = .tuple #[.agg #[.int .i64 k, .int .i64 n, .string s], .int .i64 0]) := q1
  have HQ2 : Hid (paV T = .tuple #[.agg #[.int .i64 k', .int .i64 n', .string s'], .int .i64 0]) := q2
  have HC : Hid (((k == k') = true ∧ (n == n') = true ∧ (s.toList == s'.toList) = true ∧ (S.toList == T.toList) = true) ∨ ((S.toList == T.toList) = false ∧ ((k == k') = false ∨ ((k == k') = true ∧ (n == n') = false) ∨ ((k == k') = true ∧ (n == n') = true ∧ (s.toList == s'.toList) = false)))) := hst
  clear hv hx hy p1 p2 q1 q2 hst
  go_enter Tryd.func4, Tryd.ntmps4
  go_wp2_with fail
  refine (awake_any _).mono ?_
  rintro e w1 ⟨rfl, hb1⟩
  have z1 := hb1.size
  simp at z1
  have g1 : w.heap.size < w1.heap.size := by omega
  have g1' : w.heap.size + 1 < w1.heap.size := by omega
  obtain ⟨hc1, hf1⟩ := bcell hb1
  go_wp2_with fail
  refine (rright_any k n s _).mono ?_
  rintro e w2 ⟨rfl, hb2⟩
  rw [HX.out]
  have z2 := hb2.size
  have g2 : w.heap.size < w2.heap.size := by omega
  have g2' : w.heap.size + 1 < w2.heap.size := by omega
  obtain ⟨hc2, hf2⟩ := bcell hb2
  go_wp2_with fail
  refine (rright_any k' n' s' _).mono ?_
  rintro e w3 ⟨rfl, hb3⟩
  rw [HY.out]
  have z3 := hb3.size
  have g3 : w.heap.size < w3.heap.size := by omega
  have g3' : w.heap.size + 1 < w3.heap.size := by omega
  obtain ⟨hc3, hf3⟩ := bcell hb3
  have HS3 : Hid (SV w3) := ((((HSV.out.alloc _).alloc _).later hb1).later hb2).later hb3
  go_wp2_with fail
  refine (print_any (k, n, s) _ HS3.out).mono ?_
  rintro e w4 ⟨rfl, hb4⟩
  rw [HP1.out]
  have z4 := hb4.size
  have g4 : w.heap.size < w4.heap.size := by omega
  have g4' : w.heap.size + 1 < w4.heap.size := by omega
  obtain ⟨hc4, hf4⟩ := bcell hb4
  have HS4 : Hid (SV w4) := HS3.out.later hb4
  go_wp2_with fail
  refine (print_any (k', n', s') _ HS4.out).mono ?_
  rintro e w5 ⟨rfl, hb5⟩
  rw [HP2.out]
  have z5 := hb5.size
  have g5 : w.heap.size < w5.heap.size := by omega
  have g5' : w.heap.size + 1 < w5.heap.size := by omega
  obtain ⟨hc5, hf5⟩ := bcell hb5
  have HS5 : Hid (SV w5) := HS4.out.later hb5
  go_wp2_with fail
  refine (parse_any S _ hS HS5.out).mono ?_
  rintro e w6 ⟨rfl, hb6⟩
  rw [HQ1.out]
  have z6 := hb6.size
  have g6 : w.heap.size < w6.heap.size := by omega
  have g6' : w.heap.size + 1 < w6.heap.size := by omega
  have j6 : w.heap.size < w6.heap.size + 1 := by omega
  have j6' : w.heap.size + 1 < w6.heap.size + 1 := by omega
  obtain ⟨hc6, hf6⟩ := bcell hb6
  have HS6 : Hid (SV w6) := HS5.out.later hb6
  go_wp2_with fail
  refine (parse_any T _ hT (HS6.out.alloc _)).mono ?_
  rintro e w7 ⟨rfl, hb7⟩
  rw [HQ2.out]
  have z7 := hb7.size
  simp at z7
  have g7 : w.heap.size < w7.heap.size := by omega
  have g7' : w.heap.size + 1 < w7.heap.size := by omega
  have g7'' : w6.heap.size < w7.heap.size := by omega
  have j7 : w.heap.size < w7.heap.size + 1 := by omega
  have j7' : w.heap.size + 1 < w7.heap.size + 1 := by omega
  have j7'' : w6.heap.size < w7.heap.size + 1 := by omega
  obtain ⟨hc7, hf7⟩ := bcell hb7
  have d1 : (k == k) = true := by simp
  have d2 : (n == n) = true := by simp
  have d3 : (s.toList == s.toList) = true := by simp
  have d4 : (k' == k') = true := by simp
  have d5 : (n' == n') = true := by simp
  have d6 : (s'.toList == s'.toList) = true := by simp
  rcases HC.out with ⟨a1, a2, a3, a4⟩ | ⟨a4, a1 | ⟨a1, a2⟩ | ⟨a1, a2, a3⟩⟩
  all_goals
    go_wp2
    go_ret
    exact ⟨rfl, by (repeat (first | exact Below.refl _ _ | assumption | refine Below.drew ?_ | refine below_drewN ?_ _ | refine Below.alloc ?_ (by first | omega | (simp; done) | (simp; omega)) _ | refine Below.setCell ?_ (by first | omega | (simp; done) | (simp; omega)) _ | refine Below.trans ?_ (Below.mono (by assumption) (by first | omega | (simp; done) | (simp; omega)))))⟩

theorem back_any (k n : Int) (s : ByteArray) (k' n' : Int) (s' : ByteArray) (w : World) (hv : SV w) :
    Calls Tryd.prog 4 #[.agg #[.int .i64 k, .int .i64 n, .string s], .agg #[.int .i64 k', .int .i64 n', .string s']] w fun e w' => e = .returned (.bool true) ∧ Below w.heap.size w w' := by
  cases hx : rgt k n s with
  | false => exact back_no k n s k' n' s' w hv false _ hx rfl (Or.inl rfl)
  | true =>
    cases hy : rgt k' n' s' with
    | false => exact back_no k n s k' n' s' w hv true false hx hy (Or.inr ⟨rfl, rfl⟩)
    | true =>
      obtain ⟨S, l1, p1, q1, b1⟩ := there (v := (k, n, s)) hx
      obtain ⟨T, l2, p2, q2, b2⟩ := there (v := (k', n', s')) hy
      refine back_yes k n s k' n' s' w hv hx hy S T p1 p2 q1 q2 b1 b2 ?_
      by_cases e : ((k, n, s) : V3) = (k', n', s')
      · injection e with e1 e
        injection e with e2 e3
        subst e1 e2 e3
        have : S = T := bytes_eq (l1.2.symm.trans l2.2)
        subst this
        simp
      · refine Or.inr ⟨?_, v3_ne e⟩
        rw [beq_eq_false_iff_ne, ByteArray.toList_eq, ByteArray.toList_eq]
        intro g
        rw [g] at l1
        exact e (lit_unique l1 l2)
end Go.Proofs.YtenpggdmmgokpaaDoor
