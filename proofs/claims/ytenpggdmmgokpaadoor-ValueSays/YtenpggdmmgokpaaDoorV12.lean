/- Walks of layer 1: the document's Parse; the law ValueSays. -/
import Derived.Test.YtenpggdmmgokpaaDoorV6
import Derived.Test.YtenpggdmmgokpaaDoorV11
import Derived.Test.YtenpggdmmgokpaaDoorW14
namespace Go.Proofs.YtenpggdmmgokpaaDoor
open Go.RowKit

theorem said_any (s : ByteArray) (w : World) (hs : s.size ≤ 2147483648) : Calls Tryd.prog 24 #[.string s] w (SaidP s w) := by
  by_cases n1 : s.data.toList = [78, 85, 76, 76]
  · exact said_words s w (Or.inl (bytes_eq (by simpa using n1)))
  by_cases n2 : s.data.toList = [84, 82, 85, 69]
  · exact said_words s w (Or.inr (Or.inl (bytes_eq (by simpa using n2))))
  by_cases n3 : s.data.toList = [70, 65, 76, 83, 69]
  · exact said_words s w (Or.inr (Or.inr (Or.inl (bytes_eq (by simpa using n3)))))
  by_cases n4 : s.data.toList = []
  · exact said_words s w (Or.inr (Or.inr (Or.inr (bytes_eq (by simpa using n4)))))
  have h0 : 0 < s.size := by
    rcases Nat.eq_zero_or_pos s.size with h | h
    · exact absurd (List.eq_nil_of_length_eq_zero (by simpa using h)) n4
    · exact h
  by_cases c0 : s[0].toNat = 39
  · exact said_text s w hs (beq_no n1) (beq_no n2) (beq_no n3) (beq_no n4) h0 c0
  · by_cases hl : ∃ u, LitOf s.data.toList u
    · obtain ⟨⟨k, n, t⟩, hu⟩ := hl
      have n5 : k ≠ 3 := by
        intro k3
        obtain ⟨a, _, b⟩ := lit_body (u := (k, n, t)) k3 hu.2
        exact c0 (b a).1
      obtain ⟨a, b, _⟩ := lit_other hu.1 hu.2 n1 n2 n3 n5
      simp only at a b
      subst a b
      exact said_num s w n (beq_no n1) (beq_no n2) (beq_no n3) (beq_no n4) h0 c0 hu
    · exact said_none s w hs (beq_no n1) (beq_no n2) (beq_no n3) (beq_no n4) h0 c0 fun u hu => hl ⟨u, hu⟩

set_option maxHeartbeats 2000000 in
set_option maxRecDepth 100000 in
theorem rparse_any (s : ByteArray) (w : World) (hs : s.size ≤ 2147483648) :
    Calls Tryd.prog 9 #[.string s] w fun e w' => e = .returned (paV s) ∧ Below w.heap.size w w' := by
  go_enter Tryd.func9, Tryd.ntmps9
  go_wp2_with fail
  refine (said_any s _ hs).mono ?_
  rintro e w1 ⟨⟨k, n, t⟩, rfl, hx, hb1⟩
  have hz1 := hb1.size
  simp at hz1
  have hz0 : w.heap.size < w1.heap.size := by omega
  have hz0' : w.heap.size < w1.heap.size + 1 := by omega
  obtain ⟨hc1, hf1⟩ := bcell hb1
  have HX : Hid (∀ u, LitOf s.data.toList u → (k, n, t) = u) := hx
  clear hx
  go_wp2_with fail
  refine (rprint_any (k, n, t) _).mono ?_
  rintro e w2 ⟨rfl, hb2⟩
  have hz2 := hb2.size
  simp at hz2
  have hz3 : w.heap.size < w2.heap.size := by omega
  have hz4 : w1.heap.size < w2.heap.size := by omega
  obtain ⟨hc2, hf2⟩ := bcell hb2
  have c0 : w2.cell? ⟨w1.heap.size, 0, none⟩ = some (.int .i64 k) := cell_later hb2 (by simp)
  have c1 : w2.cell? ⟨w1.heap.size, 1, none⟩ = some (.int .i64 n) := cell_later hb2 (by simp)
  have c2 : w2.cell? ⟨w1.heap.size, 2, none⟩ = some (.string t) := cell_later hb2 (by simp)
  by_cases hr : (prR (k, n, t)).2 = 0 ∧ (prR (k, n, t)).1 = s.data.toList
  · have hl := prR_lit hr.1 hr.2
    have HP : Hid (paV s = .tuple #[.agg #[.int .i64 k, .int .i64 n, .string t], .int .i64 0]) := paV_ok hl
    have hpv : prV (k, n, t) = .tuple #[.string s, .int .i64 0] := by
      unfold prV
      rw [hr.1, hr.2]
    have hss : (s.toList == s.toList) = true := by simp
    rw [hpv]
    clear hr hl hpv
    go_wp2
    exact bodyPost_ret (v := .tuple #[.agg #[.int .i64 k, .int .i64 n, .string t], .int .i64 0]) (by simp [results, Tryd.results9, go_sem, *]) rfl ⟨by rw [HP.out], by (repeat (first | exact Below.refl _ _ | assumption | refine Below.drew ?_ | refine below_drewN ?_ _ | refine Below.alloc ?_ (by first | omega | (simp; done) | (simp; omega)) _ | refine Below.setCell ?_ (by first | omega | (simp; done) | (simp; omega)) _ | refine Below.trans ?_ (Below.mono (by assumption) (by first | omega | (simp; done) | (simp; omega)))))⟩
  · have HP : Hid (paV s = .tuple #[.agg #[.int .i64 0, .int .i64 0, .string ⟨#[]⟩], .int .i64 10]) := paV_no fun v g => by
      have e := HX.out v g
      subst e
      exact hr (by rw [prR_ok g.1]; exact ⟨rfl, g.2⟩)
    obtain ⟨p, hp⟩ : ∃ p : ByteArray, (⟨(prR (k, n, t)).1.toArray⟩ : ByteArray) = p := ⟨_, rfl⟩
    obtain ⟨z, hzz⟩ : ∃ z, (prR (k, n, t)).2 = z := ⟨_, rfl⟩
    have hpv : prV (k, n, t) = .tuple #[.string p, .int .i64 z] := by unfold prV; rw [hp, hzz]
    have hcase : (z != 0) = true ∨ ((z != 0) = false ∧ (p.toList == s.toList) = false) := by
      by_cases q : z = 0
      · refine Or.inr ⟨by simp [q], ?_⟩
        rw [beq_eq_false_iff_ne, ByteArray.toList_eq, ByteArray.toList_eq]
        intro e
        refine hr ⟨hzz.trans q, ?_⟩
        rw [← e, ← hp]
      · exact Or.inl (by simpa using q)
    rw [hpv]
    clear hr hpv hp hzz
    rcases hcase with q | ⟨q, q'⟩
    all_goals
      go_wp2
      exact bodyPost_ret (v := .tuple #[.agg #[.int .i64 0, .int .i64 0, .string ⟨#[]⟩], .int .i64 10]) (by simp [results, Tryd.results9, go_sem, *]) rfl ⟨by rw [HP.out], by (repeat (first | exact Below.refl _ _ | assumption | refine Below.drew ?_ | refine below_drewN ?_ _ | refine Below.alloc ?_ (by first | omega | (simp; done) | (simp; omega)) _ | refine Below.setCell ?_ (by first | omega | (simp; done) | (simp; omega)) _ | refine Below.trans ?_ (Below.mono (by assumption) (by first | omega | (simp; done) | (simp; omega)))))⟩

theorem paV_is (s : ByteArray) : ∃ (k n : Int) (t : ByteArray) (e : Int), paV s = .tuple #[.agg #[.int .i64 k, .int .i64 n, .string t], .int .i64 e] := ⟨_, _, _, _, rfl⟩
theorem prV_is (v : V3) : ∃ (t : ByteArray) (e : Int), prV v = .tuple #[.string t, .int .i64 e] := ⟨_, _, rfl⟩

set_option maxHeartbeats 4000000 in
set_option maxRecDepth 100000 in
theorem says_any (k n : Int) (t s : ByteArray) (w : World) (hv : SV w) :
    Calls Tryd.prog 3 #[.agg #[.int .i64 k, .int .i64 n, .string t], .string s] w fun e w' => e = .returned (.bool true) ∧ Below w.heap.size w w' := by
  have HSV : Hid (SV w) := hv
  clear hv
  by_cases hs : s.size ≤ 2147483647
  · have h0 : ¬ 2147483647 < (s.size : Int) := by omega
    obtain ⟨S, p, hp⟩ := prV_is (k, n, t)
    obtain ⟨k', n', t', q, hq⟩ := paV_is s
    have HP : Hid (prV (k, n, t) = .tuple #[.string S, .int .i64 p]) := hp
    have HQ : Hid (paV s = .tuple #[.agg #[.int .i64 k', .int .i64 n', .string t'], .int .i64 q]) := hq
    clear hp hq
    go_enter Tryd.func3, Tryd.ntmps3
    go_wp2_with fail
    refine (awake_any _).mono ?_
    rintro e w1 ⟨rfl, hb1⟩
    have z1 := hb1.size
    simp at z1
    have g1 : w.heap.size < w1.heap.size := by omega
    obtain ⟨hc1, hf1⟩ := bcell hb1
    have HS1 : Hid (SV w1) := (HSV.out.alloc _).later hb1
    go_wp2_with fail
    refine (print_any (k, n, t) _ HS1.out).mono ?_
    rintro e w2 ⟨rfl, hb2⟩
    rw [HP.out]
    have z2 := hb2.size
    have g2 : w.heap.size < w2.heap.size := by omega
    obtain ⟨hc2, hf2⟩ := bcell hb2
    have HS2 : Hid (SV w2) := HS1.out.later hb2
    go_wp2_with fail
    refine (rprint_any (k, n, t) _).mono ?_
    rintro e w3 ⟨rfl, hb3⟩
    rw [HP.out]
    have z3 := hb3.size
    have g3 : w.heap.size < w3.heap.size := by omega
    have HS3 : Hid (SV w3) := HS2.out.later hb3
    go_wp2_with fail
    refine (parse_any s _ (by omega) HS3.out).mono ?_
    rintro e w4 ⟨rfl, hb4⟩
    rw [HQ.out]
    have z4 := hb4.size
    go_wp2_with fail
    refine (rparse_any s _ (by omega)).mono ?_
    rintro e w5 ⟨rfl, hb5⟩
    rw [HQ.out]
    have z5 := hb5.size
    simp at z5
    have g5 : w4.heap.size < w5.heap.size := by omega
    have j5 : w4.heap.size < w5.heap.size + 1 := by omega
    obtain ⟨hc5, hf5⟩ := bcell hb5
    have d1 : (k' == k') = true := by simp
    have d2 : (n' == n') = true := by simp
    have d3 : (t'.toList == t'.toList) = true := by simp
    have d4 : (S.toList == S.toList) = true := by simp
    have d5 : (p == p) = true := by simp
    have d6 : (q == q) = true := by simp
    go_wp2
    go_ret
    exact ⟨rfl, by (repeat (first | exact Below.refl _ _ | assumption | refine Below.drew ?_ | refine below_drewN ?_ _ | refine Below.alloc ?_ (by first | omega | (simp; done) | (simp; omega)) _ | refine Below.setCell ?_ (by first | omega | (simp; done) | (simp; omega)) _ | refine Below.trans ?_ (Below.mono (by assumption) (by first | omega | (simp; done) | (simp; omega)))))⟩
  · have h0 : 2147483647 < (s.size : Int) := by omega
    go_enter Tryd.func3, Tryd.ntmps3
    go_wp2
    go_ret
    exact ⟨rfl, by (repeat (first | exact Below.refl _ _ | assumption | refine Below.drew ?_ | refine below_drewN ?_ _ | refine Below.alloc ?_ (by first | omega | (simp; done) | (simp; omega)) _ | refine Below.setCell ?_ (by first | omega | (simp; done) | (simp; omega)) _ | refine Below.trans ?_ (Below.mono (by assumption) (by first | omega | (simp; done) | (simp; omega)))))⟩
end Go.Proofs.YtenpggdmmgokpaaDoor
