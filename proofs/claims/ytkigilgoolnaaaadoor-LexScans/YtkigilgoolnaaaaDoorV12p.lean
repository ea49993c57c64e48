/- Walks of layer 1: the document's Parse. -/
import Derived.Test.YtkigilgoolnaaaaDoorV6
import Derived.Test.YtkigilgoolnaaaaDoorV11
namespace Go.Proofs.YtkigilgoolnaaaaDoor
open Go.RowKit

theorem said_any (s : ByteArray) (w : World) (hs : s.size ≤ 2147483648) : Calls Tryd.prog 48 #[.string s] w (SaidP s w) := by
  by_cases n1 : s.data.toList = [78, 85, 76, 76]
  · exact said_words s w (Or.inl (bytes_eq (by simpa using n1)))
  by_cases n2 : s.data.toList = [84, 82, 85, 69]
  · exact said_words s w (Or.inr (Or.inl (bytes_eq (by simpa using n2))))
  by_cases n3 : s.data.toList = [70, 65, 76, 83, 69]
  · exact said_words s w (Or.inr (Or.inr (Or.inl (bytes_eq (by simpa using n3)))))
  by_cases n4 : s.data.toList = []
  · exact said_words s w (Or.inr (Or.inr (Or.inr (bytes_eq (by simpa using n4)))))
  have h0 : 0 < s.size := by
    rcases Nat.eq_zero_or_pos s.size with h | h
    · exact absurd (List.eq_nil_of_length_eq_zero (by simpa using h)) n4
    · exact h
  by_cases c0 : s[0].toNat = 39
  · exact said_text s w hs (beq_no n1) (beq_no n2) (beq_no n3) (beq_no n4) h0 c0
  · by_cases hl : ∃ u, LitOf s.data.toList u
    · obtain ⟨⟨k, n, t⟩, hu⟩ := hl
      have n5 : k ≠ 3 := by
        intro k3
        obtain ⟨a, _, b⟩ := lit_body (u := (k, n, t)) k3 hu.2
        exact c0 (b a).1
      obtain ⟨a, b, _⟩ := lit_other hu.1 hu.2 n1 n2 n3 n5
      simp only at a b
      subst a b
      exact said_num s w n (beq_no n1) (beq_no n2) (beq_no n3) (beq_no n4) h0 c0 hu
    · exact said_none s w hs (beq_no n1) (beq_no n2) (beq_no n3) (beq_no n4) h0 c0 fun u hu => hl ⟨u, hu⟩

set_option maxHeartbeats 2000000 in
set_option maxRecDepth 100000 in
theorem rparse_any (s : ByteArray) (w : World) (hs : s.size ≤ 2147483648) :
    Calls Tryd.prog 38 #[.string s] w fun e w' => e = .returned (paV s) ∧ Below w.heap.size w w' := by
  go_enter Tryd.func38, Tryd.ntmps38
  go_wp2_with fail
  refine (said_any s _ hs).mono ?_
  rintro e w1 ⟨⟨k, n, t⟩, rfl, hx, hb1⟩
  have hz1 := hb1.size
  simp at hz1
  have hz0 : w.heap.size < w1.heap.size := by omega
  have hz0' : w.heap.size < w1.heap.size + 1 := by omega
  obtain ⟨hc1, hf1⟩ := bcell hb1
  have HX : Hid (∀ u, LitOf s.data.toList u → (k, n, t) = u) := hx
  clear hx
  go_wp2_with fail
  refine (rprint_any (k, n, t) _).mono ?_
  rintro e w2 ⟨rfl, hb2⟩
  have hz2 := hb2.size
  simp at hz2
  have hz3 : w.heap.size < w2.heap.size := by omega
  have hz4 : w1.heap.size < w2.heap.size := by omega
  obtain ⟨hc2, hf2⟩ := bcell hb2
  have c0 : w2.cell? ⟨w1.heap.size, 0, none⟩ = some (.int .i64 k) := cell_later hb2 (by simp)
  have c1 : w2.cell? ⟨w1.heap.size, 1, none⟩ = some (.int .i64 n) := cell_later hb2 (by simp)
  have c2 : w2.cell? ⟨w1.heap.size, 2, none⟩ = some (.string t) := cell_later hb2 (by simp)
  by_cases hr : (prR (k, n, t)).2 = 0 ∧ (prR (k, n, t)).1 = s.data.toList
  · have hl := prR_lit hr.1 hr.2
    have HP : Hid (paV s = .tuple #[.agg #[.int .i64 k, .int .i64 n, .string t], .int .i64 0]) := paV_ok hl
    have hpv : prV (k, n, t) = .tuple #[.string s, .int .i64 0] := by
      unfold prV
      rw [hr.1, hr.2]
    have hss : (s.toList == s.toList) = true := by simp
    rw [hpv]
    clear hr hl hpv
    go_wp2
    exact bodyPost_ret (v := .tuple #[.agg #[.int .i64 k, .int .i64 n, .string t], .int .i64 0]) (by simp [results, Tryd.results38, go_sem, *]) rfl ⟨by rw [HP.out], by (repeat (first | exact Below.refl _ _ | assumption | refine Below.drew ?_ | refine below_drewN ?_ _ | refine Below.alloc ?_ (by first | omega | (simp; done) | (simp; omega)) _ | refine Below.setCell ?_ (by first | omega | (simp; done) | (simp; omega)) _ | refine Below.trans ?_ (Below.mono (by assumption) (by first | omega | (simp; done) | (simp; omega)))))⟩
  · have HP : Hid (paV s = .tuple #[.agg #[.int .i64 0, .int .i64 0, .string ⟨#[]⟩], .int .i64 10]) := paV_no fun v g => by
      have e := HX.out v g
      subst e
      exact hr (by rw [prR_ok g.1]; exact ⟨rfl, g.2⟩)
    obtain ⟨p, hp⟩ : ∃ p : ByteArray, (⟨(prR (k, n, t)).1.toArray⟩ : ByteArray) = p := ⟨_, rfl⟩
    obtain ⟨z, hzz⟩ : ∃ z, (prR (k, n, t)).2 = z := ⟨_, rfl⟩
    have hpv : prV (k, n, t) = .tuple #[.string p, .int .i64 z] := by unfold prV; rw [hp, hzz]
    have hcase : (z != 0) = true ∨ ((z != 0) = false ∧ (p.toList == s.toList) = false) := by
      by_cases q : z = 0
      · refine Or.inr ⟨by simp [q], ?_⟩
        rw [beq_eq_false_iff_ne, ByteArray.toList_eq, ByteArray.toList_eq]
        intro e
        refine hr ⟨hzz.trans q, ?_⟩
        rw [← e, ← hp]
      · exact Or.inl (by simpa using q)
    rw [hpv]
    clear hr hpv hp hzz
    rcases hcase with q | ⟨q, q'⟩
    all_goals
      go_wp2
      exact bodyPost_ret (v := .tuple #[.agg #[.int .i64 0, .int .i64 0, .string ⟨#[]⟩], .int .i64 10]) (by simp [results, Tryd.results38, go_sem, *]) rfl ⟨by rw [HP.out], by (repeat (first | exact Below.refl _ _ | assumption | refine Below.drew ?_ | refine below_drewN ?_ _ | refine Below.alloc ?_ (by first | omega | (simp; done) | (simp; omega)) _ | refine Below.setCell ?_ (by first | omega | (simp; done) | (simp; omega)) _ | refine Below.trans ?_ (Below.mono (by assumption) (by first | omega | (simp; done) | (simp; omega)))))⟩
end Go.Proofs.YtkigilgoolnaaaaDoor
