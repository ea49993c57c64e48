/- Walks of layer 1: read, of what is no text; Parse. -/
import Derived.Test.YtlooelldkbdomaaGreatDoorV5
namespace Go.Proofs.YtlooelldkbdomaaGreatDoor
open Go.RowKit

theorem atoi_any (s : ByteArray) (w : World) (hs : s.size ≤ 2147483648) (h : SV w) :
    Calls Tryz.prog 167 #[.string s] w fun e w' => ((∃ n, Lib.atoiAll s.data.toList = .ok n ∧ e = .returned (.tuple #[.int .i64 n, .nilIface])) ∨ (∃ n N, (∀ m, Lib.atoiAll s.data.toList ≠ .ok m) ∧ e = .returned (.tuple #[.int .i64 n, .iface 168 (.pointer (some ⟨N, 0, none⟩))]))) ∧ Below w.heap.size w w' := by
  obtain ⟨_, ⟨tp, p, hx⟩, ⟨tq, q, hy⟩⟩ := h
  cases e : Lib.atoiAll s.data.toList with
  | ok n =>
    refine (Tryz.strconv_Atoi_ok s (by omega) n e w).mono ?_
    rintro e' w' ⟨rfl, hw⟩
    refine ⟨Or.inl ⟨n, rfl, rfl⟩, ?_⟩
    rcases hw with rfl | ⟨t, rfl⟩
    · exact Below.refl _ _
    · exact Lib.bytesWorld_below _ _ _
  | «syntax» =>
    refine (Tryz.strconv_Atoi_syntax_var s (by omega) e tp p w hx).mono ?_
    rintro e' w' ⟨N, rfl, _, _, hb⟩
    exact ⟨Or.inr ⟨_, N, fun m g => (by cases g), rfl⟩, hb⟩
  | range =>
    refine (Tryz.strconv_Atoi_range_var s (by omega) e tq q w hy).mono ?_
    rintro e' w' ⟨N, rfl, _, _, hb⟩
    exact ⟨Or.inr ⟨_, N, fun m g => (by cases g), rfl⟩, hb⟩

set_option maxHeartbeats 2000000 in
set_option maxRecDepth 100000 in
theorem read_num (s : ByteArray) (w : World) (hs : s.size ≤ 2147483648) (hv : SV w) (n1 : (s.toList == [78, 85, 76, 76]) = false) (n2 : (s.toList == [84, 82, 85, 69]) = false) (n3 : (s.toList == [70, 65, 76, 83, 69]) = false)
    (h : ¬ (2 ≤ s.size ∧ ∀ g : 2 ≤ s.size, s[0].toNat = 39 ∧ s[s.size - 1].toNat = 39)) : Calls Tryz.prog 147 #[.string s] w (ReadP s w) := by
  have HU : Hid (∀ w, Calls Tryz.prog 164 #[.string s] w fun e w' => e = .returned (.tuple #[.string ⟨#[]⟩, .bool false]) ∧ w' = w) := fun w => unm_no s w hs h
  have HL : Hid (∀ u, LitOf s.data.toList u → u.1 = 1 ∧ u.2.2 = ⟨#[]⟩ ∧ Lib.atoiAll s.data.toList = .ok u.2.1) := fun u hu => by
    refine lit_other hu.1 hu.2 ?_ ?_ ?_ ?_
    · rw [beq_eq_false_iff_ne, ByteArray.toList_eq] at n1; exact n1
    · rw [beq_eq_false_iff_ne, ByteArray.toList_eq] at n2; exact n2
    · rw [beq_eq_false_iff_ne, ByteArray.toList_eq] at n3; exact n3
    · intro k
      obtain ⟨a, _, b⟩ := lit_body k hu.2
      exact h ⟨a, b⟩
  have HSV : Hid (SV w) := hv
  clear h hv
  go_enter Tryz.func147, Tryz.ntmps147
  go_wp2_with (first | (go_at_call 164; refine (HU.out _).mono ?_; rintro e w' ⟨rfl, hw'⟩; rw [hw']; clear hw'))
  refine (atoi_any s _ hs (HSV.out.alloc _)).mono ?_
  rintro e w' ⟨he, hb⟩
  obtain ⟨hc, hf⟩ := bcell hb
  have hz := hb.size
  simp at hz
  have hz0 : w.heap.size < w'.heap.size := by omega
  rcases he with ⟨n, ha, rfl⟩ | ⟨n, N, ha, rfl⟩
  · have HA : Hid (Lib.atoiAll s.data.toList = .ok n) := ha
    clear ha
    go_wp2_with fail
    go_region_with (first | (go_at_call 168; refine (vnum_exact _ _).mono ?_; rintro e w2 ⟨rfl, rfl⟩))
    all_goals
      go_wp2
      exact bodyPost_ret (v := .tuple #[.agg #[.int .i64 1, .int .i64 n, .string ⟨#[]⟩], .bool true]) (by simp [results, Tryz.results147, go_sem, *]) rfl ⟨(1, n, ⟨#[]⟩), true, rfl, fun u hu => by
        obtain ⟨a, b, c⟩ := HL.out u hu
        rw [HA.out] at c
        injection c with c
        exact ⟨rfl, v3_eq a.symm c b.symm⟩, by (repeat (first | exact Below.refl _ _ | assumption | refine Below.drew ?_ | refine below_drewN ?_ _ | refine Below.alloc ?_ (by first | omega | (simp; done) | (simp; omega)) _ | refine Below.setCell ?_ (by first | omega | (simp; done) | (simp; omega)) _ | refine Below.trans ?_ (Below.mono (by assumption) (by first | omega | (simp; done) | (simp; omega)))))⟩
  · have HA : Hid (∀ m, Lib.atoiAll s.data.toList ≠ .ok m) := ha
    clear ha
    go_wp2_with fail
    go_region_with (first | (go_at_call 168; refine (vnum_exact _ _).mono ?_; rintro e w2 ⟨rfl, rfl⟩))
    all_goals
      go_wp2
      exact bodyPost_ret (v := .tuple #[.agg #[.int .i64 1, .int .i64 n, .string ⟨#[]⟩], .bool false]) (by simp [results, Tryz.results147, go_sem, *]) rfl ⟨(1, n, ⟨#[]⟩), false, rfl, fun u hu => absurd (HL.out u hu).2.2 (HA.out _), by (repeat (first | exact Below.refl _ _ | assumption | refine Below.drew ?_ | refine below_drewN ?_ _ | refine Below.alloc ?_ (by first | omega | (simp; done) | (simp; omega)) _ | refine Below.setCell ?_ (by first | omega | (simp; done) | (simp; omega)) _ | refine Below.trans ?_ (Below.mono (by assumption) (by first | omega | (simp; done) | (simp; omega)))))⟩

theorem read_any (s : ByteArray) (w : World) (hs : s.size ≤ 2147483648) (hv : SV w) : Calls Tryz.prog 147 #[.string s] w (ReadP s w) := by
  by_cases n1 : s.data.toList = [78, 85, 76, 76]
  · exact read_words s w (Or.inl (bytes_eq (by simpa using n1)))
  by_cases n2 : s.data.toList = [84, 82, 85, 69]
  · exact read_words s w (Or.inr (Or.inl (bytes_eq (by simpa using n2))))
  by_cases n3 : s.data.toList = [70, 65, 76, 83, 69]
  · exact read_words s w (Or.inr (Or.inr (bytes_eq (by simpa using n3))))
  by_cases h : 2 ≤ s.size ∧ ∀ g : 2 ≤ s.size, s[0].toNat = 39 ∧ s[s.size - 1].toNat = 39
  · exact read_text s w hs (beq_no n1) (beq_no n2) (beq_no n3) h.1 (h.2 h.1).1 (h.2 h.1).2
  · exact read_num s w hs hv (beq_no n1) (beq_no n2) (beq_no n3) h

/-- What Parse answers. -/
noncomputable def paV (s : ByteArray) : Value := .tuple #[.agg #[.int .i64 (parR s.data.toList).1.1, .int .i64 (parR s.data.toList).1.2.1, .string (parR s.data.toList).1.2.2], .int .i64 (parR s.data.toList).2]
theorem paV_ok {s : ByteArray} {v : V3} (h : LitOf s.data.toList v) : paV s = .tuple #[.agg #[.int .i64 v.1, .int .i64 v.2.1, .string v.2.2], .int .i64 0] := by unfold paV; rw [parR_ok h]
theorem paV_no {s : ByteArray} (h : ∀ v, ¬ LitOf s.data.toList v) : paV s = .tuple #[.agg #[.int .i64 0, .int .i64 0, .string ⟨#[]⟩], .int .i64 10] := by unfold paV; rw [parR_no h]

set_option maxHeartbeats 2000000 in
set_option maxRecDepth 100000 in
theorem parse_any (s : ByteArray) (w : World) (hs : s.size ≤ 2147483648) (hv : SV w) :
    Calls Tryz.prog 121 #[.string s] w fun e w' => e = .returned (paV s) ∧ Below w.heap.size w w' := by
  have HSV : Hid (SV w) := hv
  clear hv
  go_enter Tryz.func121, Tryz.ntmps121
  go_wp2_with fail
  refine (read_any s _ hs (HSV.out.alloc _)).mono ?_
  rintro e w1 ⟨⟨k, n, t⟩, ok, rfl, hx, hb1⟩
  have hz1 := hb1.size
  simp at hz1
  have hz0 : w.heap.size < w1.heap.size := by omega
  have hz0' : w.heap.size < w1.heap.size + 1 := by omega
  obtain ⟨hc1, hf1⟩ := bcell hb1
  have HX : Hid (∀ u, LitOf s.data.toList u → ok = true ∧ (k, n, t) = u) := hx
  clear hx
  cases ok with
  | false =>
    have HP : Hid (paV s = .tuple #[.agg #[.int .i64 0, .int .i64 0, .string ⟨#[]⟩], .int .i64 10]) := paV_no fun v g => absurd (HX.out v g).1 (by decide)
    go_wp2_with (first | (go_at_call 148; refine (null_any _).mono ?_; rintro e w' ⟨rfl, hb⟩; (obtain ⟨hc, hf⟩ := bcell hb; have hz := hb.size; (try simp at hz); (try have hz0 : w.heap.size < w'.heap.size := by omega); (try have hz1 : w.heap.size + 1 < w'.heap.size := by omega); (try have hz2 : w.heap.size + 1 + 1 < w'.heap.size := by omega); (try have hz3 : w.heap.size + 1 + 1 + 1 < w'.heap.size := by omega))))
    exact bodyPost_ret (v := .tuple #[.agg #[.int .i64 0, .int .i64 0, .string ⟨#[]⟩], .int .i64 10]) (by simp [results, Tryz.results121, go_sem, *]) rfl ⟨by rw [HP.out], by (repeat (first | exact Below.refl _ _ | assumption | refine Below.drew ?_ | refine below_drewN ?_ _ | refine Below.alloc ?_ (by first | omega | (simp; done) | (simp; omega)) _ | refine Below.setCell ?_ (by first | omega | (simp; done) | (simp; omega)) _ | refine Below.trans ?_ (Below.mono (by assumption) (by first | omega | (simp; done) | (simp; omega)))))⟩
  | true =>
    go_wp2_with fail
    refine (print_any (k, n, t) _ (((HSV.out.alloc _).later hb1).alloc _)).mono ?_
    rintro e w2 ⟨rfl, hb2⟩
    have hz2 := hb2.size
    simp at hz2
    have hz3 : w.heap.size < w2.heap.size := by omega
    have hz4 : w1.heap.size < w2.heap.size := by omega
    obtain ⟨hc2, hf2⟩ := bcell hb2
    have c0 : w2.cell? ⟨w1.heap.size, 0, none⟩ = some (.int .i64 k) := cell_later hb2 (by simp)
    have c1 : w2.cell? ⟨w1.heap.size, 1, none⟩ = some (.int .i64 n) := cell_later hb2 (by simp)
    have c2 : w2.cell? ⟨w1.heap.size, 2, none⟩ = some (.string t) := cell_later hb2 (by simp)
    by_cases hr : (prR (k, n, t)).2 = 0 ∧ (prR (k, n, t)).1 = s.data.toList
    · have hl := prR_lit hr.1 hr.2
      have HP : Hid (paV s = .tuple #[.agg #[.int .i64 k, .int .i64 n, .string t], .int .i64 0]) := paV_ok hl
      have hpv : prV (k, n, t) = .tuple #[.string s, .int .i64 0] := by
        unfold prV
        rw [hr.1, hr.2]
      have hss : (s.toList == s.toList) = true := by simp
      rw [hpv]
      clear hr hl hpv
      go_wp2
      exact bodyPost_ret (v := .tuple #[.agg #[.int .i64 k, .int .i64 n, .string t], .int .i64 0]) (by simp [results, Tryz.results121, go_sem, *]) rfl ⟨by rw [HP.out], by (repeat (first | exact Below.refl _ _ | assumption | refine Below.drew ?_ | refine below_drewN ?_ _ | refine Below.alloc ?_ (by first | omega | (simp; done) | (simp; omega)) _ | refine Below.setCell ?_ (by first | omega | (simp; done) | (simp; omega)) _ | refine Below.trans ?_ (Below.mono (by assumption) (by first | omega | (simp; done) | (simp; omega)))))⟩
    · have HP : Hid (paV s = .tuple #[.agg #[.int .i64 0, .int .i64 0, .string ⟨#[]⟩], .int .i64 10]) := paV_no fun v g => by
        obtain ⟨_, e⟩ := HX.out v g
        subst e
        exact hr (by rw [prR_ok g.1]; exact ⟨rfl, g.2⟩)
      obtain ⟨p, hp⟩ : ∃ p : ByteArray, (⟨(prR (k, n, t)).1.toArray⟩ : ByteArray) = p := ⟨_, rfl⟩
      obtain ⟨z, hzz⟩ : ∃ z, (prR (k, n, t)).2 = z := ⟨_, rfl⟩
      have hpv : prV (k, n, t) = .tuple #[.string p, .int .i64 z] := by unfold prV; rw [hp, hzz]
      have hcase : (z != 0) = true ∨ ((z != 0) = false ∧ (p.toList == s.toList) = false) := by
        by_cases q : z = 0
        · refine Or.inr ⟨by simp [q], ?_⟩
          rw [beq_eq_false_iff_ne, ByteArray.toList_eq, ByteArray.toList_eq]
          intro e
          refine hr ⟨hzz.trans q, ?_⟩
          rw [← e, ← hp]
        · exact Or.inl (by simpa using q)
      rw [hpv]
      clear hr hpv hp hzz
      rcases hcase with q | ⟨q, q'⟩
      all_goals
        go_wp2_with (first | (go_at_call 148; refine (null_any _).mono ?_; rintro e w' ⟨rfl, hb⟩; (obtain ⟨hc, hf⟩ := bcell hb; have hz := hb.size; (try simp at hz); (try have hz0 : w.heap.size < w'.heap.size := by omega); (try have hz1 : w.heap.size + 1 < w'.heap.size := by omega); (try have hz2 : w.heap.size + 1 + 1 < w'.heap.size := by omega); (try have hz3 : w.heap.size + 1 + 1 + 1 < w'.heap.size := by omega))))
        exact bodyPost_ret (v := .tuple #[.agg #[.int .i64 0, .int .i64 0, .string ⟨#[]⟩], .int .i64 10]) (by simp [results, Tryz.results121, go_sem, *]) rfl ⟨by rw [HP.out], by (repeat (first | exact Below.refl _ _ | assumption | refine Below.drew ?_ | refine below_drewN ?_ _ | refine Below.alloc ?_ (by first | omega | (simp; done) | (simp; omega)) _ | refine Below.setCell ?_ (by first | omega | (simp; done) | (simp; omega)) _ | refine Below.trans ?_ (Below.mono (by assumption) (by first | omega | (simp; done) | (simp; omega)))))⟩
end Go.Proofs.YtlooelldkbdomaaGreatDoor
