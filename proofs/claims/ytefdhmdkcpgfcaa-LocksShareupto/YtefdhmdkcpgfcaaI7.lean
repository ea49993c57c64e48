/- Walks of layer 19: the document's Granted, Locks. -/
import Derived.Test.YtefdhmdkcpgfcaaI6
import Derived.Test.YtefdhmdkcpgfcaaIC
namespace Go.Proofs.Ytefdhmdkcpgfcaa
open Go.RowKit
/-- The granted ones among the first k. -/
def grTo (T : Tb9) (k : Nat) : List Int := ((List.range k).filter fun i => grntI T i).filterMap fun i => (T.ps[i]?).map fun p => p.pos
theorem grTo_succ {T : Tb9} {k : Nat} (hk : k < T.ps.length) : grTo T (k + 1) = grTo T k ++ if grntI T k = true then [T.ps[k].pos] else [] := by
  unfold grTo
  rw [List.range_succ, List.filter_append, List.filterMap_append]
  congr 1
  cases h : grntI T k <;> simp [h, hk]
theorem grTo_le (T : Tb9) (k : Nat) : (grTo T k).length ≤ k := by
  unfold grTo
  refine Nat.le_trans (List.length_filterMap_le _ _) (Nat.le_trans (List.length_filter_le _ _) ?_)
  rw [List.length_range]
  exact Nat.le_refl _
theorem waitI_len (T : Tb9) (i : Nat) (hi : i < T.ps.length) : (waitI T i).length ≤ i := by
  unfold waitI
  rw [List.getElem?_eq_getElem hi]
  refine Nat.le_trans (waitL_le _ _) ?_
  rw [List.length_take]
  omega
theorem lkC_one (x : Lk) : ∀ v ∈ lkC x, v.oneCell' = true := by
  intro v hv
  simp only [lkC, List.mem_cons, List.not_mem_nil, or_false] at hv
  rcases hv with rfl | rfl | rfl | rfl <;> rfl
theorem lenK (l : List Lk) : (l.flatMap lkC).length = l.length * 4 := flatf_length (n := 4) (f := lkC) (fun _ => rfl) l
theorem rowK_cells {w : World} {a : Option Addr} {l : List Lk} (h : RowR 4 LkR w a l) : 0 < (l.flatMap lkC).length → ∃ ad, a = some ad ∧ ∀ j v, (l.flatMap lkC)[j]? = some v → w.cell? (ad.add j) = some v := row_cells (n := 4) (R := LkR) (f := lkC) (by omega) (fun _ _ h => h) (fun _ => rfl) h

set_option maxHeartbeats 8000000 in
set_option maxRecDepth 100000 in
theorem rgranted_any (T : Tb9) (t B : Nat) (Z : Nat → Prop) (w : World) (h : DT w B Z t T) (hs : Sm9 T) : Calls Try.prog 19 #[.pointer (some ⟨t, 0, none⟩)] w fun e w' => ∃ v, e = .returned v ∧ OwnR 1 3 IntR w' w.heap.size v (grntL T) ∧ Below w.heap.size w w' := by
  obtain ⟨i0, hi0, hz0, hz1, hz2⟩ := info_parts Try.infoInt
  obtain ⟨q0, cap, hbox, hrow⟩ := h.reads
  have HDT := Lib.hid h
  have HS := Lib.hid hs
  have HR := Lib.hid hrow
  have hzt : t < w.heap.size := (Array.getElem?_eq_some_iff.1 hbox).1
  have C0 := Lib.hid (two_of hbox).1.1
  have hps := hs.ps
  clear h hs hbox hrow
  go_enter Try.func19, Try.ntmps19
  go_wp2
  go_loopw [3, 4] (fun v j wr => ∃ k : Nat, k ≤ T.ps.length ∧ j = .int .i64 k ∧ wr.ownsRow w.heap.size 3 1 v (grTo T k).length ((grTo T k).map fun n => Value.int .i64 n) ∧ Below w.heap.size w wr) (fun _ j _ => T.ps.length - (intOf j).toNat)
  case atStart => exact ⟨0, Nat.zero_le _, rfl, World.ownsRow_nil _ _ _ _, Below.refl _ _⟩
  case round =>
    obtain ⟨k, hk, rfl, hown, hb1⟩ := hrel
    have HO := Lib.hid hown
    have HB1 := Lib.hid hb1
    have hsz := hb1.size
    clear hown
    have c0 := cell_later hb1 C0.out
    by_cases hkl : k < T.ps.length
    · have hkli : (k : Int) < (T.ps.length : Int) := by omega
      clear hb1
      go_wp2_with fail
      refine (rwaits_any T t B Z k _ (HDT.out.later HB1.out) HS.out hkl).mono ?_
      rintro e w5 ⟨vw, rfl, how, hb5⟩
      have HB5 := Lib.hid (HB1.out.trans (hb5.mono hsz))
      have HO5 := Lib.hid (own_later HO.out hb5)
      have hs5 := hb5.size
      obtain ⟨pw, cw, rfl, _⟩ := how.form
      have HGR : Hid (grntI T k = decide ((waitI T k).length = 0)) := Lib.hid (by
        unfold grntI
        cases waitI T k <;> simp)
      obtain ⟨y, hy⟩ : ∃ y, T.ps[k] = y := ⟨_, rfl⟩
      have hat := place_at HR.out hkl
      rw [hy] at hat
      obtain ⟨b, off, qk, ck, rfl, p0, _, _⟩ := hat
      have d0 := cell_later HB5.out p0
      have d1 := cell_later HB5.out C0.out
      have HT : Hid (grTo T (k + 1) = grTo T k ++ if grntI T k = true then [y.pos] else []) := by
        show _ = _
        rw [grTo_succ hkl, hy]
      have hle : (grTo T k).length ≤ 2147483648 := by have := grTo_le T k; omega
      have hwl := waitI_len T k hkl
      obtain ⟨n, hn⟩ : ∃ n, (waitI T k).length = n := ⟨_, rfl⟩
      rw [hn] at HGR hwl ⊢
      obtain ⟨K, hK⟩ : ∃ K, grTo T k = K := ⟨_, rfl⟩
      rw [hK] at HO5 HT hle
      clear hK hn p0 hy how c0 hb5 HO
      by_cases h0 : n = 0
      · subst h0
        rw [HGR.out] at HT
        go_wp2_with (first | (at_builtin; refine wpList_append_own _ rfl _ _ 37 rfl w.heap.size 3 i0 (.int .i64 0) 1 8 Try.underlying37 hi0 hz0 hz1 hz2 rfl (by decide) _ K.length (K.map fun n => Value.int .i64 n) rfl (HO5.out.alloc _) ⟨w5.heap.size, 0, none⟩ 1 1 [.int .i64 y.pos] rfl rfl (cells_alloc _ _ _) (ints_oneC _) (by unfold maxLen; omega) (by omega) (by simp; omega) ?_; intro v' w6 hown6 hgrow6 _))
        have HB6 : Hid (Below w.heap.size w w6) := Lib.hid ((HB5.out.alloc (by omega) _).grown hgrow6 (by simp; omega) (fun g hg => (HO5.out.lt g hg).1))
        go_roundw
        case rel => exact ⟨k + 1, by omega, by go_num, by rw [HT.out]; simpa using hown6, HB6.out⟩
        case measure => simp [intOf]; omega
      · have hn0 : ((n : Int) == 0) = false := by simpa using h0
        have HN0 := Lib.hid h0
        clear h0
        go_wp2
        go_roundw
        case rel => exact ⟨k + 1, by omega, by go_num, by rw [HT.out, HGR.out]; simpa [HN0.out] using HO5.out, HB5.out⟩
        case measure => simp [intOf]; omega
    · have hkli : ¬ (k : Int) < (T.ps.length : Int) := by omega
      have hke : k = T.ps.length := by omega
      have HE : Hid (grTo T k = grntL T) := Lib.hid (by rw [hke]; rfl)
      clear hb1 hke
      go_wp2
      go_ret
      exact ⟨_, rfl, iC_own (by have := HO.out; rw [HE.out] at this; exact this), HB1.out⟩

set_option maxHeartbeats 8000000 in
set_option maxRecDepth 100000 in
theorem rlocks_any (T : Tb9) (t B : Nat) (Z : Nat → Prop) (pos : Int) (w : World) (h : DT w B Z t T) (hs : Sm9 T) : Calls Try.prog 36 #[.pointer (some ⟨t, 0, none⟩), .int .i64 pos] w fun e w' => ∃ v, e = .returned (.tuple #[v, .int .i64 (lockR T pos).2]) ∧ OwnR 4 23 LkR w' w.heap.size v (lockR T pos).1 ∧ Below w.heap.size w w' := by
  obtain ⟨i1, hi1, hy0, hy1, hy2⟩ := info_parts Try.infoLk
  have HT := Lib.hid h
  have HS := Lib.hid hs
  have HA := Lib.hid (fun W (h : DT W B Z t T) => rat_any T t B Z pos W h hs)
  obtain ⟨q0, cap, hbox, hrow⟩ := h.reads
  have hzt : t < w.heap.size := (Array.getElem?_eq_some_iff.1 hbox).1
  have c0 := (two_of hbox).1.1
  have hps := hs.ps
  clear h hbox
  cases hat : atI T pos with
  | none =>
    have HR : Hid (lockR T pos = ([], 1)) := Lib.hid (by unfold lockR; rw [hat])
    unfold atN at HA
    rw [hat] at HA
    rw [HR.out]
    clear hat
    go_enter Try.func36, Try.ntmps36
    go_wp2_with fail
    refine (HA.out _ HT.out).mono ?_
    rintro e w1 ⟨rfl, rfl⟩
    go_wp2
    exact bodyPost_ret (v := .tuple #[.slice none 0 0, .int .i64 1]) (by simp [results, Try.results36, go_sem]) rfl ⟨_, rfl, OwnR.nil _ _ _ _ _, Below.refl _ _⟩
  | some i =>
    obtain ⟨hi, _⟩ := atI_lt hat
    obtain ⟨y, hy⟩ : ∃ y, T.ps[i] = y := ⟨_, rfl⟩
    have HR : Hid (lockR T pos = (y.ls, 0)) := Lib.hid (by unfold lockR; rw [hat]; simp [hi, hy])
    unfold atN at HA
    rw [hat] at HA
    rw [HR.out]
    have hpl := place_at hrow hi
    rw [hy] at hpl
    obtain ⟨b, off, qk, ck, rfl, _, p1, hrk⟩ := hpl
    have HRK := Lib.hid hrk
    have hlk : y.ls.length ≤ 2147483648 := hs.ls y (hy ▸ List.getElem_mem hi)
    have hn : ¬ (i : Int) < 0 := by omega
    have hli : (i : Int) < (T.ps.length : Int) := by omega
    have hzb := World.block_lt_of_cell? _ _ p1
    clear hat hy hrow hs hrk
    go_enter Try.func36, Try.ntmps36
    go_wp2_with fail
    refine (HA.out _ HT.out).mono ?_
    rintro e w0 ⟨rfl, hw0⟩
    rw [hw0]
    clear hw0
    go_wp2_with (first | (at_make; refine wpList_make_full _ rfl _ _ 34 rfl w.heap.size 23 i1 _ 4 Try.underlying34 hi1 hy0 hy1 .i64 .i64 _ _ y.ls.length rfl rfl (by omega) (by omega) (by rw [hy2]; omega) (by unfold maxLen; omega) (by first | exact Nat.le_refl _ | omega) ?_; intro w1 hown hgrow; (have HO1 := Lib.hid hown); (have HG1 := Lib.hid hgrow); (have HB1 : Hid (Below w.heap.size w w1) := (Below.refl _ _).grown hgrow (Nat.le_refl _) (fun k h => by cases h)); (have f0 := cell_later HB1.out c0); (have f1 := cell_later HB1.out p1); clear c0 p1 hown hgrow) | (refine wpList_copy_wide rfl (.tmp 23) (.tmp 31) 34 34 rfl 23 4 Try.underlying34 (by rw [hi1]; simp [hy1]) w.heap.size 0 y.ls.length y.ls.length qk y.ls.length ck rfl rfl (y.ls.flatMap lkC) (Nat.le_refl _) (lenK y.ls) (rowK_cells (HRK.out.later HB1.out fun _ _ h => h)) (fun j hj => (row_room HO1.out).1 j (by rw [lenK] at hj; exact hj)) (fun j _ => (row_room HO1.out).2 _) (one_of lkC_one y.ls) ?_; intro w4 hw4; (have HW4 := Lib.hid hw4); clear hw4))
    have hlt1 : w.heap.size < w1.heap.size := (HO1.out.lt _ rfl).2
    refine bodyPost_ret (v := .tuple #[.slice (some ⟨w.heap.size, 0, none⟩) y.ls.length y.ls.length, .int .i64 0]) (by simp [results, Try.results36, go_sem]) rfl ⟨_, rfl, copied_own (R := LkR) (f := lkC) (fun _ => rfl) (fun _ => rfl) HO1.out HW4.out, ?_⟩
    rw [HW4.out]
    exact HB1.out.grown (setCells_grown w.heap.size _ 0 w1) (by omega) (fun k hk => by simp at hk; omega)
end Go.Proofs.Ytefdhmdkcpgfcaa
