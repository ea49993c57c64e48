/- Walks of layer 19: the document's Ask. -/
import Derived.Test.YtefdhmdkcpgfcaaI7
namespace Go.Proofs.Ytefdhmdkcpgfcaa
open Go.RowKit
theorem PlO.keepL {w w' : World} {Z Z' : Nat → Prop} (hk : ∀ (g : Nat) (cur : Array Value), w.heap[g]? = some (.cells cur 23 (0, 0)) → w'.heap[g]? = w.heap[g]?) (hz : ∀ k, Z k → Z' k) (p : Pl9) (vs : List Value) (h : PlO w Z p vs) : PlO w' Z' p vs := by
  obtain ⟨v, rfl, h1, h2⟩ := h
  refine ⟨v, rfl, h1.kept (fun g hg => ?_) fun _ _ h => h, fun g hg => hz g (h2 g hg)⟩
  obtain ⟨_, _, _, h3⟩ := h1
  obtain ⟨cur, hc⟩ := own_block h3 hg
  exact hk g cur hc
theorem alloc_low {w : World} {k : Nat} (h : k < w.heap.size) {o : Obj} : (w.alloc o).heap[k]? = w.heap[k]? := ((Below.refl w.heap.size w).alloc (Nat.le_refl _) o).block k h
theorem OwnR.block {α : Type} {n : Nat} {T : TypeId} {R : α → List Value → Prop} {w : World} {B : Nat} {v : Value} {l : List α} (h : OwnR n T R w B v l) {g : Nat} (hg : v.ownBlock = some g) : ∃ cur, w.heap[g]? = some (.cells cur T (0, 0)) := by
  obtain ⟨_, _, _, h3⟩ := h
  exact own_block h3 hg
theorem askE_one {T : Tb9} {pos : Int} {l : List Lk} (h : pos < 0 ∨ pos ≤ T.last) : askE T pos l = 1 := if_pos h
theorem askE_bad {T : Tb9} {pos : Int} {l : List Lk} (h : ¬ (pos < 0 ∨ pos ≤ T.last)) {k : Nat} (hk : k < l.length) (e : lkR l[k] = false) : askE T pos l = 190 := by
  unfold askE
  rw [if_neg h, if_neg]
  intro c
  rw [List.all_eq_true] at c
  rw [c _ (List.getElem_mem hk)] at e
  cases e
theorem askE_ok {T : Tb9} {pos : Int} {l : List Lk} (h : ¬ (pos < 0 ∨ pos ≤ T.last)) (ha : ∀ i (g : i < l.length), lkR l[i] = true) : askE T pos l = 0 := by
  unfold askE
  rw [if_neg h, if_pos]
  rw [List.all_eq_true]
  intro x hx
  obtain ⟨i, hi, rfl⟩ := List.getElem_of_mem hx
  exact ha i hi
theorem askT_no {T : Tb9} {pos : Int} {l : List Lk} (h : askE T pos l ≠ 0) : askT T pos l = T := if_neg h
theorem askT_yes {T : Tb9} {pos : Int} {l : List Lk} (h : askE T pos l = 0) : askT T pos l = ⟨T.ps ++ [⟨pos, l⟩], pos⟩ := if_pos h
/-- What is told by one who may turn a table. -/
def DP9 (w : World) (B : Nat) (Z : Nat → Prop) (t : Nat) (T' : Tb9) (w' : World) : Prop := Only Z w w' ∧ ∃ Z', DT w' B Z' t T' ∧ ∀ k, Z' k → Z k ∨ (w.heap.size ≤ k ∧ k < w'.heap.size)
theorem DT.same9 {w w' : World} {B : Nat} {Z : Nat → Prop} {t : Nat} {T : Tb9} (h : DT w B Z t T) (hb : Below w.heap.size w w') : DP9 w B Z t T w' := ⟨Only.of hb, Z, h.later hb, fun _ hk => Or.inl hk⟩
theorem row_off {w : World} {t n : Nat} {v0 : Value} {cs : Array Value} {xs : List Value} (q3 : w.ownsRow 0 71 2 v0 n xs) (hbox : w.heap[t]? = some (.cells cs 61 (0, 0))) : v0.ownBlock ≠ some t := fun e => by
  obtain ⟨cur, hc⟩ := own_block q3 e
  rw [hbox] at hc
  simp only [Option.some.injEq, Obj.cells.injEq] at hc
  exact absurd hc.2.1 (by decide)
/-- The table behind an Ask that was taken. -/
theorem DT.asked {w w2 w5 : World} {B : Nat} {Z : Nat → Prop} {t : Nat} {T : Tb9} (h : DT w B Z t T) {v0 : Value} (hbox : w.heap[t]? = some (.cells #[v0, .int .i64 T.last] 61 (0, 0))) {qs : List (Pl9 × List Value)} (q1 : qs.map (·.1) = T.ps) (q2 : ∀ p ∈ qs, PlO w Z p.1 p.2 ∧ p.2.length = 2) (q3 : w.ownsRow 0 71 2 v0 T.ps.length (qs.flatMap (·.2))) (q4 : ∀ g, v0.ownBlock = some g → Z g)
    (hb2 : Below w.heap.size w w2) {vo : Value} {l : List Lk} {pos : Int} (ho : OwnR 4 23 LkR w2 w.heap.size vo l) {o : Obj} {g cap : Nat} (hown : w5.ownsRow 0 71 2 (.slice (some ⟨g, 0, none⟩) (T.ps.length + 1) cap) (T.ps.length + 1) (qs.flatMap (·.2) ++ [.int .i64 pos, vo])) (hg : (w2.alloc o).grownBy w5 v0.ownBlock) (hor : v0.ownBlock = some g ∨ g = (w2.alloc o).heap.size) : DP9 w B Z t ⟨T.ps ++ [⟨pos, l⟩], pos⟩ ((w5.setCell ⟨t, 0, none⟩ (.slice (some ⟨g, 0, none⟩) (T.ps.length + 1) cap)).setCell ⟨t, 1, none⟩ (.int .i64 pos)) := by
  have hs2 := hb2.size
  have hs3 : (w2.alloc o).heap.size = w2.heap.size + 1 := World.size_alloc _ _
  have hs5 := hg.size
  have htl := (h.lies t h.tz).2
  have hg5 := (hown.lt g rfl).2
  have hlow : ∀ k, k < w.heap.size → v0.ownBlock ≠ some k → w5.heap[k]? = w.heap[k]? := fun k hk hn => (hg.block k (by omega) fun e => hn e.symm).trans ((alloc_low (by omega)).trans (hb2.block k hk))
  have htn := row_off q3 hbox
  have ht5 : w5.heap[t]? = some (.cells #[v0, .int .i64 T.last] 61 (0, 0)) := (hlow t htl htn).trans hbox
  have hgt : g ≠ t := fun e => by
    obtain ⟨cur, hc⟩ := own_block hown (g := g) rfl
    rw [e, ht5] at hc
    simp only [Option.some.injEq, Obj.cells.injEq] at hc
    exact absurd hc.2.1 (by decide)
  obtain ⟨W, hW⟩ : ∃ W, (w5.setCell ⟨t, 0, none⟩ (.slice (some ⟨g, 0, none⟩) (T.ps.length + 1) cap)).setCell ⟨t, 1, none⟩ (.int .i64 pos) = W := ⟨_, rfl⟩
  have hWo : ∀ k, k ≠ t → W.heap[k]? = w5.heap[k]? := fun k hk => by
    rw [← hW]
    exact (Below.heap_setCell _ _ _ _ fun e => hk e).trans (Below.heap_setCell _ _ _ _ fun e => hk e)
  have hWt : W.heap[t]? = some (.cells #[.slice (some ⟨g, 0, none⟩) (T.ps.length + 1) cap, .int .i64 pos] 61 (0, 0)) := by
    rw [← hW]
    have := heap_setCell_at (heap_setCell_at ht5 (.slice (some ⟨g, 0, none⟩) (T.ps.length + 1) cap) (i := 0)) (.int .i64 pos) (i := 1)
    simpa using this
  have hWs : W.heap.size = w5.heap.size := by rw [← hW]; simp [World.setCell]
  have hWos : W.os = w.os ∧ W.tape = w.tape ∧ W.output = w.output := by
    rw [← hW]
    exact ⟨hg.os.trans hb2.os, hg.tape.trans hb2.tape, hg.output.trans hb2.output⟩
  rw [hW]
  have hlock : ∀ (k : Nat) (cur : Array Value), w.heap[k]? = some (.cells cur 23 (0, 0)) → W.heap[k]? = w.heap[k]? := fun k cur hc => by
    have hk := (Array.getElem?_eq_some_iff.1 hc).1
    refine (hWo k fun e => ?_).trans (hlow k hk fun e => ?_)
    · rw [e, hbox] at hc
      simp only [Option.some.injEq, Obj.cells.injEq] at hc
      exact absurd hc.2.1 (by decide)
    · obtain ⟨cur', hc'⟩ := own_block q3 e
      rw [hc] at hc'
      simp only [Option.some.injEq, Obj.cells.injEq] at hc'
      exact absurd hc'.2.1 (by decide)
  have ho' : OwnR 4 23 LkR W w.heap.size vo l := ho.kept (fun k hk => by
    have hl := ho.lt hk
    refine (hWo k (by omega)).trans ((hg.block k (by omega) fun e => ?_).trans (alloc_low hl.2))
    have := (h.lies k (q4 k e.symm)).2
    omega) fun _ _ h => h
  refine ⟨⟨hWos.1, hWos.2.1, hWos.2.2, by omega, fun k hk hz => ?_⟩, fun k => Z k ∨ (w.heap.size ≤ k ∧ k < W.heap.size), ⟨⟨_, hWt, ⟨qs ++ [(⟨pos, l⟩, [.int .i64 pos, vo])], by simp [q1], fun p hp => ?_, ?_⟩, fun k hk => ?_⟩, fun k hk => ?_, Or.inl h.tz⟩, fun _ hk => hk⟩
  · exact (hWo k fun e => hz (e ▸ h.tz)).trans (hlow k hk fun e => hz (q4 k e))
  · rcases List.mem_append.1 hp with hp | hp
    · exact ⟨(q2 p hp).1.elim fun v hv => PlO.keepL hlock (fun _ hk => Or.inl hk) _ _ ⟨v, hv⟩, (q2 p hp).2⟩
    · rw [List.mem_singleton.1 hp]
      exact ⟨⟨vo, rfl, ho'.mono (Nat.zero_le _) fun _ _ h => h, fun k hk => Or.inr (ho'.lt hk)⟩, rfl⟩
  · have := own_kept hown (w' := W) fun k hk => hWo k (by
      have e : g = k := by simpa [Value.ownBlock] using hk
      omega)
    simpa using this
  · have e : g = k := by simpa [Value.ownBlock] using hk
    subst e
    rcases hor with e | e
    · exact Or.inl (q4 _ e)
    · exact Or.inr ⟨by omega, by omega⟩
  · rcases hk with hk | hk
    · exact ⟨(h.lies k hk).1, by have := (h.lies k hk).2; omega⟩
    · exact ⟨by have := (h.lies t h.tz).1; omega, hk.2⟩

set_option maxHeartbeats 16000000 in
set_option maxRecDepth 100000 in
theorem rask_any (T : Tb9) (t B : Nat) (Z : Nat → Prop) (pos : Int) (p : Option Addr) (cap : Nat) (l : List Lk) (w : World) (h : DT w B Z t T) (hs : T.ps.length ≤ 2147483647) (hr : RowR 4 LkR w p l) (hl : l.length ≤ 2147483648) : Calls Try.prog 31 #[.pointer (some ⟨t, 0, none⟩), .int .i64 pos, .slice p l.length cap] w fun e w' => e = .returned (.int .i64 (askE T pos l)) ∧ DP9 w B Z t (askT T pos l) w' := by
  obtain ⟨i1, hi1, hy0, hy1, hy2⟩ := info_parts Try.infoLk
  obtain ⟨i2, hi2, hx0, hx1, hx2⟩ := info_parts Try.infoPl
  have HD := Lib.hid h
  have HR := Lib.hid hr
  obtain ⟨v0, hbox, ⟨qs, q1, q2, q3⟩, q4⟩ := h.tb
  have HBX := Lib.hid hbox
  have HQ := Lib.hid (And.intro q1 (And.intro q2 (And.intro q3 q4)))
  have hzt : t < w.heap.size := (Array.getElem?_eq_some_iff.1 hbox).1
  have z := two_of hbox
  have Z0 := Lib.hid z
  clear h hr hbox q1 q2 q4
  by_cases ha : pos < 0 ∨ pos ≤ T.last
  · have HE : Hid (askE T pos l = 1) := Lib.hid (askE_one ha)
    have HT : Hid (askT T pos l = T) := Lib.hid (askT_no (by rw [HE.out]; decide))
    rw [HE.out, HT.out]
    clear q3
    by_cases h0 : pos < 0
    · clear ha
      go_enter Try.func31, Try.ntmps31
      go_wp2
      go_ret
      exact ⟨rfl, HD.out.same9 (Below.refl _ _)⟩
    · have h1 : pos ≤ T.last := by omega
      clear ha
      go_enter Try.func31, Try.ntmps31
      go_wp2
      go_ret
      exact ⟨rfl, HD.out.same9 (Below.refl _ _)⟩
  · have HNA := Lib.hid ha
    have h0 : ¬ pos < 0 := fun h => ha (Or.inl h)
    have h1 : ¬ pos ≤ T.last := fun h => ha (Or.inr h)
    clear ha
    go_enter Try.func31, Try.ntmps31
    go_wp2
    clear z
    go_loopw [7] (fun j wr => ∃ k : Nat, k ≤ l.length ∧ j = .int .i64 k ∧ (∀ i (g : i < l.length), i < k → lkR l[i] = true) ∧ Below w.heap.size w wr) (fun j _ => l.length - (intOf j).toNat)
    case atStart => exact ⟨0, Nat.zero_le _, rfl, fun j _ g => absurd g (Nat.not_lt_zero _), Below.refl _ _⟩
    case round =>
      obtain ⟨k, hk, rfl, hall, hb1⟩ := hrel
      have HA := Lib.hid hall
      have HB1 := Lib.hid hb1
      have hsz := hb1.size
      clear hall
      by_cases hkl : k < l.length
      · have hkli : (k : Int) < (l.length : Int) := by omega
        obtain ⟨x, hx⟩ : ∃ x, l[k] = x := ⟨_, rfl⟩
        have hat := lock_at HR.out hkl
        rw [hx] at hat
        obtain ⟨b, off, rfl, c0, c1, c2, c3⟩ := hat
        have d0 := cell_later hb1 c0
        have d1 := cell_later hb1 c1
        have d2 := cell_later hb1 c2
        have d3 := cell_later hb1 c3
        have HX := Lib.hid hx
        have hzb := World.block_lt_of_cell? _ _ c0
        clear c0 c1 c2 c3 hx hb1
        have HRX := Lib.hid (fun W => rright19_any x W)
        simp only [lkC] at HRX
        cases hq : lkR x with
        | true =>
          rw [hq] at HRX
          have HQ2 : Hid (lkR l[k] = true) := Lib.hid (by rw [HX.out]; exact hq)
          clear hq
          go_wp2_with (first | (go_at_call 9; refine (HRX.out _).mono ?_; rintro e w5 ⟨rfl, hb5⟩))
          go_roundw
          case rel => exact ⟨k + 1, by omega, by go_num, upto1 HA.out hkl HQ2.out, HB1.out.trans (hb5.mono hsz)⟩
          case measure => simp [intOf]; omega
        | false =>
          rw [hq] at HRX
          have HE : Hid (askE T pos l = 190) := Lib.hid (askE_bad HNA.out hkl (by rw [HX.out]; exact hq))
          have HT : Hid (askT T pos l = T) := Lib.hid (askT_no (by rw [HE.out]; decide))
          clear hq
          go_wp2_with (first | (go_at_call 9; refine (HRX.out _).mono ?_; rintro e w5 ⟨rfl, hb5⟩))
          rw [HE.out, HT.out]
          go_ret
          exact ⟨rfl, HD.out.same9 (HB1.out.trans (hb5.mono hsz))⟩
      · have hkli : ¬ (k : Int) < (l.length : Int) := by omega
        have HE : Hid (askE T pos l = 0) := Lib.hid (askE_ok HNA.out fun i g => HA.out i g (by omega))
        have HT : Hid (askT T pos l = ⟨T.ps ++ [⟨pos, l⟩], pos⟩) := Lib.hid (askT_yes HE.out)
        clear hb1 h0 h1
        go_wp2_with (first
          | (at_make; refine wpList_make_full _ rfl _ _ 34 rfl w.heap.size 23 i1 _ 4 Try.underlying34 hi1 hy0 hy1 .i64 .i64 _ _ l.length rfl rfl (by omega) (by omega) (by rw [hy2]; omega) (by unfold maxLen; omega) (by omega) ?_; intro w1 hown hgrow; (have HO1 := Lib.hid hown); (have HG1 := Lib.hid hgrow); clear hown hgrow)
          | (refine wpList_copy_wide rfl (.tmp 36) (.tmp 37) 34 34 rfl 23 4 Try.underlying34 (by rw [hi1]; simp [hy1]) wr.heap.size 0 l.length l.length p l.length cap rfl rfl (l.flatMap lkC) (Nat.le_refl _) (lenK l) (rowK_cells (HR.out.later (HB1.out.trans (((Below.refl _ _).grown HG1.out (Nat.le_refl _) (fun k h => by cases h)).mono hsz)) fun _ _ h => h)) (fun j hj => (row_room HO1.out).1 j (by rw [lenK] at hj; exact hj)) (fun j _ => (row_room HO1.out).2 _) (one_of lkC_one l) ?_; intro w2 hw2; (have HW2 := Lib.hid hw2); (have HBR : Hid (Below wr.heap.size wr w2) := Lib.hid (by rw [HW2.out]; exact ((Below.refl _ _).grown HG1.out (Nat.le_refl _) (fun k h => by cases h)).grown (setCells_grown wr.heap.size _ 0 w1) (by have := HG1.out.size; omega) (fun k hk => by simp at hk; omega))); (have HB2 : Hid (Below w.heap.size w w2) := Lib.hid (HB1.out.trans (HBR.out.mono hsz))); (have HO2 : Hid (OwnR 4 23 LkR w2 w.heap.size (.slice (some ⟨wr.heap.size, 0, none⟩) l.length l.length) l) := Lib.hid (copied_own (R := LkR) (f := lkC) (fun _ => rfl) (fun _ => rfl) HO1.out HW2.out)); (have e0 := cell_later HB2.out Z0.out.1.1); (have T2 : Hid (w2.heap[t]? = _) := Lib.hid ((HB2.out.block t hzt).trans HBX.out)); (have hs2 := HB2.out.size); clear hw2)
          | (at_builtin; refine wpList_append_lies _ rfl _ _ 59 rfl 0 71 i2 _ 2 32 Try.underlying59 hi2 hx0 hx1 hx2 rfl (by decide) v0 T.ps.length (qs.flatMap (·.2)) rfl ((own_later q3 HB2.out).alloc _) ⟨w2.heap.size, 0, none⟩ 1 1 [.int .i64 pos, .slice (some ⟨wr.heap.size, 0, none⟩) l.length l.length] rfl rfl (cells_alloc _ _ _) (by intro u hu; simp only [List.mem_cons, List.not_mem_nil, or_false] at hu; rcases hu with rfl | rfl <;> rfl) (by decide) (by unfold maxLen; omega) (by omega) (Nat.zero_le _) _ rfl ?_; intro g cap' w5 hown5 hgrow5 hor5 hlt5; (have HX5 := Lib.hid (And.intro hown5 (And.intro hgrow5 hor5))); (have z5 := two_of ((hgrow5.block t (by simp; omega) (fun e => row_off q3 HBX.out e.symm)).trans ((alloc_low (by omega)).trans T2.out))); clear hown5 hgrow5 hor5))
        rw [HE.out, HT.out]
        go_ret
        exact ⟨rfl, HD.out.asked HBX.out HQ.out.1 HQ.out.2.1 q3 HQ.out.2.2.2 HB2.out HO2.out HX5.out.1 HX5.out.2.1 HX5.out.2.2⟩
end Go.Proofs.Ytefdhmdkcpgfcaa
