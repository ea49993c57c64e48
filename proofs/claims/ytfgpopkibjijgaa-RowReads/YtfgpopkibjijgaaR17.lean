/- The law RowReads. -/
import Derived.Test.YtfgpopkibjijgaaR14
import Derived.Test.YtfgpopkibjijgaaR15
import Derived.Laws.OwnMore
namespace Go.Proofs.Ytfgpopkibjijgaa
open Go.RowKit

/-- A list of the call's own: its cells, and where it lies. -/
theorem own_far {w : World} {B n : Nat} {v : Value} {vs : List V3} (h : w.ownsRow B 25 3 v n (vc vs)) : ∃ a cap, v = .slice a vs.length cap ∧ Row w a vs ∧ ∀ b off, a = some ⟨b, off, none⟩ → B ≤ b := by
  have h' := h
  obtain ⟨a, cap, rfl, hr⟩ := Row.of_own h
  refine ⟨a, cap, rfl, hr, ?_⟩
  intro b off e
  subst e
  obtain ⟨_, ⟨h0, _⟩ | ⟨g, c, cur, e, hB, _⟩⟩ := h'
  · cases h0
  · simp at e
    omega
theorem Row.set {w : World} {a : Option Addr} {vs : List V3} (h : Row w a vs) (p : Addr) (v : Value) (hf : ∀ b off, a = some ⟨b, off, none⟩ → b ≠ p.block) : Row (w.setCell p v) a vs := by
  intro i hi
  obtain ⟨b, off, e, c0, c1, c2⟩ := h i hi
  have hne := hf b off e
  refine ⟨b, off, e, ?_, ?_, ?_⟩
  · rw [World.cell?_setCell_other _ _ _ _ (fun e => hne (by rw [e]))]; exact c0
  · rw [World.cell?_setCell_other _ _ _ _ (fun e => hne (by rw [e]))]; exact c1
  · rw [World.cell?_setCell_other _ _ _ _ (fun e => hne (by rw [e]))]; exact c2
theorem Row.grown {w w' : World} {row : Option Nat} {a : Option Addr} {vs : List V3} (h : Row w a vs) (hg : w.grownBy w' row) (hf : ∀ b off, a = some ⟨b, off, none⟩ → some b ≠ row) : Row w' a vs := by
  intro i hi
  obtain ⟨b, off, e, c0, c1, c2⟩ := h i hi
  have hlt := cell_lt c0
  have hne := hf b off e
  refine ⟨b, off, e, ?_, ?_, ?_⟩
  · rw [hg.cell_far ⟨b, _, none⟩ hlt hne]; exact c0
  · rw [hg.cell_far ⟨b, _, none⟩ hlt hne]; exact c1
  · rw [hg.cell_far ⟨b, _, none⟩ hlt hne]; exact c2

set_option maxHeartbeats 8000000 in
set_option maxRecDepth 100000 in
theorem reads_small (s : ByteArray) (w : World) (hs : s.size ≤ 2147483647) :
    Calls Try.prog 4 #[.string s] w fun e w' => e = .returned (.bool true) ∧ Below w.heap.size w w' := by
  obtain ⟨i0, hi, hz0, hz1, hz2⟩ := info_parts Try.info23
  have hsi : ¬ (2147483647 : Int) < (s.size : Int) := by omega
  obtain ⟨vs, hvs⟩ : ∃ vs, (rdR s.data.toList).1 = vs := ⟨_, rfl⟩
  obtain ⟨E, hE⟩ : ∃ E, (rdR s.data.toList).2 = E := ⟨_, rfl⟩
  have hv8 : vs.length ≤ 16 := by rw [← hvs]; exact rdR_len _
  have HV : Hid ((rdR s.data.toList).1 = vs) := hvs
  have HE : Hid ((rdR s.data.toList).2 = E) := hE
  clear hvs hE
  go_enter Try.func4, Try.ntmps4
  go_wp2_with fail
  refine (awake_any _).mono ?_; rintro e w1 ⟨rfl, h1⟩
  have z1 := h1.size
  go_wp2_with fail
  refine (dec_any _ _ (by omega)).mono ?_; rintro e w2 ⟨l2, rfl, o2, h2⟩
  rw [HV.out] at o2
  rw [HE.out]
  have z2 := h2.size
  have hl2 := o2.lt
  go_wp2_with fail
  refine (rdec_any _ _ (by omega)).mono ?_; rintro e w3 ⟨l3, rfl, o3, h3⟩
  rw [HV.out] at o3
  rw [HE.out]
  have z3 := h3.size
  have o23 := own_later o2 h3
  obtain ⟨la, lc, rfl, R2⟩ := Row.of_own o23
  obtain ⟨wa, wc, rfl, R3, far3⟩ := own_far o3
  have H3 : Below w1.heap.size w1 w3 := h2.trans (h3.mono z2)
  clear o2 o3 h2 h3
  go_wp2_with fail
  refine (same_any la wa lc wc vs vs _ (by omega) R2 R3).mono ?_; rintro e w4 ⟨rfl, h4⟩
  rw [eqL_self]
  have o4 := own_later o23 h4
  have R4 := R3.later h4
  have z4 := h4.size
  have H4 : Below w1.heap.size w1 w4 := H3.trans (h4.mono (by omega))
  have HFar : Hid (∀ b off, wa = some ⟨b, off, none⟩ → w2.heap.size ≤ b) := far3
  have HLt : Hid (∀ k, (Value.slice la vs.length lc).ownBlock = some k → w1.heap.size ≤ k ∧ k < w2.heap.size) := hl2
  clear far3 hl2 R2 R3 o23 h4 H3
  go_wp2
  go_loopw [9] (fun i wr => ∃ (k : Nat) (xs : List Value), k ≤ vs.length ∧ i = .int .i64 k ∧ wr.ownsRow w1.heap.size 25 3 (.slice la vs.length lc) vs.length xs ∧ Row wr wa vs ∧ Below w1.heap.size w1 wr ∧ w2.heap.size ≤ wr.heap.size) (fun i _ => vs.length - (intOf i).toNat)
  case atStart => exact ⟨0, _, Nat.zero_le _, rfl, o4, R4, H4, by omega⟩
  case round =>
    clear o4 R4 H4
    obtain ⟨k, xs, hk, rfl, hown, hrow, hb, hzr⟩ := hrel
    have HROW : Hid (Row wr wa vs) := hrow
    clear hrow
    by_cases hlt : k < vs.length
    · obtain ⟨g, gc, e, hg1, hg2⟩ := hown.form (by omega)
      obtain ⟨rfl, rfl⟩ : la = some ⟨g, 0, none⟩ ∧ lc = gc := by simpa using e
      have hgw := (HLt.out g rfl).2
      have hxl := hown.1
      have hki : (k : Int) < (vs.length : Int) := by omega
      have cc : ∀ j, j < vs.length * 3 → ∃ x, wr.cell? ⟨g, j, none⟩ = some x := by
        intro j hj
        rw [hown.cellAt j hj]
        exact ⟨_, List.getElem?_eq_getElem (by omega)⟩
      obtain ⟨x0, c0⟩ := cc (k * 3) (by omega)
      obtain ⟨x1, c1⟩ := cc (k * 3 + 1) (by omega)
      obtain ⟨x2, c2⟩ := cc (k * 3 + 2) (by omega)
      have ff : ∀ j, wr.frozen? ⟨g, j, none⟩ = false := hown.frozenAt
      have s0 := (hown.stored (k * 3) (.int .i64 1)).1
      have s1 := (s0.stored (k * 3 + 1) (.int .i64 (-9))).1
      have s2 := (s1.stored (k * 3 + 2) (.string ⟨#[]⟩)).1
      have far : ∀ b off, wa = some ⟨b, off, none⟩ → b ≠ g := fun b off e => by have := HFar.out b off e; omega
      have r2 := ((HROW.out.set ⟨g, k * 3, none⟩ (.int .i64 1) far).set ⟨g, k * 3 + 1, none⟩ (.int .i64 (-9)) far).set ⟨g, k * 3 + 2, none⟩ (.string ⟨#[]⟩) far
      have HS2 : Hid (((((wr.setCell ⟨g, k * 3, none⟩ (.int .i64 1)).setCell ⟨g, k * 3 + 1, none⟩ (.int .i64 (-9))).setCell ⟨g, k * 3 + 2, none⟩ (.string ⟨#[]⟩)).alloc (.cells #[.int .i64 1, .int .i64 (-9), .string ⟨#[]⟩] 25)).ownsRow w1.heap.size 25 3 (.slice (some ⟨g, 0, none⟩) vs.length lc) vs.length (((xs.set (k * 3) (.int .i64 1)).set (k * 3 + 1) (.int .i64 (-9))).set (k * 3 + 2) (.string ⟨#[]⟩))) := s2.alloc _
      have HR2 : Hid (Row ((((wr.setCell ⟨g, k * 3, none⟩ (.int .i64 1)).setCell ⟨g, k * 3 + 1, none⟩ (.int .i64 (-9))).setCell ⟨g, k * 3 + 2, none⟩ (.string ⟨#[]⟩)).alloc (.cells #[.int .i64 1, .int .i64 (-9), .string ⟨#[]⟩] 25)) wa vs) := r2.alloc _
      clear cc s0 s1 s2 r2 e hown
      go_wp2_with (first | (go_at_call 7; refine (num_exact _ _).mono ?_; rintro e w' ⟨rfl, rfl⟩))
      go_roundw
      case rel => exact ⟨k + 1, _, by omega, by go_num, HS2.out, HR2.out, by (repeat (first | exact Below.refl _ _ | assumption | refine Below.drew ?_ | refine below_drewN ?_ _ | refine Below.alloc ?_ (by first | omega | (simp; done) | (simp; omega)) _ | refine Below.setCell ?_ (by first | omega | (simp; done) | (simp; omega)) _ | refine Below.trans ?_ (Below.mono (by assumption) (by first | omega | (simp; done) | (simp; omega))))), by first | omega | (simp; omega)⟩
      case measure => simp [intOf]; omega
    · have hk' : k = vs.length := by omega
      subst hk'
      have hlt2 := hown.lt
      go_wp2_with fail
      refine (num_any _ _).mono ?_; rintro e w5 ⟨rfl, h5⟩
      have z5 := h5.size
      have o5 := own_later hown h5
      have R5 : Hid (Row w5 wa vs) := HROW.out.later h5
      have H5 : Below w1.heap.size w1 w5 := hb.trans (h5.mono (by omega))
      clear hown h5 hb HROW
      go_wp2_with (first | (at_builtin; refine wpList_append_own _ rfl _ _ 22 rfl w1.heap.size 25 i0 _ 3 32 Try.underlying22 hi hz0 hz1 hz2 rfl (by decide) _ _ _ rfl (o5.alloc _) ⟨w5.heap.size, 0, none⟩ 1 1 (vc [(1, 5, ⟨#[]⟩)]) rfl rfl ?c1 ?c2 ?c3 ?c4 ?c5 ?_))
      case c1 => exact cells_new w5 (1, 5, ⟨#[]⟩) _
      case c2 => exact vc_one _
      case c3 => unfold maxLen; omega
      case c4 => omega
      case c5 => simp; omega
      · intro v6 w6 o6 hgrow _
        have H6 : Below w1.heap.size w1 w6 := (H5.alloc (by omega) _).grown hgrow (by simp; omega) fun k hk => (hlt2 k hk).1
        have R6 : Hid (Row w6 wa vs) := (R5.out.alloc _).grown hgrow (fun b off e h => by
          have h1 := HFar.out b off e
          have h2 := (HLt.out b h.symm).2
          omega)
        have z6 := H6.size
        clear o6 hgrow o5 R5 H5 hlt2
        go_wp2_with fail
        refine (dec_any _ _ (by omega)).mono ?_; rintro e w7 ⟨l7, rfl, o7, h7⟩
        rw [HV.out] at o7
        rw [HE.out]
        obtain ⟨ma, mc, rfl, R7⟩ := Row.of_own o7
        have R67 := R6.out.later h7
        have z7 := h7.size
        have H7 : Below w1.heap.size w1 w7 := H6.trans (h7.mono z6)
        clear o7 h7 R6 H6
        go_wp2_with fail
        refine (same_any ma wa mc wc vs vs _ (by omega) R7 R67).mono ?_; rintro e w8 ⟨rfl, h8⟩
        rw [eqL_self]
        have H8 : Below w1.heap.size w1 w8 := H7.trans (h8.mono (by omega))
        clear h8 H7 R7 R67
        go_wp2
        go_ret
        exact ⟨rfl, h1.trans (H8.mono z1)⟩

set_option maxHeartbeats 2000000 in
set_option maxRecDepth 100000 in
theorem reads_law (s : ByteArray) (w : World) :
    Calls Try.prog 4 #[.string s] w fun e w' => e = .returned (.bool true) ∧ Below w.heap.size w w' := by
  by_cases hs : s.size ≤ 2147483647
  · exact reads_small s w hs
  · have hsi : (2147483647 : Int) < (s.size : Int) := by omega
    go_enter Try.func4, Try.ntmps4
    go_wp2
    go_ret
    exact ⟨rfl, by (repeat (first | exact Below.refl _ _ | assumption | refine Below.drew ?_ | refine below_drewN ?_ _ | refine Below.alloc ?_ (by first | omega | (simp; done) | (simp; omega)) _ | refine Below.setCell ?_ (by first | omega | (simp; done) | (simp; omega)) _ | refine Below.trans ?_ (Below.mono (by assumption) (by first | omega | (simp; done) | (simp; omega)))))⟩
end Go.Proofs.Ytfgpopkibjijgaa
