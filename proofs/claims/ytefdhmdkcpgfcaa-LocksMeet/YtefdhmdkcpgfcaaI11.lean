/- Walks of layer 19: the chapter's example. -/
import Derived.Test.YtefdhmdkcpgfcaaI10
import Derived.Test.YtefdhmdkcpgfcaaM191
namespace Go.Proofs.Ytefdhmdkcpgfcaa
open Go.RowKit
theorem four_of {w : World} {x : Nat} {a b c d : Value} {t : TypeId} (h : w.heap[x]? = some (.cells #[a, b, c, d] t (0, 0))) : (w.cell? ⟨x, 0, none⟩ = some a ∧ w.cell? ⟨x, 1, none⟩ = some b ∧ w.cell? ⟨x, 2, none⟩ = some c ∧ w.cell? ⟨x, 3, none⟩ = some d) ∧ w.frozen? ⟨x, 0, none⟩ = false ∧ w.frozen? ⟨x, 1, none⟩ = false ∧ w.frozen? ⟨x, 2, none⟩ = false ∧ w.frozen? ⟨x, 3, none⟩ = false := by
  simp [World.cell?, World.frozen?, h]
theorem lt_of_cell {w : World} {a : Addr} {v : Value} (h : w.cell? a = some v) : a.block < w.heap.size := by
  apply Classical.byContradiction
  intro hn
  rw [World.cell?, Array.getElem?_eq_none (by omega)] at h
  simp at h
/-- A row of one lock. -/
theorem one_lock {w : World} {b : Nat} (x : Lk) (h : w.heap[b]? = some (.cells (lkC x).toArray 23 (0, 0))) : RowR 4 LkR w (some ⟨b, 0, none⟩) [x] := by
  intro i hi
  have e : i = 0 := by simpa using hi
  subst e
  refine ⟨b, 0, lkC x, rfl, rfl, rfl, fun j hj => ?_⟩
  simp only [Nat.zero_mul, Nat.zero_add, World.cell?, h]
  simp [List.getElem?_eq_getElem hj]
theorem sz_t0 : Sz9 t90 := ⟨by simp [t90], by simp [t90], fun _ h => absurd h (by simp [t90]), fun _ h => absurd h (by simp [t90]), fun _ h => absurd h (by simp [t90]), fun i j hi => absurd hi (by simp [t90])⟩
theorem sz_t1 : Sz9 exT1 := by
  refine ⟨by simp [exT1], by simp [exT1], fun p h => ?_, fun p h => ?_, fun p h x hx => ?_, fun i j hi hj hij => ?_⟩
  · simp [exT1] at h; subst h; simp [exT1]
  · simp [exT1] at h; subst h; simp
  · simp [exT1] at h; subst h; simp at hx; subst hx; simp [lkW, ByteArray.size]
  · simp [exT1] at hi hj; omega
theorem sz_t2 : Sz9 exT2 := by
  refine ⟨by simp [exT2], by simp [exT2], fun p h => ?_, fun p h => ?_, fun p h x hx => ?_, fun i j hi hj hij => ?_⟩
  · simp [exT2] at h; rcases h with rfl | rfl <;> simp [exT2]
  · simp [exT2] at h; rcases h with rfl | rfl <;> simp
  · simp [exT2] at h; rcases h with rfl | rfl <;> (simp at hx; subst hx; simp [lkW, lkRd, ByteArray.size])
  · have hi2 : i < 2 := hi
    have hj2 : j < 2 := hj
    obtain rfl : i = 0 := by omega
    obtain rfl : j = 1 := by omega
    simp [exT2]
theorem sl_one (x : Lk) (h : x.lo.size ≤ 2147483647 ∧ x.hi.size ≤ 2147483647) : Sl9 [x] := ⟨by simp, fun y hy => by rw [List.mem_singleton.1 hy]; exact h⟩
theorem lkW_size : lkW.lo.size ≤ 2147483647 ∧ lkW.hi.size ≤ 2147483647 := by simp [lkW, ByteArray.size]
theorem lkRd_size : lkRd.lo.size ≤ 2147483647 ∧ lkRd.hi.size ≤ 2147483647 := by simp [lkRd, ByteArray.size]

set_option maxHeartbeats 16000000 in
set_option maxRecDepth 100000 in
theorem awake19_any {PT : Tm9} (hL : LocksIs PT) (w : World) : Calls Try.prog 7 #[] w fun e w' => e = .returned (.bool true) ∧ Below w.heap.size w w' := by
  have H := Lib.hid hL
  have c1 := Lib.hid (fun W => hL.conflict lkW lkRd W lkW_size.1 lkW_size.2 lkRd_size.1 lkRd_size.2)
  have c2 := Lib.hid (fun W => hL.conflict lkRd lkRd W lkRd_size.1 lkRd_size.2 lkRd_size.1 lkRd_size.2)
  have c3 := Lib.hid (fun W => hL.right lkW W lkW_size.1 lkW_size.2)
  rw [lkWR] at c1
  rw [lkRR] at c2
  rw [right_lkW] at c3
  simp only [lkW, lkRd, lkC] at c1 c2 c3
  clear hL
  go_enter Try.func7, Try.ntmps7
  go_wp2_with fail
  obtain ⟨W1, hW1⟩ : ∃ W, w.alloc (.cells #[.int .i64 0, .string ⟨#[97]⟩, .string ⟨#[98]⟩, .bool true] 23) = W := ⟨_, rfl⟩
  obtain ⟨W2, hW2⟩ : ∃ W, W1.alloc (.cells #[.int .i64 0, .string ⟨#[97]⟩, .string ⟨#[99]⟩, .bool false] 23) = W := ⟨_, rfl⟩
  have s1 : W1.heap.size = w.heap.size + 1 := hW1 ▸ World.size_alloc _ _
  have RA0 : Hid (W2.heap[w.heap.size]? = some (.cells #[.int .i64 0, .string ⟨#[97]⟩, .string ⟨#[98]⟩, .bool true] 23 (0, 0))) := Lib.hid (by rw [← hW2, alloc_low (by omega), ← hW1]; exact heap_alloc_new _ _)
  have RB0 : Hid (W2.heap[w.heap.size + 1]? = some (.cells #[.int .i64 0, .string ⟨#[97]⟩, .string ⟨#[99]⟩, .bool false] 23 (0, 0))) := Lib.hid (by rw [← hW2, ← s1]; exact heap_alloc_new _ _)
  have HB0 : Hid (Below w.heap.size w W2) := Lib.hid (by rw [← hW2, ← hW1]; exact ((Below.refl _ _).alloc (Nat.le_refl _) _).alloc (by simp) _)
  have S0 : Hid (w.heap.size + 2 ≤ W2.heap.size) := Lib.hid (by rw [← hW2, World.size_alloc]; omega)
  rw [hW1, hW2]
  clear hW1 hW2
  refine (c1.out _).mono ?_
  rintro e w3 ⟨rfl, hb⟩
  have HB1 := Lib.hid (HB0.out.trans (hb.mono HB0.out.size))
  have RA1 := Lib.hid ((hb.block _ (Array.getElem?_eq_some_iff.1 RA0.out).1).trans RA0.out)
  have RB1 := Lib.hid ((hb.block _ (Array.getElem?_eq_some_iff.1 RB0.out).1).trans RB0.out)
  have S1 : Hid (w.heap.size + 2 ≤ _) := Lib.hid (Nat.le_trans S0.out hb.size)
  clear hb RA0 RB0 HB0 S0 c1
  have z1a := four_of RA1.out
  have z1b := four_of RB1.out
  go_wp2_with fail
  clear z1a z1b
  refine (c2.out _).mono ?_
  rintro e w4 ⟨rfl, hb⟩
  have HB2 := Lib.hid (HB1.out.trans (hb.mono HB1.out.size))
  have RA2 := Lib.hid ((hb.block _ (Array.getElem?_eq_some_iff.1 RA1.out).1).trans RA1.out)
  have RB2 := Lib.hid ((hb.block _ (Array.getElem?_eq_some_iff.1 RB1.out).1).trans RB1.out)
  have S2 : Hid (w.heap.size + 2 ≤ _) := Lib.hid (Nat.le_trans S1.out hb.size)
  clear hb RA1 RB1 HB1 S1 c2
  have z2a := four_of RA2.out
  have z2b := four_of RB2.out
  go_wp2_with fail
  clear z2a z2b
  refine (c3.out _).mono ?_
  rintro e w5 ⟨rfl, hb⟩
  have HB3 := Lib.hid (HB2.out.trans (hb.mono HB2.out.size))
  have RA3 := Lib.hid ((hb.block _ (Array.getElem?_eq_some_iff.1 RA2.out).1).trans RA2.out)
  have RB3 := Lib.hid ((hb.block _ (Array.getElem?_eq_some_iff.1 RB2.out).1).trans RB2.out)
  have S3 : Hid (w.heap.size + 2 ≤ _) := Lib.hid (Nat.le_trans S2.out hb.size)
  clear hb RA2 RB2 HB2 S2 c3
  have z3a := four_of RA3.out
  have z3b := four_of RB3.out
  go_wp2_with fail
  clear z3a z3b
  refine (H.out.new _).mono ?_
  rintro e w6 ⟨t, rfl, hp, hb⟩
  have s6 := S3.out
  have HB4 := Lib.hid (HB3.out.trans (hb.mono HB3.out.size))
  have RA4 := Lib.hid ((hb.block _ (Array.getElem?_eq_some_iff.1 RA3.out).1).trans RA3.out)
  have RB4 := Lib.hid ((hb.block _ (Array.getElem?_eq_some_iff.1 RB3.out).1).trans RB3.out)
  have S4 : Hid (w.heap.size + 2 ≤ _) := Lib.hid (Nat.le_trans S3.out hb.size)
  have HP4 := Lib.hid hp
  have ZL4 : Hid (∀ g, (w5.heap.size ≤ g ∧ g < w6.heap.size) → w.heap.size + 2 ≤ g) := Lib.hid fun g hg => by omega
  clear hb hp s6 RA3 RB3 HB3
  have z4a := four_of RA4.out
  have z4b := four_of RB4.out
  go_wp2_with fail
  clear z4a z4b
  obtain ⟨V4, hV4⟩ : ∃ W, w6.alloc (.cells #[.int .i64 0, .string ⟨#[97]⟩, .string ⟨#[98]⟩, .bool true] 23) = W := ⟨_, rfl⟩
  have hb : Below w6.heap.size w6 V4 := hV4 ▸ (Below.refl _ _).alloc (Nat.le_refl _) _
  have hrow : RowR 4 LkR V4 (some ⟨w6.heap.size, 0, none⟩) [lkW] := hV4 ▸ one_lock lkW (heap_alloc_new _ _)
  rw [hV4]
  have HP := Lib.hid (H.out.later HP4.out hb)
  refine (H.out.ask t90 t _ _ 3 (some ⟨w6.heap.size, 0, none⟩) 1 [lkW] _ HP.out sz_t0 (by decide) (by decide) (by decide) hrow (sl_one _ lkW_size)).mono ?_
  rw [ask1.1, ask1.2]
  rintro e w7 ⟨rfl, ho, Z5, hp, hz⟩
  have hs0 := hb.size
  have ZL5 : Hid (∀ g, Z5 g → w.heap.size + 2 ≤ g) := Lib.hid fun g hg => by
    rcases hz g hg with q | q
    · exact ZL4.out g q
    · have := S4.out; omega
  have hlow : ∀ g, g < w.heap.size + 2 → w7.heap[g]? = w6.heap[g]? := fun g hg => (ho.block g (by have := S4.out; omega) fun q => by have := ZL4.out g q; omega).trans (hb.block g (by have := S4.out; omega))
  have HP5 := Lib.hid hp
  have HB5 : Hid (Below w.heap.size w w7) := Lib.hid ((HB4.out.trans (hb.mono HB4.out.size)).trans (ho.below (by have := S4.out; omega) fun g hg q => by have := ZL4.out g q; omega))
  have RA5 := Lib.hid ((hlow _ (by omega)).trans RA4.out)
  have RB5 := Lib.hid ((hlow _ (by omega)).trans RB4.out)
  have S5 : Hid (w.heap.size + 2 ≤ w7.heap.size) := Lib.hid (by have := S4.out; have := ho.size; omega)
  clear hb ho hp hz hs0 hlow HP RA4 RB4 HB4 HP4 ZL4 S4 hrow hV4
  have z5a := four_of RA5.out
  have z5b := four_of RB5.out
  go_wp2_with fail
  clear z5a z5b
  obtain ⟨V5, hV5⟩ : ∃ W, w7.alloc (.cells #[.int .i64 0, .string ⟨#[97]⟩, .string ⟨#[99]⟩, .bool false] 23) = W := ⟨_, rfl⟩
  have hb : Below w7.heap.size w7 V5 := hV5 ▸ (Below.refl _ _).alloc (Nat.le_refl _) _
  have hrow : RowR 4 LkR V5 (some ⟨w7.heap.size, 0, none⟩) [lkRd] := hV5 ▸ one_lock lkRd (heap_alloc_new _ _)
  rw [hV5]
  have HP := Lib.hid (H.out.later HP5.out hb)
  refine (H.out.ask exT1 t _ _ 5 (some ⟨w7.heap.size, 0, none⟩) 1 [lkRd] _ HP.out sz_t1 (by decide) (by decide) (by decide) hrow (sl_one _ lkRd_size)).mono ?_
  rw [ask2.1, ask2.2]
  rintro e w8 ⟨rfl, ho, Z6, hp, hz⟩
  have hs0 := hb.size
  have ZL6 : Hid (∀ g, Z6 g → w.heap.size + 2 ≤ g) := Lib.hid fun g hg => by
    rcases hz g hg with q | q
    · exact ZL5.out g q
    · have := S5.out; omega
  have hlow : ∀ g, g < w.heap.size + 2 → w8.heap[g]? = w7.heap[g]? := fun g hg => (ho.block g (by have := S5.out; omega) fun q => by have := ZL5.out g q; omega).trans (hb.block g (by have := S5.out; omega))
  have HP6 := Lib.hid hp
  have HB6 : Hid (Below w.heap.size w w8) := Lib.hid ((HB5.out.trans (hb.mono HB5.out.size)).trans (ho.below (by have := S5.out; omega) fun g hg q => by have := ZL5.out g q; omega))
  have RA6 := Lib.hid ((hlow _ (by omega)).trans RA5.out)
  have RB6 := Lib.hid ((hlow _ (by omega)).trans RB5.out)
  have S6 : Hid (w.heap.size + 2 ≤ w8.heap.size) := Lib.hid (by have := S5.out; have := ho.size; omega)
  clear hb ho hp hz hs0 hlow HP RA5 RB5 HB5 HP5 ZL5 S5 hrow hV5
  have z6a := four_of RA6.out
  have z6b := four_of RB6.out
  go_wp2_with fail
  clear z6a z6b
  have hb : Below w8.heap.size w8 w8 := Below.refl _ _
  have HP := HP6
  refine (H.out.ask exT2 t _ _ 4 none 0 [] _ HP.out sz_t2 (by decide) (by decide) (by decide) RowR.nil ⟨by simp, fun _ h => absurd h (by simp)⟩).mono ?_
  rw [ask3.1, ask3.2]
  rintro e w9 ⟨rfl, ho, Z7, hp, hz⟩
  have hs0 := hb.size
  have ZL7 : Hid (∀ g, Z7 g → w.heap.size + 2 ≤ g) := Lib.hid fun g hg => by
    rcases hz g hg with q | q
    · exact ZL6.out g q
    · have := S6.out; omega
  have hlow : ∀ g, g < w.heap.size + 2 → w9.heap[g]? = w8.heap[g]? := fun g hg => (ho.block g (by have := S6.out; omega) fun q => by have := ZL6.out g q; omega).trans (hb.block g (by have := S6.out; omega))
  have HP7 := Lib.hid hp
  have HB7 : Hid (Below w.heap.size w w9) := Lib.hid ((HB6.out.trans (hb.mono HB6.out.size)).trans (ho.below (by have := S6.out; omega) fun g hg q => by have := ZL6.out g q; omega))
  have RA7 := Lib.hid ((hlow _ (by omega)).trans RA6.out)
  have RB7 := Lib.hid ((hlow _ (by omega)).trans RB6.out)
  have S7 : Hid (w.heap.size + 2 ≤ w9.heap.size) := Lib.hid (by have := S6.out; have := ho.size; omega)
  clear hb ho hp hz hs0 hlow HP RA6 RB6 HB6 HP6 ZL6 S6
  have ZU : Hid (∀ g, Z7 g → g < w9.heap.size) := Lib.hid fun g hg => (H.out.lies HP7.out g hg).2
  have z7a := four_of RA7.out
  have z7b := four_of RB7.out
  go_wp2_with fail
  clear z7a z7b
  refine (H.out.ready exT2 t _ _ _ HP7.out sz_t2).mono ?_
  rintro e w10 ⟨vr, rfl, hor, hb⟩
  have HB8 := Lib.hid (HB7.out.trans (hb.mono HB7.out.size))
  have RA8 := Lib.hid ((hb.block _ (Array.getElem?_eq_some_iff.1 RA7.out).1).trans RA7.out)
  have RB8 := Lib.hid ((hb.block _ (Array.getElem?_eq_some_iff.1 RB7.out).1).trans RB7.out)
  have S8 : Hid (w.heap.size + 2 ≤ _) := Lib.hid (Nat.le_trans S7.out hb.size)
  rw [exReady] at hor
  obtain ⟨br, or_, vr0, er, hR, cr, gr⟩ : ∃ b off v0, vr = .slice (some ⟨b, off, none⟩) 1 (match vr with | .slice _ _ c => c | _ => 0) ∧ IntR 3 [v0] ∧ w10.cell? ⟨b, off, none⟩ = some v0 ∧ w9.heap.size ≤ b := by
    obtain ⟨p, cap, rfl, _⟩ := hor.form
    obtain ⟨b, off, v0, e, hR, hc⟩ := (hor.row (R' := IntR) fun _ _ h => h).at1 (i := 0) (by simp)
    subst e
    exact ⟨b, off, v0, rfl, hR, by simpa using hc, (hor.lt rfl).1⟩
  simp only [IntR, List.cons.injEq, and_true] at hR
  subst hR
  generalize (match vr with | .slice _ _ c => c | _ => 0) = capr at er
  subst er
  have CR0 := Lib.hid cr
  have GR := Lib.hid gr
  clear gr
  have h910 := hb.size
  have HP8 := Lib.hid (H.out.later HP7.out hb)
  clear hb hor cr HP7 RA7 RB7 HB7 S7
  have z8a := four_of RA8.out
  have z8b := four_of RB8.out
  go_wp2_with fail
  clear z8a z8b
  refine (H.out.waits exT2 t _ _ 5 _ HP8.out sz_t2 (by decide) (by decide)).mono ?_
  rintro e w11 ⟨vw, rfl, how, hb⟩
  have HB9 := Lib.hid (HB8.out.trans (hb.mono HB8.out.size))
  have RA9 := Lib.hid ((hb.block _ (Array.getElem?_eq_some_iff.1 RA8.out).1).trans RA8.out)
  have RB9 := Lib.hid ((hb.block _ (Array.getElem?_eq_some_iff.1 RB8.out).1).trans RB8.out)
  have S9 : Hid (w.heap.size + 2 ≤ _) := Lib.hid (Nat.le_trans S8.out hb.size)
  rw [exWaits] at how
  simp only [exWaits]
  obtain ⟨bw, ow, vw0, ew, hR, cw, gw⟩ : ∃ b off v0, vw = .slice (some ⟨b, off, none⟩) 1 (match vw with | .slice _ _ c => c | _ => 0) ∧ IntR 3 [v0] ∧ w11.cell? ⟨b, off, none⟩ = some v0 ∧ w10.heap.size ≤ b := by
    obtain ⟨p, cap, rfl, _⟩ := how.form
    obtain ⟨b, off, v0, e, hR, hc⟩ := (how.row (R' := IntR) fun _ _ h => h).at1 (i := 0) (by simp)
    subst e
    exact ⟨b, off, v0, rfl, hR, by simpa using hc, (how.lt rfl).1⟩
  simp only [IntR, List.cons.injEq, and_true] at hR
  subst hR
  generalize (match vw with | .slice _ _ c => c | _ => 0) = capw at ew
  subst ew
  have CW1 := Lib.hid cw
  have GW : Hid (w9.heap.size ≤ bw) := Lib.hid (Nat.le_trans h910 gw)
  clear gw h910
  have CR1 := Lib.hid (cell_later hb CR0.out)
  have HP9 := Lib.hid (H.out.later HP8.out hb)
  clear hb how cw CR0 HP8 RA8 RB8 HB8 S8
  have z9a := four_of RA9.out
  have z9b := four_of RB9.out
  go_wp2_with fail
  clear z9a z9b
  refine (H.out.release exT2 t _ _ 5 _ HP9.out sz_t2 (by decide) (by decide)).mono ?_
  rw [exFree]
  rintro e w12 ⟨rfl, ho, _⟩
  have HB : Hid (Below w.heap.size w w12) := Lib.hid (HB9.out.trans (ho.below (by have := S9.out; omega) fun g hg q => by have := ZL7.out g q; omega))
  have CR2 : w12.cell? ⟨br, or_, none⟩ = some (.int .i64 3) := by
    rw [← CR1.out]
    exact World.cell?_of_block (ho.block br (lt_of_cell CR1.out) fun q => by have := ZU.out _ q; have := GR.out; omega)
  have CW2 : w12.cell? ⟨bw, ow, none⟩ = some (.int .i64 3) := by
    rw [← CW1.out]
    exact World.cell?_of_block (ho.block bw (lt_of_cell CW1.out) fun q => by have := ZU.out _ q; have := GW.out; omega)
  go_wp2
  go_ret
  exact ⟨rfl, HB.out⟩
end Go.Proofs.Ytefdhmdkcpgfcaa
