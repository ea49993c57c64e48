/- Walks of layer 6, fourteenth part: the statements' first calls (awake). -/
import Derived.Test.YteanhkdnakmggaaGreatDoorJ13
import Derived.Test.YteanhkdnakmggaaGreatDoorJ7
import Derived.Test.YteanhkdnakmggaaGreatDoorM64
namespace Go.Proofs.YteanhkdnakmggaaGreatDoor
open Go.RowKit

theorem zone_new {w w1 : World} (h : w.heap.size ≤ w1.heap.size) : ∀ k, w1.heap.size ≤ k → (fun k => w.heap.size ≤ k) k := fun _ hk => Nat.le_trans h hk
theorem Only.zone {w w1 w2 : World} (hb : Below w.heap.size w w1) (ho : Only (fun k => w.heap.size ≤ k) w1 w2) : Below w.heap.size w w2 := hb.trans (ho.below hb.size (fun _ hk h => by omega))
theorem new_a0 : newE 1000 [] = 0 ∧ newSt 1000 [] = a0 := ⟨by decide, rfl⟩
theorem IsLog.all {B : Nat} {w : World} {X : Nat → Prop} {l a : Nat} {st : St} {g : Lg} (h : IsLog B w X l a st g) : ∃ Y Z p cap es, LogAt w Y l a g p cap es ∧ LgW g ∧ IsDisk w Z a st := by
  obtain ⟨p, cap, es, _, _, _, hg, Z, Y, k1, k2, _⟩ := h
  exact ⟨Y, Z, p, cap, es, k2, hg, k1⟩

set_option maxHeartbeats 8000000 in
set_option maxRecDepth 100000 in
theorem awake_any (B : Nat) (w : World) (hB : B ≤ w.heap.size) (hV : SV B w) : Calls Tryz.prog 8 #[] w fun e w' => e = .returned (.bool true) ∧ Below w.heap.size w w' := by
  have HB : Hid (B ≤ w.heap.size) := hB
  have HV : Hid (SV B w) := hV
  clear hB hV
  obtain ⟨st1, hst1⟩ : ∃ st1, st1 = q1.2.1 := ⟨_, rfl⟩
  obtain ⟨g1, hg1⟩ : ∃ g1, g1 = q1.2.2 := ⟨_, rfl⟩
  obtain ⟨st2, hst2⟩ : ∃ st2, st2 = q2.2.1 := ⟨_, rfl⟩
  obtain ⟨g2, hg2⟩ : ∃ g2, g2 = q2.2.2 := ⟨_, rfl⟩
  obtain ⟨st3, hst3⟩ : ∃ st3, st3 = q3.2.1 := ⟨_, rfl⟩
  obtain ⟨g3, hg3⟩ : ∃ g3, g3 = q3.2.2 := ⟨_, rfl⟩
  have HQ1 : Hid (appendL a0 l0 [97] = ((5, 0), st1, g1)) := by
    have : appendL a0 l0 [97] = ((5, 0), st1, g1) := by rw [hst1, hg1, ← aw_1.1]; rfl
    exact this
  have HQ2 : Hid (appendL st1 g1 [98] = ((6, 0), st2, g2)) := by
    have : appendL st1 g1 [98] = ((6, 0), st2, g2) := by rw [hst1, hg1, hst2, hg2, ← aw_2.1]; rfl
    exact this
  have HQ3 : Hid (appendL st2 g2 [99] = ((7, 0), st3, g3)) := by
    have : appendL st2 g2 [99] = ((7, 0), st3, g3) := by rw [hst2, hg2, hst3, hg3, ← aw_3.1]; rfl
    exact this
  have HS1 : Hid (st1.steps = 1 ∧ g1.segs.isEmpty = false) := by rw [hst1, hg1]; exact aw_1.2
  have HS2 : Hid (st2.steps = 2 ∧ g2.segs.isEmpty = false) := by rw [hst2, hg2]; exact aw_2.2
  have HS3 : Hid (g3.safe = 7 ∧ g3.next = 8) := by rw [hg3]; exact aw_3.2
  have HR6 : Hid (readL g3 6 = ([98], 0)) := by rw [hg3]; exact aw_r6
  have HR8 : Hid (readL g3 8 = ([], 61)) := by rw [hg3]; exact aw_r8
  have HF3 : Hid (st3.fs = [([108, 111, 103, 46, 48, 48, 48, 48, 48, 48, 48, 48, 48, 48, 48, 53], (cat [[97], [98]], 14)), ([108, 111, 103, 46, 48, 48, 48, 48, 48, 48, 48, 48, 48, 48, 48, 55], (cat [[99]], 0))]) := by rw [hst3]; exact aw_fs
  clear hst1 hg1 hst2 hg2 hst3 hg3
  go_enter Tryz.func8, Tryz.ntmps8
  go_wp2_with fail
  refine (new_any 1000 none 0 [] w (by simp) (by simp) (FRow.nil _ _)).mono ?_
  rintro e w1 ⟨hb1, hN⟩
  rcases hN with ⟨hN, _⟩ | ⟨_, a, rfl, hi1⟩
  · exact absurd new_a0.1 hN
  rw [new_a0.2] at hi1
  have HB1 : Hid (Below w.heap.size w w1) := hb1
  have HI1 : Hid (IsDisk w1 (fun k => w.heap.size ≤ k) a a0) := hi1
  clear hb1 hi1
  go_wp2_with fail
  refine (open_any B w1 (fun k => w.heap.size ≤ k) a a0 (Nat.le_trans HB.out HB1.out.size) (HV.out.later HB.out HB1.out) (fun k hk => Nat.le_trans HB.out hk) (zone_new HB1.out.size) HI1.out (by decide) 5 2).mono ?_
  rw [aw_open]
  rintro e w2 ⟨ho2, hcase⟩
  rcases hcase with ⟨h0, _⟩ | ⟨l, g, hg, rfl, hi2⟩
  · cases h0
  obtain rfl : l0 = g := by simpa using hg
  have HB2 : Hid (Below w.heap.size w w2) := ho2.zone HB1.out
  have HI2 : Hid (IsLog B w2 (fun k => w.heap.size ≤ k) l a a0 l0) := hi2
  clear ho2 hi2 hg
  go_wp2_with fail
  refine (lappend_any B w2 _ l a a0 l0 HI2.out (fun _ => rfl) (zone_new HB2.out.size) (by decide) ⟨#[97]⟩ (by decide)).mono ?_
  rw [show (⟨#[97]⟩ : ByteArray).data.toList = [97] from rfl, HQ1.out]
  rintro e w3 ⟨rfl, hi3, ho3⟩
  simp only at hi3
  have HB3 : Hid (Below w.heap.size w w3) := ho3.zone HB2.out
  have HI3 : Hid (IsLog B w3 (fun k => w.heap.size ≤ k) l a st1 g1) := hi3
  simp only [appV]
  clear ho3 hi3
  go_wp2_with fail
  refine (lappend_any B w3 _ l a st1 g1 HI3.out (ne_of_empty HS1.out.2) (zone_new HB3.out.size) (by rw [HS1.out.1]; decide) ⟨#[98]⟩ (by decide)).mono ?_
  rw [show (⟨#[98]⟩ : ByteArray).data.toList = [98] from rfl, HQ2.out]
  rintro e w4 ⟨rfl, hi4, ho4⟩
  simp only at hi4
  have HB4 : Hid (Below w.heap.size w w4) := ho4.zone HB3.out
  have HI4 : Hid (IsLog B w4 (fun k => w.heap.size ≤ k) l a st2 g2) := hi4
  simp only [appV]
  clear ho4 hi4
  go_wp2_with fail
  refine (lappend_any B w4 _ l a st2 g2 HI4.out (ne_of_empty HS2.out.2) (zone_new HB4.out.size) (by rw [HS2.out.1]; decide) ⟨#[99]⟩ (by decide)).mono ?_
  rw [show (⟨#[99]⟩ : ByteArray).data.toList = [99] from rfl, HQ3.out]
  rintro e w5 ⟨rfl, hi5, ho5⟩
  simp only at hi5
  have HB5 : Hid (Below w.heap.size w w5) := ho5.zone HB4.out
  obtain ⟨Y, Z, p, cap, es, hL, hg, hD⟩ := hi5.all
  have HL : Hid (LogAt w5 Y l a g3 p cap es) := hL
  have HG : Hid (LgW g3) := hg
  have HD : Hid (IsDisk w5 Z a st3) := hD
  simp only [appV]
  clear ho5 hi5 hL hg hD
  go_wp2_with fail
  refine (safe_any _ Y l a g3 p cap es HL.out).mono ?_
  rintro e w6 ⟨rfl, hb6⟩
  rw [HS3.out.1]
  have HB6 : Hid (Below w5.heap.size w5 w6) := hb6
  clear hb6
  go_wp2_with fail
  refine (next_any _ Y l a g3 p cap es (HL.out.later HB6.out) HG.out).mono ?_
  rintro e w7 ⟨rfl, hb7⟩
  rw [HS3.out.2]
  have HB7 : Hid (Below w5.heap.size w5 w7) := HB6.out.trans (hb7.mono HB6.out.size)
  clear hb7
  go_wp2_with fail
  refine (lread_any _ Y l a g3 p cap es (HL.out.later HB7.out) HG.out 6).mono ?_
  rintro e w8 ⟨rfl, hb8⟩
  rw [HR6.out]
  have HB8 : Hid (Below w5.heap.size w5 w8) := HB7.out.trans (hb8.mono HB7.out.size)
  simp only [readV]
  clear hb8
  go_wp2_with fail
  refine (lread_any _ Y l a g3 p cap es (HL.out.later HB8.out) HG.out 8).mono ?_
  rintro e w9 ⟨rfl, hb9⟩
  rw [HR8.out]
  have HB9 : Hid (Below w5.heap.size w5 w9) := HB8.out.trans (hb9.mono HB8.out.size)
  simp only [readV]
  clear hb9
  go_wp2_with fail
  refine (files_any w9 Z a st3 (HD.out.later HB9.out)).mono ?_
  rintro e w10 ⟨v, rfl, hf, hb10⟩
  have HB10 : Hid (Below w5.heap.size w5 w10) := HB9.out.trans (hb10.mono HB9.out.size)
  rw [HF3.out] at hf
  obtain ⟨b, cp, rfl, _, _⟩ := hf.form (by decide)
  have hc := hf.cells (g := b) rfl
  have f0 := hc 0 _ rfl
  have f2 := hc 2 _ rfl
  have f5 := hc 5 _ rfl
  rw [Addr.add_lit, Nat.zero_add] at f0 f2 f5
  clear hf hc hb10
  go_wp2
  go_ret
  exact ⟨rfl, HB5.out.trans (HB10.out.mono HB5.out.size)⟩
end Go.Proofs.YteanhkdnakmggaaGreatDoor
