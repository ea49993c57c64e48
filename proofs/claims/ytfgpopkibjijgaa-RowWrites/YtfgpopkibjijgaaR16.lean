/- The law RowWrites. -/
import Derived.Test.YtfgpopkibjijgaaR7
import Derived.Test.YtfgpopkibjijgaaR15
import Derived.Deep.RegionWith
import Derived.Lib.Hide
namespace Go.Proofs.Ytfgpopkibjijgaa
open Go.RowKit

/-- What is lent: values, a mark, an empty one. -/
def Lent (g : Nat) (us : List V3) (w : World) : Prop := Row w (some ⟨g, 0, none⟩) us ∧ w.cell? ⟨g, us.length * 3, none⟩ = some (.int .i64 1) ∧ w.cell? ⟨g, us.length * 3 + 1, none⟩ = some (.int .i64 77) ∧ w.cell? ⟨g, us.length * 3 + 2, none⟩ = some (.string ⟨#[]⟩) ∧ w.cell? ⟨g, (us.length + 1) * 3, none⟩ = some (.int .i64 0) ∧ w.cell? ⟨g, (us.length + 1) * 3 + 1, none⟩ = some (.int .i64 0) ∧ w.cell? ⟨g, (us.length + 1) * 3 + 2, none⟩ = some (.string ⟨#[]⟩)
theorem Lent.later {g : Nat} {us : List V3} {w w' : World} (h : Lent g us w) (hb : Below w.heap.size w w') : Lent g us w' := by
  obtain ⟨h1, a, b, c, d, e, f⟩ := h
  exact ⟨h1.later hb, cell_later hb a, cell_later hb b, cell_later hb c, cell_later hb d, cell_later hb e, cell_later hb f⟩

set_option maxHeartbeats 8000000 in
set_option maxRecDepth 100000 in
theorem writes_small (a : Option Addr) (cap : Nat) (us : List V3) (w : World) (hu : us.length ≤ 2147483647) (hr : Row w a us) :
    Calls Try.prog 3 #[.slice a us.length cap] w fun e w' => e = .returned (.bool true) ∧ Below w.heap.size w w' := by
  obtain ⟨i0, hi, hz0, hz1, hz2⟩ := info_parts Try.info23
  have HR : Hid (Row w a us) := hr
  clear hr
  have hui : ¬ (2147483647 : Int) < (us.length : Int) := by omega
  have i1 : (0 : Int) ≤ (us.length : Int) := by omega
  have i2 : (us.length : Int) < (us.length : Int) + 2 := by omega
  have i3 : (us.length : Int) ≤ (us.length : Int) + 2 := by omega
  have i4 : (us.length : Int) + 1 < (us.length : Int) + 2 := by omega
  have i5 : (0 : Int) ≤ (us.length : Int) + 1 := by omega
  have i6 : (us.length : Int) + 1 < ((us.length + 2 : Nat) : Int) := by omega
  have i7 : ((us.length : Int) + 1).toNat = us.length + 1 := by omega
  have i8 : IntKind.i64.wrap ((us.length : Int) + 1) = (us.length : Int) + 1 := by rw [IntKind.wrap_i64]; omega
  have i9 : (us.length : Int) < ((us.length + 2 : Nat) : Int) := by omega
  obtain ⟨N, hN⟩ : ∃ N, (wrR us).1 = N := ⟨_, rfl⟩
  obtain ⟨B, hB⟩ : ∃ B, (wrR us).2 = B := ⟨_, rfl⟩
  have hnv : wrV us = .tuple #[.string ⟨N.toArray⟩, .int .i64 B] := by unfold wrV; rw [hN, hB]
  have HNV : Hid (wrV us = .tuple #[.string ⟨N.toArray⟩, .int .i64 B]) := hnv
  have hsv : szV us = .tuple #[.int .i64 (N.length : Int), .int .i64 B] := by unfold szV; rw [hN, hB]
  have HSV : Hid (szV us = .tuple #[.int .i64 (N.length : Int), .int .i64 B]) := hsv
  obtain ⟨NL, hNL⟩ : ∃ NL, N.length = NL := ⟨_, rfl⟩
  rw [hNL] at HSV
  clear hN hB hnv hsv hNL
  go_enter Try.func3, Try.ntmps3
  go_wp2_with fail
  refine (awake_any _).mono ?_; rintro e w1 ⟨rfl, h1⟩
  have z1 := h1.size
  go_wp2_with (first | (at_make; refine wpList_make_full _ rfl _ _ 22 rfl w1.heap.size 25 i0 _ 3 Try.underlying22 hi hz0 hz1 .i64 .i64 _ _ (us.length + 2) rfl rfl ?h1 ?h2 ?h3 ?h4 ?h5 ?_))
  case h1 => omega
  case h2 => omega
  case h3 => rw [hz2]; omega
  case h4 => unfold maxLen; omega
  case h5 => exact Nat.le_refl _
  intro w2 hown2 hgrow2
  have M2 := made_of hown2
  have hb12 : Below w1.heap.size w1 w2 := (Below.refl _ _).grown hgrow2 (Nat.le_refl _) (fun k h => by cases h)
  have z2 := hb12.size
  have H2 : Below w.heap.size w w2 := h1.trans (hb12.mono z1)
  have R2 := HR.out.later H2
  have HM2 : Hid (Made w1.heap.size (us.length + 2) w2) := M2
  have HR2 : Hid (Row w2 a us) := R2
  clear hown2 hgrow2 M2 R2 h1
  go_wp2_with (first | (refine wpList_copy_wide rfl (.tmp 22) (.tmp 23) 22 22 rfl 25 3 Try.underlying22 (by rw [hi]; simp [*]) w1.heap.size 0 (us.length + 2) (us.length + 2) a us.length cap rfl rfl (vc us) (by omega) (vc_length us) HR2.out.cells (HM2.out.some (by omega)) (fun j _ => HM2.out.2.1 _) (vc_one us) ?_; intro w3 hw3; have HW3 : Hid (w3 = w2.setCells w1.heap.size 0 (vc us)) := hw3; clear hw3; refine Hid.out ?_))
  have hw3 := HW3.out
  have C3 : Copied w1.heap.size (us.length + 2) us w3 := by rw [hw3]; exact copied_of (by omega) HM2.out
  have hb23 : Below w1.heap.size w1 w3 := by rw [hw3]; exact bel_setCells _ (Nat.le_refl _) _ _ hb12
  have z3 := hb23.size
  have H3 : Below w.heap.size w w3 := H2.trans (by rw [hw3]; exact bel_setCells _ z1 _ _ (Below.refl _ _))
  have HC3 : Hid (Copied w1.heap.size (us.length + 2) us w3) := C3
  have y3 : w1.heap.size < w3.heap.size := C3.2.2.2
  obtain ⟨_, cz, cf, _⟩ := C3
  have a0 : w3.cell? ⟨w1.heap.size, us.length * 3, none⟩ = some (.int .i64 0) := by
    rw [cz _ (by omega) (by omega)]; unfold zero3; rw [show us.length * 3 % 3 = 0 by omega]; rfl
  have a1 : w3.cell? ⟨w1.heap.size, us.length * 3 + 1, none⟩ = some (.int .i64 0) := by
    rw [cz _ (by omega) (by omega)]; unfold zero3; rw [show (us.length * 3 + 1) % 3 = 1 by omega]; rfl
  have a2 : w3.cell? ⟨w1.heap.size, us.length * 3 + 2, none⟩ = some (.string ⟨#[]⟩) := by
    rw [cz _ (by omega) (by omega)]; unfold zero3; rw [show (us.length * 3 + 2) % 3 = 2 by omega]; rfl
  have a3 : w3.cell? ⟨w1.heap.size, (us.length + 1) * 3, none⟩ = some (.int .i64 0) := by
    rw [cz _ (by omega) (by omega)]; unfold zero3; rw [show (us.length + 1) * 3 % 3 = 0 by omega]; rfl
  have a4 : w3.cell? ⟨w1.heap.size, (us.length + 1) * 3 + 1, none⟩ = some (.int .i64 0) := by
    rw [cz _ (by omega) (by omega)]; unfold zero3; rw [show ((us.length + 1) * 3 + 1) % 3 = 1 by omega]; rfl
  have a5 : w3.cell? ⟨w1.heap.size, (us.length + 1) * 3 + 2, none⟩ = some (.string ⟨#[]⟩) := by
    rw [cz _ (by omega) (by omega)]; unfold zero3; rw [show ((us.length + 1) * 3 + 2) % 3 = 2 by omega]; rfl
  have HRow : Hid (Row w3 (some ⟨w1.heap.size, 0, none⟩) us) := HC3.out.1
  clear hw3 HW3 HM2 HR2 H2 z2 hb12 hb23 HC3 cz
  refine Lib.hid ?_
  go_wp2_with fail
  refine (num_exact _ _).mono ?_; rintro e w4' ⟨rfl, rfl⟩
  obtain ⟨w4, hw4⟩ : ∃ w4, ((w3.setCell ⟨w1.heap.size, us.length * 3, none⟩ (.int .i64 1)).setCell ⟨w1.heap.size, us.length * 3 + 1, none⟩ (.int .i64 77)).setCell ⟨w1.heap.size, us.length * 3 + 2, none⟩ (.string ⟨#[]⟩) = w4 := ⟨_, rfl⟩
  have b0 : w4.cell? ⟨w1.heap.size, us.length * 3, none⟩ = some (.int .i64 1) := by
    rw [← hw4, World.cell?_setCell_other _ _ _ _ (by simp), World.cell?_setCell_other _ _ _ _ (by simp)]
    exact World.cell?_setCell_same _ _ _ a0
  have b1 : w4.cell? ⟨w1.heap.size, us.length * 3 + 1, none⟩ = some (.int .i64 77) := by
    rw [← hw4, World.cell?_setCell_other _ _ _ _ (by simp)]
    exact World.cell?_setCell_same _ _ _ (by rw [World.cell?_setCell_other _ _ _ _ (by simp)]; exact a1)
  have b2 : w4.cell? ⟨w1.heap.size, us.length * 3 + 2, none⟩ = some (.string ⟨#[]⟩) := by
    rw [← hw4]
    exact World.cell?_setCell_same _ _ _ (by rw [World.cell?_setCell_other _ _ _ _ (by simp), World.cell?_setCell_other _ _ _ _ (by simp)]; exact a2)
  have b3 : w4.cell? ⟨w1.heap.size, (us.length + 1) * 3, none⟩ = some (.int .i64 0) := by
    rw [← hw4, World.cell?_setCell_other _ _ _ _ (by simp <;> omega), World.cell?_setCell_other _ _ _ _ (by simp <;> omega), World.cell?_setCell_other _ _ _ _ (by simp <;> omega)]
    exact a3
  have b4 : w4.cell? ⟨w1.heap.size, (us.length + 1) * 3 + 1, none⟩ = some (.int .i64 0) := by
    rw [← hw4, World.cell?_setCell_other _ _ _ _ (by simp <;> omega), World.cell?_setCell_other _ _ _ _ (by simp <;> omega), World.cell?_setCell_other _ _ _ _ (by simp <;> omega)]
    exact a4
  have b5 : w4.cell? ⟨w1.heap.size, (us.length + 1) * 3 + 2, none⟩ = some (.string ⟨#[]⟩) := by
    rw [← hw4, World.cell?_setCell_other _ _ _ _ (by simp <;> omega), World.cell?_setCell_other _ _ _ _ (by simp <;> omega), World.cell?_setCell_other _ _ _ _ (by simp <;> omega)]
    exact a5
  have HRow4 : Hid (Row w4 (some ⟨w1.heap.size, 0, none⟩) us) := by
    refine Row.of_cells ?_
    intro j u hj
    have hl := vc_length us
    have hlt := (List.getElem?_eq_some_iff.1 hj).1
    rw [← hw4, Nat.zero_add, World.cell?_setCell_other _ _ _ _ (by simp <;> omega), World.cell?_setCell_other _ _ _ _ (by simp <;> omega), World.cell?_setCell_other _ _ _ _ (by simp <;> omega)]
    obtain ⟨ad, e, hc⟩ := HRow.out.cells (by omega)
    obtain rfl : ad = ⟨w1.heap.size, 0, none⟩ := (Option.some.inj e).symm
    have := hc j u hj
    have hadd : (⟨w1.heap.size, 0, none⟩ : Addr).add j = ⟨w1.heap.size, j, none⟩ := by unfold Addr.add; split <;> simp_all
    rwa [hadd] at this
  have hz4 : w4.heap.size = w3.heap.size := by rw [← hw4]; simp
  have H4 : Below w.heap.size w w4 := by rw [← hw4]; exact ((H3.setCell (p := ⟨w1.heap.size, us.length * 3, none⟩) z1 _).setCell (p := ⟨w1.heap.size, us.length * 3 + 1, none⟩) z1 _).setCell (p := ⟨w1.heap.size, us.length * 3 + 2, none⟩) z1 _
  have HL4 : Hid (Lent w1.heap.size us (w4.alloc (.cells #[.int .i64 1, .int .i64 77, .string ⟨#[]⟩] 25))) := Lent.later ⟨HRow4.out, b0, b1, b2, b3, b4, b5⟩ ((Below.refl _ _).alloc (Nat.le_refl _) _)
  have H5 : Below w.heap.size w (w4.alloc (.cells #[.int .i64 1, .int .i64 77, .string ⟨#[]⟩] 25)) := H4.alloc (by omega) _
  have z5 := H5.size
  have HR5 : Hid (Row (w4.alloc (.cells #[.int .i64 1, .int .i64 77, .string ⟨#[]⟩] 25)) a us) := HR.out.later H5
  have ff : ∀ o, w3.frozen? ⟨w1.heap.size, o, none⟩ = false := cf
  have hsw4 : ((((w3.setCell ⟨w1.heap.size, us.length * 3, none⟩ (.int .i64 1)).setCell ⟨w1.heap.size, us.length * 3 + 1, none⟩ (.int .i64 77)).setCell ⟨w1.heap.size, us.length * 3 + 2, none⟩ (.string ⟨#[]⟩)).alloc (.cells #[.int .i64 1, .int .i64 77, .string ⟨#[]⟩] 25)) = w4.alloc (.cells #[.int .i64 1, .int .i64 77, .string ⟨#[]⟩] 25) := by rw [hw4]
  have HSW : Hid (((((w3.setCell ⟨w1.heap.size, us.length * 3, none⟩ (.int .i64 1)).setCell ⟨w1.heap.size, us.length * 3 + 1, none⟩ (.int .i64 77)).setCell ⟨w1.heap.size, us.length * 3 + 2, none⟩ (.string ⟨#[]⟩)).alloc (.cells #[.int .i64 1, .int .i64 77, .string ⟨#[]⟩] 25)) = w4.alloc (.cells #[.int .i64 1, .int .i64 77, .string ⟨#[]⟩] 25)) := hsw4
  clear hw4 hsw4 b0 b1 b2 b3 b4 b5 HRow4 HRow H4 hz4 a3 a4 a5 H3
  go_wp2_with fail
  rw [HSW.out]
  clear HSW
  generalize (w4.alloc (.cells #[.int .i64 1, .int .i64 77, .string ⟨#[]⟩] 25)) = w5 at *
  clear a0 a1 a2 ff cf
  refine (enc_any (some ⟨w1.heap.size, 0, none⟩) (us.length + 2) us _ (by omega) HL4.out.1).mono ?_; rintro e w6 ⟨rfl, h6⟩
  rw [HNV.out]
  have HL6 : Hid (Lent w1.heap.size us w6) := HL4.out.later h6
  have HR6 : Hid (Row w6 a us) := HR5.out.later h6
  have H6 : Below w.heap.size w w6 := H5.trans (h6.mono z5)
  have z6 := H6.size
  clear h6 HL4 HR5 H5 z5
  go_wp2_with fail
  refine (renc_any a cap us _ (by omega) HR6.out).mono ?_; rintro e w7 ⟨rfl, h7⟩
  rw [HNV.out]
  have HL7 : Hid (Lent w1.heap.size us w7) := HL6.out.later h7
  have HR7 : Hid (Row w7 a us) := HR6.out.later h7
  have H7 : Below w.heap.size w w7 := H6.trans (h7.mono z6)
  have z7 := H7.size
  clear h7 HL6 HR6 H6 z6
  go_wp2_with fail
  refine (size_any (some ⟨w1.heap.size, 0, none⟩) (us.length + 2) us _ (by omega) HL7.out.1).mono ?_; rintro e w7b ⟨rfl, h7b⟩
  rw [HSV.out]
  have HL7b : Hid (Lent w1.heap.size us w7b) := HL7.out.later h7b
  have HR7b : Hid (Row w7b a us) := HR7.out.later h7b
  have H7b : Below w.heap.size w w7b := H7.trans (h7b.mono z7)
  have z7b := H7b.size
  clear h7b HL7 HR7 H7 z7
  go_wp2_with fail
  refine (rsize_any a cap us _ (by omega) HR7b.out).mono ?_; rintro e w7c ⟨rfl, h7c⟩
  rw [HSV.out]
  have HL7 : Hid (Lent w1.heap.size us w7c) := HL7b.out.later h7c
  have HR7 : Hid (Row w7c a us) := HR7b.out.later h7c
  have H7 : Below w.heap.size w w7c := H7b.trans (h7c.mono z7b)
  have z7 := H7.size
  clear h7c HL7b HR7b H7b z7b
  go_wp2_with fail
  refine (same_any (some ⟨w1.heap.size, 0, none⟩) a (us.length + 2) cap us us _ (by omega) HL7.out.1 HR7.out).mono ?_; rintro e w8 ⟨rfl, h8⟩
  rw [eqL_self]
  have H8 : Below w.heap.size w w8 := H7.trans (h8.mono z7)
  obtain ⟨_, c0, c1, c2, c3, c4, c5⟩ := HL7.out.later h8
  have hg := cell_lt c0
  clear h8 HL7 HR7 H7 z7
  go_wp2
  go_region_held3 (fun w' => w'.cell? ⟨w1.heap.size, us.length * 3, none⟩ = some (.int .i64 1) ∧ w'.cell? ⟨w1.heap.size, us.length * 3 + 1, none⟩ = some (.int .i64 77) ∧ w'.cell? ⟨w1.heap.size, us.length * 3 + 2, none⟩ = some (.string ⟨#[]⟩) ∧ w'.cell? ⟨w1.heap.size, (us.length + 1) * 3, none⟩ = some (.int .i64 0) ∧ w'.cell? ⟨w1.heap.size, (us.length + 1) * 3 + 1, none⟩ = some (.int .i64 0) ∧ w'.cell? ⟨w1.heap.size, (us.length + 1) * 3 + 2, none⟩ = some (.string ⟨#[]⟩)) (go_simp)
    (first | (go_at_call 7; refine (num_exact _ _).mono ?_; rintro e w' ⟨rfl, rfl⟩))
  go_wp2
  go_ret
  exact ⟨rfl, by (repeat (first | exact Below.refl _ _ | assumption | refine Below.drew ?_ | refine below_drewN ?_ _ | refine Below.alloc ?_ (by first | omega | (simp; done) | (simp; omega)) _ | refine Below.setCell ?_ (by first | omega | (simp; done) | (simp; omega)) _ | refine Below.trans ?_ (Below.mono (by assumption) (by first | omega | (simp; done) | (simp; omega)))))⟩

set_option maxHeartbeats 2000000 in
set_option maxRecDepth 100000 in
theorem writes_law (a : Option Addr) (cap : Nat) (us : List V3) (w : World) (hr : Row w a us) :
    Calls Try.prog 3 #[.slice a us.length cap] w fun e w' => e = .returned (.bool true) ∧ Below w.heap.size w w' := by
  by_cases hu : us.length ≤ 2147483647
  · exact writes_small a cap us w hu hr
  · have hui : (2147483647 : Int) < (us.length : Int) := by omega
    go_enter Try.func3, Try.ntmps3
    go_wp2
    go_ret
    exact ⟨rfl, by (repeat (first | exact Below.refl _ _ | assumption | refine Below.drew ?_ | refine below_drewN ?_ _ | refine Below.alloc ?_ (by first | omega | (simp; done) | (simp; omega)) _ | refine Below.setCell ?_ (by first | omega | (simp; done) | (simp; omega)) _ | refine Below.trans ?_ (Below.mono (by assumption) (by first | omega | (simp; done) | (simp; omega)))))⟩
end Go.Proofs.Ytfgpopkibjijgaa
