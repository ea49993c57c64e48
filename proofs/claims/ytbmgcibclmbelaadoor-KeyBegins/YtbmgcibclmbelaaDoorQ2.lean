/- The law KeyOrders. -/
import Derived.Test.YtbmgcibclmbelaaDoorK17
import Derived.Deep.RegionWith
namespace Go.Proofs.YtbmgcibclmbelaaDoor
open Go.RowKit

theorem Row.drew {w : World} {a : Option Addr} {vs : List V3} (h : Row w a vs) : Row w.drew a vs := h
theorem eqL_self (us : List V3) : eqL us us = true := eqL_iff.2 rfl

set_option maxHeartbeats 8000000 in
set_option maxRecDepth 100000 in
theorem orders_small (a a' : Option Addr) (cap cap' : Nat) (us vs : List V3) (s : ByteArray) (w : World) (hu : us.length ≤ 2147483647) (hv : vs.length ≤ 2147483647) (hs : s.size ≤ 2147483647) (hr : Row w a us) (hr' : Row w a' vs) (h0 : 0 < w.heap.size) (hm : ML w) :
    Calls Tryd.prog 5 #[.slice a us.length cap, .slice a' vs.length cap', .string s] w fun e w' => e = .returned (.bool true) ∧ Below w.heap.size w w' := by
  obtain ⟨i0, hi, hz0, hz1, hz2⟩ := info_parts Tryd.info23
  have HR : Hid (Row w a us) := hr
  have HR' : Hid (Row w a' vs) := hr'
  clear hr hr'
  have hui : ¬ (2147483647 : Int) < (us.length : Int) := by omega
  have hvi : ¬ (2147483647 : Int) < (vs.length : Int) := by omega
  have hsi : ¬ (2147483647 : Int) < (s.size : Int) := by omega
  have i1 : (0 : Int) ≤ (us.length : Int) := by omega
  have i2 : (us.length : Int) ≤ (us.length : Int) + 1 := by omega
  have i3 : (0 : Int) ≤ (vs.length : Int) := by omega
  have i4 : (vs.length : Int) ≤ (vs.length : Int) + 1 := by omega
  obtain ⟨N, hN⟩ : ∃ N, (nxt s.data.toList).1 = N := ⟨_, rfl⟩
  obtain ⟨B, hB⟩ : ∃ B, (nxt s.data.toList).2 = B := ⟨_, rfl⟩
  have hnv : nxtV s = .tuple #[.string ⟨N.toArray⟩, .bool B] := by unfold nxtV; rw [hN, hB]
  have HNV : Hid (nxtV s = .tuple #[.string ⟨N.toArray⟩, .bool B]) := hnv
  obtain ⟨O, hO⟩ : ∃ O, ordL us vs = O := ⟨_, rfl⟩
  have HO : Hid (ordL us vs = O) := hO
  clear hN hB hnv hO
  go_enter Tryd.func5, Tryd.ntmps5
  go_wp2_with fail
  refine (kawake_any _ h0 hm).mono ?_; rintro e w1 ⟨rfl, h1⟩
  have z1 := h1.size
  go_wp2_with (first | (at_make; refine wpList_make_full _ rfl _ _ 22 rfl w1.heap.size 25 i0 _ 3 Tryd.underlying22 hi hz0 hz1 .i64 .i64 _ _ (us.length + 1) rfl rfl ?h1 ?h2 ?h3 ?h4 ?h5 ?_))
  case h1 => omega
  case h2 => omega
  case h3 => rw [hz2]; omega
  case h4 => unfold maxLen; omega
  case h5 => exact Nat.le_refl _
  intro w2 hown2 hgrow2
  have M2 := made_of hown2
  have hb12 : Below w1.heap.size w1 w2 := (Below.refl _ _).grown hgrow2 (Nat.le_refl _) (fun k h => by cases h)
  have z2 := hb12.size
  have H2 : Below w.heap.size w w2 := h1.trans (hb12.mono z1)
  have R2 := HR.out.later H2
  have HM2 : Hid (Made w1.heap.size (us.length + 1) w2) := M2
  have HR2 : Hid (Row w2 a us) := R2
  clear hown2 hgrow2 M2 R2 h1
  go_wp2_with (first | (refine wpList_copy_wide rfl (.tmp 36) (.tmp 37) 22 22 rfl 25 3 Tryd.underlying22 (by rw [hi]; simp [*]) w1.heap.size 0 (us.length + 1) (us.length + 1) a us.length cap rfl rfl (vc us) (by omega) (vc_length us) HR2.out.cells (HM2.out.some (by omega)) (fun j _ => HM2.out.2.1 _) (vc_one us) ?_; intro w3 hw3; have HW3 : Hid (w3 = w2.setCells w1.heap.size 0 (vc us)) := hw3; clear hw3; refine Hid.out ?_))
  have hw3 := HW3.out
  have C3 : Copied w1.heap.size (us.length + 1) us w3 := by rw [hw3]; exact copied_of (by omega) HM2.out
  have hb23 : Below w1.heap.size w1 w3 := by rw [hw3]; exact bel_setCells _ (Nat.le_refl _) _ _ hb12
  have z3 := hb23.size
  have H3 : Below w.heap.size w w3 := H2.trans (by rw [hw3]; exact bel_setCells _ z1 _ _ (Below.refl _ _))
  have HC3 : Hid (Copied w1.heap.size (us.length + 1) us w3) := C3
  have y3 : w1.heap.size < w3.heap.size := C3.2.2.2
  clear hw3 HW3 C3 HM2 HR2 H2 z2 hb12 hb23
  refine Lib.hid ?_
  go_wp2_with (first | (at_make; refine wpList_make_full _ rfl _ _ 22 rfl w3.heap.size 25 i0 _ 3 Tryd.underlying22 hi hz0 hz1 .i64 .i64 _ _ (vs.length + 1) rfl rfl ?h1 ?h2 ?h3 ?h4 ?h5 ?_))
  case h1 => omega
  case h2 => omega
  case h3 => rw [hz2]; omega
  case h4 => unfold maxLen; omega
  case h5 => exact Nat.le_refl _
  intro w4 hown4 hgrow4
  have M4 := made_of hown4
  have hb34 : Below w3.heap.size w3 w4 := (Below.refl _ _).grown hgrow4 (Nat.le_refl _) (fun k h => by cases h)
  have z4 := hb34.size
  have H4 : Below w.heap.size w w4 := H3.trans (hb34.mono (by omega))
  have R4 := HR'.out.later H4
  have HM4 : Hid (Made w3.heap.size (vs.length + 1) w4) := M4
  have HR4 : Hid (Row w4 a' vs) := R4
  clear hown4 hgrow4 M4 R4
  go_wp2_with (first | (refine wpList_copy_wide rfl (.tmp 43) (.tmp 44) 22 22 rfl 25 3 Tryd.underlying22 (by rw [hi]; simp [*]) w3.heap.size 0 (vs.length + 1) (vs.length + 1) a' vs.length cap' rfl rfl (vc vs) (by omega) (vc_length vs) HR4.out.cells (HM4.out.some (by omega)) (fun j _ => HM4.out.2.1 _) (vc_one vs) ?_; intro w5 hw5; have HW5 : Hid (w5 = w4.setCells w3.heap.size 0 (vc vs)) := hw5; clear hw5; refine Hid.out ?_))
  have hw5 := HW5.out
  have C5 : Copied w3.heap.size (vs.length + 1) vs w5 := by rw [hw5]; exact copied_of (by omega) HM4.out
  have hb45 : Below w3.heap.size w3 w5 := by rw [hw5]; exact bel_setCells _ (Nat.le_refl _) _ _ hb34
  have H5 : Below w.heap.size w w5 := H3.trans (hb45.mono (by omega))
  have HC5 : Hid (Copied w3.heap.size (vs.length + 1) vs w5) := C5
  have HC35 : Hid (Copied w1.heap.size (us.length + 1) us w5) := HC3.out.later hb45
  have z5 := H5.size
  have HRa : Hid (Row w5 a us) := HR.out.later H5
  have HRb : Hid (Row w5 a' vs) := HR'.out.later H5
  clear hw5 HW5 C5 HM4 HR4 H4 z4 hb34 hb45 HC3 H3 z3 y3
  refine Lib.hid ?_
  go_wp2
  go_region_with (first | (go_at_call 16; refine (kord_any (some ⟨w1.heap.size, 0, none⟩) (some ⟨w3.heap.size, 0, none⟩) (us.length + 1) (vs.length + 1) us vs w5.drew (by omega) (by omega) (Row.drew HC35.out.1) (Row.drew HC5.out.1)).mono ?_; rintro e w6 ⟨rfl, h6⟩; rw [HO.out]))
  have h56 : Below w5.heap.size w5 w6 := ((Below.refl _ _).drew).trans h6
  have C6 : Hid (Copied w1.heap.size (us.length + 1) us w6) := HC35.out.later h56
  have D6 : Hid (Copied w3.heap.size (vs.length + 1) vs w6) := HC5.out.later h56
  have Ra6 : Hid (Row w6 a us) := HRa.out.later h56
  have Rb6 : Hid (Row w6 a' vs) := HRb.out.later h56
  have H6 : Below w.heap.size w w6 := H5.trans (h56.mono z5)
  have z6 := H6.size
  clear h6 h56 HC35 HC5 HRa HRb H5 z5
  go_wp2_with fail
  refine (rord_any a a' cap cap' us vs _ (by omega) (by omega) Ra6.out Rb6.out).mono ?_; rintro e w7 ⟨rfl, h7⟩
  rw [HO.out]
  have C7 : Hid (Copied w1.heap.size (us.length + 1) us w7) := C6.out.later h7
  have D7 : Hid (Copied w3.heap.size (vs.length + 1) vs w7) := D6.out.later h7
  have Ra7 : Hid (Row w7 a us) := Ra6.out.later h7
  have Rb7 : Hid (Row w7 a' vs) := Rb6.out.later h7
  have H7 : Below w.heap.size w w7 := H6.trans (h7.mono z6)
  have z7 := H7.size
  clear h7 C6 D6 Ra6 Rb6 H6 z6
  go_wp2_with fail
  refine (same_any (some ⟨w1.heap.size, 0, none⟩) a (us.length + 1) cap us us _ (by omega) C7.out.1 Ra7.out).mono ?_; rintro e w8 ⟨rfl, h8⟩
  rw [eqL_self]
  have D8 : Hid (Copied w3.heap.size (vs.length + 1) vs w8) := D7.out.later h8
  have Rb8 : Hid (Row w8 a' vs) := Rb7.out.later h8
  have H8 : Below w.heap.size w w8 := H7.trans (h8.mono z7)
  have z8 := H8.size
  clear h8 C7 D7 Ra7 Rb7 H7 z7
  go_wp2_with fail
  refine (same_any (some ⟨w3.heap.size, 0, none⟩) a' (vs.length + 1) cap' vs vs _ (by omega) D8.out.1 Rb8.out).mono ?_; rintro e w9 ⟨rfl, h9⟩
  rw [eqL_self]
  have H9 : Below w.heap.size w w9 := H8.trans (h9.mono z8)
  have z9 := H9.size
  clear h9 D8 Rb8 H8 z8
  go_wp2_with fail
  refine (knext_any _ _ (by omega)).mono ?_; rintro e w10 ⟨rfl, h10⟩
  rw [HNV.out]
  have H10 : Below w.heap.size w w10 := H9.trans (h10.mono z9)
  have z10 := H10.size
  clear h10 H9 z9
  go_wp2_with fail
  refine (rnext_any _ _ (by omega)).mono ?_; rintro e w11 ⟨rfl, h11⟩
  rw [HNV.out]
  have H11 : Below w.heap.size w w11 := H10.trans (h11.mono z10)
  clear h11 H10 z10
  go_wp2
  go_ret
  exact ⟨rfl, H11⟩

set_option maxHeartbeats 2000000 in
set_option maxRecDepth 100000 in
theorem orders_law (a : Option Addr) (cap : Nat) (us : List V3) (a' : Option Addr) (cap' : Nat) (vs : List V3) (s : ByteArray) (w : World) (hr : Row w a us) (hr' : Row w a' vs) (h0 : 0 < w.heap.size) (hm : ML w) :
    Calls Tryd.prog 5 #[.slice a us.length cap, .slice a' vs.length cap', .string s] w fun e w' => e = .returned (.bool true) ∧ Below w.heap.size w w' := by
  by_cases hu : us.length ≤ 2147483647
  · by_cases hv : vs.length ≤ 2147483647
    · by_cases hs : s.size ≤ 2147483647
      · exact orders_small a a' cap cap' us vs s w hu hv hs hr hr' h0 hm
      · have hui : ¬ (2147483647 : Int) < (us.length : Int) := by omega
        have hvi : ¬ (2147483647 : Int) < (vs.length : Int) := by omega
        have hsi : (2147483647 : Int) < (s.size : Int) := by omega
        go_enter Tryd.func5, Tryd.ntmps5
        go_wp2
        go_ret
        exact ⟨rfl, by (repeat (first | exact Below.refl _ _ | assumption | refine Below.drew ?_ | refine below_drewN ?_ _ | refine Below.alloc ?_ (by first | omega | (simp; done) | (simp; omega)) _ | refine Below.setCell ?_ (by first | omega | (simp; done) | (simp; omega)) _ | refine Below.trans ?_ (Below.mono (by assumption) (by first | omega | (simp; done) | (simp; omega)))))⟩
    · have hui : ¬ (2147483647 : Int) < (us.length : Int) := by omega
      have hvi : (2147483647 : Int) < (vs.length : Int) := by omega
      go_enter Tryd.func5, Tryd.ntmps5
      go_wp2
      go_ret
      exact ⟨rfl, by (repeat (first | exact Below.refl _ _ | assumption | refine Below.drew ?_ | refine below_drewN ?_ _ | refine Below.alloc ?_ (by first | omega | (simp; done) | (simp; omega)) _ | refine Below.setCell ?_ (by first | omega | (simp; done) | (simp; omega)) _ | refine Below.trans ?_ (Below.mono (by assumption) (by first | omega | (simp; done) | (simp; omega)))))⟩
  · have hui : (2147483647 : Int) < (us.length : Int) := by omega
    go_enter Tryd.func5, Tryd.ntmps5
    go_wp2
    go_ret
    exact ⟨rfl, by (repeat (first | exact Below.refl _ _ | assumption | refine Below.drew ?_ | refine below_drewN ?_ _ | refine Below.alloc ?_ (by first | omega | (simp; done) | (simp; omega)) _ | refine Below.setCell ?_ (by first | omega | (simp; done) | (simp; omega)) _ | refine Below.trans ?_ (Below.mono (by assumption) (by first | omega | (simp; done) | (simp; omega)))))⟩
end Go.Proofs.YtbmgcibclmbelaaDoor
