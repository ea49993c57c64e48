/- The law RowBack. -/
import Derived.Test.YtfgpopkibjijgaaR15
import Derived.Test.YtfgpopkibjijgaaR6
namespace Go.Proofs.Ytfgpopkibjijgaa
open Go.RowKit

theorem begins_ext {s t : ByteArray} (h : s.data.toList <+: t.data.toList) : s.size ≤ t.size ∧ t.extract 0 s.size = s := by
  have hl := h.length_le
  simp at hl
  refine ⟨hl, ba_ext ?_⟩
  obtain ⟨r, e⟩ := h
  simp
  rw [← e]
  exact List.take_left' (by simp)
theorem begins_not {s t : ByteArray} (h : ¬ s.data.toList <+: t.data.toList) : ¬ s.size ≤ t.size ∨ (s.size ≤ t.size ∧ ((t.extract 0 s.size).toList == s.toList) = false) := by
  by_cases hl : s.size ≤ t.size
  · right
    refine ⟨hl, ?_⟩
    rw [beq_eq_false_iff_ne, ByteArray.toList_eq, ByteArray.toList_eq]
    intro e
    apply h
    rw [← e]
    simp
    exact List.take_prefix _ _
  · exact Or.inl hl

/-- Whether one row's bytes begin another's: just if they are alike. -/
theorem begins_alike {us vs : List V3} (hu : RowOf (rowB us) us) (hv : RowOf (rowB vs) vs) {S T : ByteArray} (hS : S.data.toList = rowB us) (hT : T.data.toList = rowB vs) : (eqL us vs = true ∧ S.size ≤ T.size ∧ T.extract 0 S.size = S) ∨ (eqL us vs = false ∧ (¬ S.size ≤ T.size ∨ (S.size ≤ T.size ∧ ((T.extract 0 S.size).toList == S.toList) = false))) := by
  by_cases h : S.data.toList <+: T.data.toList
  · left
    obtain ⟨t, ht⟩ := h
    rw [hS, hT] at ht
    refine ⟨eqL_iff.2 (rowB_begins hu.1 hv.1 hu.2.1 hv.2.1 ht), begins_ext ?_⟩
    rw [hS, hT]
    exact ⟨t, ht⟩
  · right
    refine ⟨?_, begins_not h⟩
    cases e : eqL us vs with
    | false => rfl
    | true =>
      exfalso
      rw [eqL_iff.1 e] at hS
      exact h (by rw [hS, hT]; exact List.prefix_refl _)

set_option maxHeartbeats 8000000 in
set_option maxRecDepth 100000 in
theorem back_small (a : Option Addr) (cap : Nat) (us : List V3) (a' : Option Addr) (cap' : Nat) (vs : List V3) (w : World) (hu : us.length ≤ 2147483647) (hv : vs.length ≤ 2147483647) (hr : Row w a us) (hr' : Row w a' vs) :
    Calls Try.prog 5 #[.slice a us.length cap, .slice a' vs.length cap'] w fun e w' => e = .returned (.bool true) ∧ Below w.heap.size w w' := by
  have hui : ¬ (2147483647 : Int) < (us.length : Int) := by omega
  have hvi : ¬ (2147483647 : Int) < (vs.length : Int) := by omega
  have HR : Hid (Row w a us) := hr
  have HR' : Hid (Row w a' vs) := hr'
  clear hr hr'
  obtain ⟨S, x, hSx, hS, hx⟩ : ∃ (S : ByteArray) (x : Int), wrV us = .tuple #[.string S, .int .i64 x] ∧ S.data.toList = (wrR us).1 ∧ x = (wrR us).2 := ⟨⟨(wrR us).1.toArray⟩, (wrR us).2, rfl, rfl, rfl⟩
  obtain ⟨T, y, hTy, hT, hy⟩ : ∃ (T : ByteArray) (y : Int), wrV vs = .tuple #[.string T, .int .i64 y] ∧ T.data.toList = (wrR vs).1 ∧ y = (wrR vs).2 := ⟨⟨(wrR vs).1.toArray⟩, (wrR vs).2, rfl, rfl, rfl⟩
  have HSx : Hid (wrV us = .tuple #[.string S, .int .i64 x]) := hSx
  have HTy : Hid (wrV vs = .tuple #[.string T, .int .i64 y]) := hTy
  have HX : Hid (x = (wrR us).2) := hx
  have HY : Hid (y = (wrR vs).2) := hy
  have HS : Hid (S.data.toList = (wrR us).1) := hS
  have HT : Hid (T.data.toList = (wrR vs).1) := hT
  clear hSx hTy hx hy hS hT
  have hd : ((x != 0) = true) ∨ ((x != 0) = false ∧ (y != 0) = true) ∨ (x = 0 ∧ y = 0) := by
    by_cases h1 : x = 0
    · by_cases h2 : y = 0
      · exact Or.inr (Or.inr ⟨h1, h2⟩)
      · exact Or.inr (Or.inl ⟨by simp [h1], by simpa using h2⟩)
    · exact Or.inl (by simpa using h1)
  have hxx : (x != x) = false := by simp
  have hyy : (y != y) = false := by simp
  go_enter Try.func5, Try.ntmps5
  go_wp2_with fail
  refine (awake_any _).mono ?_; rintro e w1 ⟨rfl, h1⟩
  have z1 := h1.size
  go_wp2_with fail
  refine (enc_any a cap us _ (by omega) (HR.out.later h1)).mono ?_; rintro e w2 ⟨rfl, h2⟩
  rw [HSx.out]
  have H2 : Below w.heap.size w w2 := h1.trans (h2.mono z1)
  have z2 := H2.size
  clear h2 h1
  go_wp2_with fail
  refine (enc_any a' cap' vs _ (by omega) (HR'.out.later H2)).mono ?_; rintro e w3 ⟨rfl, h3⟩
  rw [HTy.out]
  have H3 : Below w.heap.size w w3 := H2.trans (h3.mono z2)
  have z3 := H3.size
  clear h3 H2 z2 z1
  go_wp2_with fail
  refine (renc_any a cap us _ (by omega) (HR.out.later H3)).mono ?_; rintro e w4 ⟨rfl, h4⟩
  rw [HSx.out]
  have H4 : Below w.heap.size w w4 := H3.trans (h4.mono z3)
  have z4 := H4.size
  clear h4 H3 z3
  go_wp2_with fail
  refine (renc_any a' cap' vs _ (by omega) (HR'.out.later H4)).mono ?_; rintro e w5 ⟨rfl, h5⟩
  rw [HTy.out]
  have H5 : Below w.heap.size w w5 := H4.trans (h5.mono z4)
  have z5 := H5.size
  clear h5 H4 z4
  rcases hd with d1 | ⟨d1, d2⟩ | ⟨d1, d2⟩
  · go_wp2
    go_ret
    exact ⟨rfl, by (repeat (first | exact Below.refl _ _ | assumption | refine Below.drew ?_ | refine below_drewN ?_ _ | refine Below.alloc ?_ (by first | omega | (simp; done) | (simp; omega)) _ | refine Below.setCell ?_ (by first | omega | (simp; done) | (simp; omega)) _ | refine Below.trans ?_ (Below.mono (by assumption) (by first | omega | (simp; done) | (simp; omega)))))⟩
  · go_wp2
    go_ret
    exact ⟨rfl, by (repeat (first | exact Below.refl _ _ | assumption | refine Below.drew ?_ | refine below_drewN ?_ _ | refine Below.alloc ?_ (by first | omega | (simp; done) | (simp; omega)) _ | refine Below.setCell ?_ (by first | omega | (simp; done) | (simp; omega)) _ | refine Below.trans ?_ (Below.mono (by assumption) (by first | omega | (simp; done) | (simp; omega)))))⟩
  · subst d1 d2
    have hx := HX.out
    have hy := HY.out
    have hS := HS.out
    have hT := HT.out
    obtain ⟨l1, l2, l3⟩ := wrR_zero hx.symm
    obtain ⟨m1, m2, m3⟩ := wrR_zero hy.symm
    have hal := begins_alike (us := us) (vs := vs) ⟨l1, l2, rfl⟩ ⟨m1, m2, rfl⟩ (hS.trans l3) (hT.trans m3)
    have HD : Hid (rdR S.data.toList = (us, 0)) := rdR_ok ⟨l1, l2, by rw [hS, l3]⟩
    have hSs : S.size ≤ 2000 := by rw [← size_toList, hS]; exact wrR_size us
    have HSZ : Hid (szV us = .tuple #[.int .i64 (S.size : Int), .int .i64 0]) := by
      show szV us = _
      unfold szV
      rw [← hx, ← hS, size_toList]
    obtain ⟨E, hE⟩ : ∃ E, eqL us vs = E := ⟨_, rfl⟩
    rw [hE] at hal
    have HE : Hid (eqL us vs = E) := hE
    clear hx hy hS hT HX HY HS HT l1 l2 l3 m1 m2 m3 hE
    go_wp2_with fail
    refine (dec_any S _ (by omega)).mono ?_; rintro e w6 ⟨v6, rfl, o6, h6⟩
    rw [HD.out] at o6 ⊢
    simp only at o6 ⊢
    have H6 : Below w.heap.size w w6 := H5.trans (h6.mono z5)
    have z6 := H6.size
    obtain ⟨la, lc, rfl, R6⟩ := Row.of_own o6
    clear h6 o6 H5 z5
    go_wp2_with fail
    refine (same_any la a lc cap us us _ (by omega) R6 (HR.out.later H6)).mono ?_; rintro e w7 ⟨rfl, h7⟩
    rw [eqL_self]
    have H7 : Below w.heap.size w w7 := H6.trans (h7.mono z6)
    have z7 := H7.size
    clear h7 R6 H6 z6
    go_wp2_with fail
    refine (same_any a a' cap cap' us vs _ (by omega) (HR.out.later H7) (HR'.out.later H7)).mono ?_; rintro e w8 ⟨rfl, h8⟩
    rw [HE.out]
    have H8 : Below w.heap.size w w8 := H7.trans (h8.mono z7)
    have z8 := H8.size
    clear h8 H7 z7
    go_wp2_with fail
    refine (size_any a cap us _ (by omega) (HR.out.later H8)).mono ?_; rintro e w9 ⟨rfl, h9⟩
    rw [HSZ.out]
    have H9 : Below w.heap.size w w9 := H8.trans (h9.mono z8)
    clear h9 H8 z8
    rcases hal with ⟨e1, e2, e3⟩ | ⟨e1, e2 | ⟨e2, e3⟩⟩
    · subst e1
      have i1 : (S.size : Int) ≤ (T.size : Int) := by omega
      go_wp2
      go_ret
      exact ⟨rfl, H9⟩
    · subst e1
      have i1 : ¬ (S.size : Int) ≤ (T.size : Int) := by omega
      go_wp2
      go_ret
      exact ⟨rfl, H9⟩
    · subst e1
      have i1 : (S.size : Int) ≤ (T.size : Int) := by omega
      go_wp2
      go_ret
      exact ⟨rfl, H9⟩

set_option maxHeartbeats 2000000 in
set_option maxRecDepth 100000 in
theorem back_law (a : Option Addr) (cap : Nat) (us : List V3) (a' : Option Addr) (cap' : Nat) (vs : List V3) (w : World) (hr : Row w a us) (hr' : Row w a' vs) :
    Calls Try.prog 5 #[.slice a us.length cap, .slice a' vs.length cap'] w fun e w' => e = .returned (.bool true) ∧ Below w.heap.size w w' := by
  by_cases hu : us.length ≤ 2147483647
  · by_cases hv : vs.length ≤ 2147483647
    · exact back_small a cap us a' cap' vs w hu hv hr hr'
    · have hui : ¬ (2147483647 : Int) < (us.length : Int) := by omega
      have hvi : (2147483647 : Int) < (vs.length : Int) := by omega
      go_enter Try.func5, Try.ntmps5
      go_wp2
      go_ret
      exact ⟨rfl, by (repeat (first | exact Below.refl _ _ | assumption | refine Below.drew ?_ | refine below_drewN ?_ _ | refine Below.alloc ?_ (by first | omega | (simp; done) | (simp; omega)) _ | refine Below.setCell ?_ (by first | omega | (simp; done) | (simp; omega)) _ | refine Below.trans ?_ (Below.mono (by assumption) (by first | omega | (simp; done) | (simp; omega)))))⟩
  · have hui : (2147483647 : Int) < (us.length : Int) := by omega
    go_enter Try.func5, Try.ntmps5
    go_wp2
    go_ret
    exact ⟨rfl, by (repeat (first | exact Below.refl _ _ | assumption | refine Below.drew ?_ | refine below_drewN ?_ _ | refine Below.alloc ?_ (by first | omega | (simp; done) | (simp; omega)) _ | refine Below.setCell ?_ (by first | omega | (simp; done) | (simp; omega)) _ | refine Below.trans ?_ (Below.mono (by assumption) (by first | omega | (simp; done) | (simp; omega)))))⟩
end Go.Proofs.Ytfgpopkibjijgaa
