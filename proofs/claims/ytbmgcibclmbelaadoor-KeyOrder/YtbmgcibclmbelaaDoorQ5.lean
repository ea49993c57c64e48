/- The law KeyOrder. -/
import Derived.Test.YtbmgcibclmbelaaDoorQ2
namespace Go.Proofs.YtbmgcibclmbelaaDoor
open Go.RowKit

/-- Keys: how they stand, and how their values do. -/
theorem keys_stand {us vs : List V3} (hu : (encR us).2 = 0) (hv : (encR vs).2 = 0) :
    (Op.bytesLess (kbs us) (kbs vs) = true ∧ ordL us vs = -1) ∨ (Op.bytesLess (kbs us) (kbs vs) = false ∧ (kbs us == kbs vs) = false ∧ ordL us vs = 1) ∨ (Op.bytesLess (kbs us) (kbs vs) = false ∧ (kbs us == kbs vs) = true ∧ ordL us vs = 0 ∧ eqL us vs = true) := by
  obtain ⟨_, a, _⟩ := encR_zero hu
  obtain ⟨_, b, _⟩ := encR_zero hv
  rcases ordL_range us vs with h | h | h
  · exact Or.inl ⟨kbs_less us vs a b h, h⟩
  · obtain rfl := ordL_zero us vs h
    exact Or.inr (Or.inr ⟨bl_irrefl _, by simp, h, eqL_self _⟩)
  · have h' : ordL vs us = -1 := by rw [ordL_neg us vs, h]
    have g := kbs_less vs us b a h'
    refine Or.inr (Or.inl ⟨bl_asymm _ _ g, ?_, h⟩)
    rw [beq_eq_false_iff_ne]
    intro e
    rw [e, bl_irrefl] at g
    exact absurd g (by simp)

set_option maxHeartbeats 8000000 in
set_option maxRecDepth 100000 in
theorem order_small (a a' : Option Addr) (cap cap' : Nat) (us vs : List V3) (w : World) (hu : us.length ≤ 2147483647) (hv : vs.length ≤ 2147483647) (hr : Row w a us) (hr' : Row w a' vs) (h0 : 0 < w.heap.size) (hm : ML w) :
    Calls Tryd.prog 6 #[.slice a us.length cap, .slice a' vs.length cap'] w fun e w' => e = .returned (.bool true) ∧ Below w.heap.size w w' := by
  have HR : Hid (Row w a us) := hr
  have HR' : Hid (Row w a' vs) := hr'
  clear hr hr'
  have hui : ¬ (2147483647 : Int) < (us.length : Int) := by omega
  have hvi : ¬ (2147483647 : Int) < (vs.length : Int) := by omega
  obtain ⟨N, hN⟩ : ∃ N, (encR us).1 = N := ⟨_, rfl⟩
  obtain ⟨E, hE⟩ : ∃ E, (encR us).2 = E := ⟨_, rfl⟩
  obtain ⟨M, hM⟩ : ∃ M, (encR vs).1 = M := ⟨_, rfl⟩
  obtain ⟨F, hF⟩ : ∃ F, (encR vs).2 = F := ⟨_, rfl⟩
  have HU : Hid (encV us = .tuple #[.string ⟨N.toArray⟩, .int .i64 E]) := by
    have : encV us = .tuple #[.string ⟨N.toArray⟩, .int .i64 E] := by unfold encV; rw [hN, hE]
    exact this
  have HV : Hid (encV vs = .tuple #[.string ⟨M.toArray⟩, .int .i64 F]) := by
    have : encV vs = .tuple #[.string ⟨M.toArray⟩, .int .i64 F] := by unfold encV; rw [hM, hF]
    exact this
  have hcase : ((E != 0) = true) ∨ ((E != 0) = false ∧ (F != 0) = true) ∨ (E = 0 ∧ F = 0 ∧ decR N = (us, 0) ∧ ((Op.bytesLess N M = true ∧ ordL us vs = -1) ∨ (Op.bytesLess N M = false ∧ (N == M) = false ∧ ordL us vs = 1) ∨ (Op.bytesLess N M = false ∧ (N == M) = true ∧ ordL us vs = 0 ∧ eqL us vs = true))) := by
    by_cases e : E = 0
    · by_cases f : F = 0
      · right; right
        subst e f
        obtain ⟨a1, a2, a3⟩ := encR_zero hE
        obtain ⟨_, _, b3⟩ := encR_zero hF
        rw [hN] at a3
        rw [hM] at b3
        refine ⟨rfl, rfl, ?_, ?_⟩
        · rw [a3]; exact decR_ok ⟨a1, a2, rfl⟩
        · rw [a3, b3]; exact keys_stand hE hF
      · exact Or.inr (Or.inl ⟨by simp [e], by simpa using f⟩)
    · exact Or.inl (by simpa using e)
  have HC : Hid (((E != 0) = true) ∨ ((E != 0) = false ∧ (F != 0) = true) ∨ (E = 0 ∧ F = 0 ∧ decR N = (us, 0) ∧ ((Op.bytesLess N M = true ∧ ordL us vs = -1) ∨ (Op.bytesLess N M = false ∧ (N == M) = false ∧ ordL us vs = 1) ∨ (Op.bytesLess N M = false ∧ (N == M) = true ∧ ordL us vs = 0 ∧ eqL us vs = true)))) := hcase
  have hNl : N.length ≤ 100000 := by
    rw [← hN]
    by_cases e : (encR us).2 = 0
    · obtain ⟨a1, a2, a3⟩ := encR_zero e
      rw [a3]
      have := kbs_bound a2
      omega
    · unfold encR at e ⊢
      split
      · simp
      · split
        · rename_i h1 h2; rw [if_neg h1, if_pos h2] at e; exact absurd rfl e
        · simp
  clear hN hE hM hF hcase
  go_enter Tryd.func6, Tryd.ntmps6
  go_wp2_with fail
  refine (kawake_any _ h0 hm).mono ?_; rintro e w1 ⟨rfl, H1⟩
  have z1 := H1.size
  go_wp2_with fail
  refine (enc_any a cap us _ (by omega) (HR.out.later H1) (by omega) (hm.later H1 h0)).mono ?_; rintro e w2 ⟨rfl, h2⟩
  rw [HU.out]
  have H2 : Below w.heap.size w w2 := H1.trans (h2.mono z1)
  have z2 := H2.size
  clear h2 H1 z1
  go_wp2_with fail
  refine (enc_any a' cap' vs _ (by omega) (HR'.out.later H2) (by omega) (hm.later H2 h0)).mono ?_; rintro e w3 ⟨rfl, h3⟩
  rw [HV.out]
  have H3 : Below w.heap.size w w3 := H2.trans (h3.mono z2)
  have z3 := H3.size
  clear h3 H2 z2
  go_wp2_with fail
  refine (renc_any a cap us _ (by omega) (HR.out.later H3)).mono ?_; rintro e w4 ⟨rfl, h4⟩
  rw [HU.out]
  have H4 : Below w.heap.size w w4 := H3.trans (h4.mono z3)
  have z4 := H4.size
  clear h4 H3 z3
  go_wp2_with fail
  refine (renc_any a' cap' vs _ (by omega) (HR'.out.later H4)).mono ?_; rintro e w5 ⟨rfl, h5⟩
  rw [HV.out]
  have H5 : Below w.heap.size w w5 := H4.trans (h5.mono z4)
  have z5 := H5.size
  clear h5 H4 z4
  rcases HC.out with c | ⟨c, d⟩ | ⟨rfl, rfl, hd, hk⟩
  · clear HC
    go_wp2
    go_ret
    exact ⟨rfl, H5⟩
  · clear HC
    go_wp2
    go_ret
    exact ⟨rfl, H5⟩
  · have HD : Hid (decR N = (us, 0)) := hd
    clear HC hd
    have HK : Hid ((Op.bytesLess N M = true ∧ ordL us vs = -1) ∨ (Op.bytesLess N M = false ∧ (N == M) = false ∧ ordL us vs = 1) ∨ (Op.bytesLess N M = false ∧ (N == M) = true ∧ ordL us vs = 0 ∧ eqL us vs = true)) := hk
    clear hk
    go_wp2_with fail
    refine (dec_any ⟨N.toArray⟩ _ (by show N.toArray.size ≤ _; simp; omega)).mono ?_; rintro e w6 ⟨l6, rfl, o6, h6⟩
    have hN' : (⟨N.toArray⟩ : ByteArray).data.toList = N := by simp
    rw [hN', HD.out] at o6 ⊢
    simp only at o6
    obtain ⟨la, lc, rfl, R6⟩ := Row.of_own o6
    have H6 : Below w.heap.size w w6 := H5.trans (h6.mono z5)
    have z6 := H6.size
    clear o6 h6 H5 z5 hN'
    go_wp2_with fail
    refine (same_any la a lc cap us us _ (by omega) R6 (HR.out.later H6)).mono ?_; rintro e w7 ⟨rfl, h7⟩
    rw [eqL_self]
    have H7 : Below w.heap.size w w7 := H6.trans (h7.mono z6)
    have z7 := H7.size
    clear h7 R6 H6 z6
    go_wp2_with fail
    refine (kord_any a a' cap cap' us vs _ (by omega) (by omega) (HR.out.later H7) (HR'.out.later H7)).mono ?_; rintro e w8 ⟨rfl, h8⟩
    have H8 : Below w.heap.size w w8 := H7.trans (h8.mono z7)
    have z8 := H8.size
    clear h8 H7 z7
    rcases HK.out with ⟨b, o⟩ | ⟨b, c, o⟩ | ⟨b, c, o, q⟩
    · rw [o]
      clear o HK
      go_wp2
      go_ret
      exact ⟨rfl, H8⟩
    · rw [o]
      clear o HK
      go_wp2
      go_ret
      exact ⟨rfl, H8⟩
    · rw [o]
      have HQ : Hid (eqL us vs = true) := q
      clear o q HK
      go_wp2_with fail
      refine (same_any a a' cap cap' us vs _ (by omega) (HR.out.later H8) (HR'.out.later H8)).mono ?_; rintro e w9 ⟨rfl, h9⟩
      rw [HQ.out]
      go_wp2
      go_ret
      exact ⟨rfl, H8.trans (h9.mono z8)⟩

set_option maxHeartbeats 2000000 in
set_option maxRecDepth 100000 in
theorem order_law (a : Option Addr) (cap : Nat) (us : List V3) (a' : Option Addr) (cap' : Nat) (vs : List V3) (w : World) (hr : Row w a us) (hr' : Row w a' vs) (h0 : 0 < w.heap.size) (hm : ML w) :
    Calls Tryd.prog 6 #[.slice a us.length cap, .slice a' vs.length cap'] w fun e w' => e = .returned (.bool true) ∧ Below w.heap.size w w' := by
  by_cases hu : us.length ≤ 2147483647
  · by_cases hv : vs.length ≤ 2147483647
    · exact order_small a a' cap cap' us vs w hu hv hr hr' h0 hm
    · have hui : ¬ (2147483647 : Int) < (us.length : Int) := by omega
      have hvi : (2147483647 : Int) < (vs.length : Int) := by omega
      go_enter Tryd.func6, Tryd.ntmps6
      go_wp2
      go_ret
      exact ⟨rfl, by (repeat (first | exact Below.refl _ _ | assumption | refine Below.drew ?_ | refine below_drewN ?_ _ | refine Below.alloc ?_ (by first | omega | (simp; done) | (simp; omega)) _ | refine Below.setCell ?_ (by first | omega | (simp; done) | (simp; omega)) _ | refine Below.trans ?_ (Below.mono (by assumption) (by first | omega | (simp; done) | (simp; omega)))))⟩
  · have hui : (2147483647 : Int) < (us.length : Int) := by omega
    go_enter Tryd.func6, Tryd.ntmps6
    go_wp2
    go_ret
    exact ⟨rfl, by (repeat (first | exact Below.refl _ _ | assumption | refine Below.drew ?_ | refine below_drewN ?_ _ | refine Below.alloc ?_ (by first | omega | (simp; done) | (simp; omega)) _ | refine Below.setCell ?_ (by first | omega | (simp; done) | (simp; omega)) _ | refine Below.trans ?_ (Below.mono (by assumption) (by first | omega | (simp; done) | (simp; omega)))))⟩
end Go.Proofs.YtbmgcibclmbelaaDoor
