/- The law KeyBegins. -/
import Derived.Test.YtbmgcibclmbelaaDoorQ1
import Derived.Test.YtbmgcibclmbelaaDoorQ2
namespace Go.Proofs.YtbmgcibclmbelaaDoor
open Go.RowKit

theorem Row.take {w : World} {a : Option Addr} {vs : List V3} (h : Row w a vs) (m : Nat) : Row w a (vs.take m) := by
  have e : vs = vs.take m ++ vs.drop m := (List.take_append_drop m vs).symm
  rw [e] at h
  exact h.prefix
theorem enc_len (a : Option Addr) (cap : Nat) (vs : List V3) (n : Nat) (hn : vs.length = n) (w : World) (hlen : vs.length ≤ 2147483648) (hrow : Row w a vs) (h0 : 0 < w.heap.size) (hm : ML w) :
    Calls Tryd.prog 11 #[.slice a n cap] w fun e w' => e = .returned (encV vs) ∧ Below w.heap.size w w' := by
  subst hn
  exact enc_any a cap vs w hlen hrow h0 hm
theorem same_len (a a' : Option Addr) (cap cap' : Nat) (us vs : List V3) (n : Nat) (hn : vs.length = n) (w : World) (hl : us.length ≤ 2147483648) (hr : Row w a us) (hr' : Row w a' vs) :
    Calls Tryd.prog 13 #[.slice a us.length cap, .slice a' n cap'] w fun e w' => e = .returned (.bool (eqL us vs)) ∧ Below w.heap.size w w' := by
  subst hn
  exact same_any a a' cap cap' us vs w hl hr hr'
theorem kbs_prefix (us : List V3) (m : Nat) : kbs (us.take m) <+: kbs us := by
  have e : us = us.take m ++ us.drop m := (List.take_append_drop m us).symm
  exact ⟨kbs (us.drop m), by rw [← kbs_append, ← e]⟩
theorem begins_take {us vs : List V3} (hu : ∀ v ∈ us, V3.right v = true) (hv : ∀ v ∈ vs, V3.right v = true) (h : kbs vs <+: kbs us) : eqL vs (us.take vs.length) = true := by
  obtain ⟨t, e⟩ := h
  obtain ⟨us', rfl, _⟩ := kbs_begins vs us t hv hu e.symm
  rw [eqL_iff, List.take_left]

set_option maxHeartbeats 8000000 in
set_option maxRecDepth 100000 in
theorem begins_small (a a' : Option Addr) (cap cap' : Nat) (us vs : List V3) (few : Int) (w : World) (hu : us.length ≤ 2147483647) (hv : vs.length ≤ 2147483647) (hcap : us.length ≤ cap) (hr : Row w a us) (hr' : Row w a' vs) (h0 : 0 < w.heap.size) (hm : ML w) :
    Calls Tryd.prog 7 #[.slice a us.length cap, .int .i64 few, .slice a' vs.length cap'] w fun e w' => e = .returned (.bool true) ∧ Below w.heap.size w w' := by
  have HR : Hid (Row w a us) := hr
  have HR' : Hid (Row w a' vs) := hr'
  clear hr hr'
  have hui : ¬ (2147483647 : Int) < (us.length : Int) := by omega
  have hvi : ¬ (2147483647 : Int) < (vs.length : Int) := by omega
  obtain ⟨SN, hSN⟩ : ∃ N : ByteArray, (⟨(encR us).1.toArray⟩ : ByteArray) = N := ⟨_, rfl⟩
  obtain ⟨E, hE⟩ : ∃ E, (encR us).2 = E := ⟨_, rfl⟩
  obtain ⟨ST, hST⟩ : ∃ M : ByteArray, (⟨(encR vs).1.toArray⟩ : ByteArray) = M := ⟨_, rfl⟩
  obtain ⟨F, hF⟩ : ∃ F, (encR vs).2 = F := ⟨_, rfl⟩
  have HU : Hid (encV us = .tuple #[.string SN, .int .i64 E]) := by
    have : encV us = .tuple #[.string SN, .int .i64 E] := by unfold encV; rw [hSN, hE]
    exact this
  have HV : Hid (encV vs = .tuple #[.string ST, .int .i64 F]) := by
    have : encV vs = .tuple #[.string ST, .int .i64 F] := by unfold encV; rw [hST, hF]
    exact this
  have hdn : SN.data.toList = (encR us).1 := by rw [← hSN]
  have hdt : ST.data.toList = (encR vs).1 := by rw [← hST]
  have HE : Hid (E = 0 → SN.data.toList = kbs us ∧ (∀ v ∈ us, V3.right v = true) ∧ us.length ≤ 8) := fun e => by
    subst e
    obtain ⟨p, q, r⟩ := encR_zero hE
    exact ⟨by rw [hdn, r], q, p⟩
  have HF : Hid (F = 0 → ST.data.toList = kbs vs ∧ (∀ v ∈ vs, V3.right v = true)) := fun e => by
    subst e
    obtain ⟨_, q, r⟩ := encR_zero hF
    exact ⟨by rw [hdt, r], q⟩
  clear hSN hE hST hF hdn hdt
  go_enter Tryd.func7, Tryd.ntmps7
  go_wp2_with fail
  refine (kawake_any _ h0 hm).mono ?_; rintro e w1 ⟨rfl, H1⟩
  have z1 := H1.size
  go_wp2_with fail
  refine (enc_any a cap us _ (by omega) (HR.out.later H1) (by omega) (hm.later H1 h0)).mono ?_; rintro e w2 ⟨rfl, h2⟩
  rw [HU.out]
  have H2 : Below w.heap.size w w2 := H1.trans (h2.mono z1)
  have z2 := H2.size
  clear h2 H1 z1
  go_wp2_with fail
  refine (enc_any a' cap' vs _ (by omega) (HR'.out.later H2) (by omega) (hm.later H2 h0)).mono ?_; rintro e w3 ⟨rfl, h3⟩
  rw [HV.out]
  have H3 : Below w.heap.size w w3 := H2.trans (h3.mono z2)
  have z3 := H3.size
  clear h3 H2 z2
  go_wp2_with fail
  refine (renc_any a cap us _ (by omega) (HR.out.later H3)).mono ?_; rintro e w4 ⟨rfl, h4⟩
  rw [HU.out]
  have H4 : Below w.heap.size w w4 := H3.trans (h4.mono z3)
  have z4 := H4.size
  clear h4 H3 z3
  go_wp2_with fail
  refine (renc_any a' cap' vs _ (by omega) (HR'.out.later H4)).mono ?_; rintro e w5 ⟨rfl, h5⟩
  rw [HV.out]
  have H5 : Below w.heap.size w w5 := H4.trans (h5.mono z4)
  have z5 := H5.size
  clear h5 H4 z4
  by_cases hE0 : E = 0
  · obtain ⟨e1, e2, e3⟩ := HE.out hE0
    obtain ⟨r, hr⟩ : ∃ r, Int.tmod few ((us.length : Int) + 1) = r := ⟨_, rfl⟩
    have hna : r.natAbs ≤ us.length := by
      rw [← hr, Int.natAbs_tmod]
      have := Nat.mod_lt few.natAbs (show 0 < ((us.length : Int) + 1).natAbs by omega)
      omega
    have hd : ((us.length : Int) + 1 == 0) = false := by rw [beq_eq_false_iff_ne]; omega
    have HUS : Hid (SN.data.toList = kbs us) := e1
    have HUR : Hid (∀ v ∈ us, V3.right v = true) := e2
    subst hE0
    clear HE e1 e2
    have hm2 : ∃ m : Nat, m ≤ us.length ∧ ((r < 0 ∧ r + (us.length : Int) + 1 = (m : Int)) ∨ (¬ r < 0 ∧ r = (m : Int))) := by
      by_cases h : r < 0
      · exact ⟨(r + us.length + 1).toNat, by omega, Or.inl ⟨h, by omega⟩⟩
      · exact ⟨r.toNat, by omega, Or.inr ⟨h, by omega⟩⟩
    obtain ⟨m, hmu, hmr⟩ := hm2
    have hml : (us.take m).length = m := by rw [List.length_take]; omega
    have hmc : (m : Int) ≤ (cap : Int) := by omega
    have hm0 : (0 : Int) ≤ (m : Int) := by omega
    have hvc : (vs.length : Int) ≤ (us.length : Int) → (vs.length : Int) ≤ (cap : Int) := by omega
    have HTR : Hid (∀ v ∈ us.take m, V3.right v = true) := fun v hv => HUR.out v (List.mem_of_mem_take hv)
    have hen : encV (us.take m) = .tuple #[.string ⟨(kbs (us.take m)).toArray⟩, .int .i64 0] := by
      unfold encV
      rw [encR_ok (by omega) (fun i hi => HTR.out _ (List.getElem_mem hi))]
    obtain ⟨SP, hSP⟩ : ∃ P : ByteArray, (⟨(kbs (us.take m)).toArray⟩ : ByteArray) = P := ⟨_, rfl⟩
    rw [hSP] at hen
    have hpre : SP.data.toList <+: SN.data.toList := by
      rw [HUS.out, ← hSP]
      exact kbs_prefix us m
    obtain ⟨g1, g2⟩ := begins_ext hpre
    have g1' : ¬ (SN.size : Int) < (SP.size : Int) := by omega
    have g3 : (SP.size : Int) ≤ (SN.size : Int) := by omega
    have HEN : Hid (encV (us.take m) = .tuple #[.string SP, .int .i64 0]) := hen
    have hML : Hid ((us.take m).length = m) := hml
    have hcase : ((F == 0) = false) ∨ ((F == 0) = true ∧ ¬ (vs.length : Int) ≤ (us.length : Int)) ∨ ((F == 0) = true ∧ (vs.length : Int) ≤ (us.length : Int) ∧ ¬ (ST.size : Int) ≤ (SN.size : Int)) ∨ ((F == 0) = true ∧ (vs.length : Int) ≤ (us.length : Int) ∧ (ST.size : Int) ≤ (SN.size : Int) ∧ ((SN.extract 0 ST.size).toList == ST.toList) = false) ∨ ((F == 0) = true ∧ (vs.length : Int) ≤ (us.length : Int) ∧ (ST.size : Int) ≤ (SN.size : Int) ∧ SN.extract 0 ST.size = ST ∧ eqL vs (us.take vs.length) = true) := by
      by_cases f : F = 0
      · have f' : (F == 0) = true := by simpa using f
        obtain ⟨q1, q2⟩ := HF.out f
        by_cases l : vs.length ≤ us.length
        · by_cases hp : ST.data.toList <+: SN.data.toList
          · obtain ⟨k1, k2⟩ := begins_ext hp
            rw [q1, HUS.out] at hp
            exact Or.inr (Or.inr (Or.inr (Or.inr ⟨f', by omega, by omega, k2, begins_take HUR.out q2 hp⟩)))
          · rcases begins_not hp with k | ⟨k, j⟩
            · exact Or.inr (Or.inr (Or.inl ⟨f', by omega, by omega⟩))
            · exact Or.inr (Or.inr (Or.inr (Or.inl ⟨f', by omega, by omega, j⟩)))
        · exact Or.inr (Or.inl ⟨f', by omega⟩)
      · exact Or.inl (by simpa using f)
    have HC : Hid (((F == 0) = false) ∨ ((F == 0) = true ∧ ¬ (vs.length : Int) ≤ (us.length : Int)) ∨ ((F == 0) = true ∧ (vs.length : Int) ≤ (us.length : Int) ∧ ¬ (ST.size : Int) ≤ (SN.size : Int)) ∨ ((F == 0) = true ∧ (vs.length : Int) ≤ (us.length : Int) ∧ (ST.size : Int) ≤ (SN.size : Int) ∧ ((SN.extract 0 ST.size).toList == ST.toList) = false) ∨ ((F == 0) = true ∧ (vs.length : Int) ≤ (us.length : Int) ∧ (ST.size : Int) ≤ (SN.size : Int) ∧ SN.extract 0 ST.size = ST ∧ eqL vs (us.take vs.length) = true)) := hcase
    clear hen hSP hpre hcase HF hml hna
    rcases hmr with ⟨hneg, hmr⟩ | ⟨hneg, rfl⟩
    all_goals
      go_wp2_with fail
      refine (enc_len a cap (us.take m) m hML.out _ (by have := hML.out; omega) ((HR.out.later H5).take m) (by omega) (hm.later H5 h0)).mono ?_; rintro e w6 ⟨rfl, h6⟩
      rw [HEN.out]
      have H6 : Below w.heap.size w w6 := H5.trans (h6.mono z5)
      have z6 := H6.size
      clear h6
      rcases HC.out with c | ⟨c, d⟩ | ⟨c, d, e⟩ | ⟨c, d, e, f⟩ | ⟨c, d, e, f, g⟩
      · clear HC
        go_wp2
        go_ret
        exact ⟨rfl, H6⟩
      · clear HC
        go_wp2
        go_ret
        exact ⟨rfl, H6⟩
      · clear HC
        go_wp2
        go_ret
        exact ⟨rfl, H6⟩
      · clear HC
        go_wp2
        go_ret
        exact ⟨rfl, H6⟩
      · have HG : Hid (eqL vs (us.take vs.length) = true) := g
        have hvc2 := hvc d
        have HVL : Hid ((us.take vs.length).length = vs.length) := by
          have : (us.take vs.length).length = vs.length := by rw [List.length_take]; omega
          exact this
        clear HC g
        go_wp2_with fail
        refine (same_len a' a cap' cap vs (us.take vs.length) vs.length HVL.out _ (by omega) (HR'.out.later H6) ((HR.out.later H6).take vs.length)).mono ?_; rintro e w7 ⟨rfl, h7⟩
        rw [HG.out]
        go_wp2
        go_ret
        exact ⟨rfl, H6.trans (h7.mono z6)⟩
  · have hE1 : (E != 0) = true := by simpa using hE0
    clear hE0 HE HF
    go_wp2
    all_goals
      go_ret
      exact ⟨rfl, H5⟩

set_option maxHeartbeats 2000000 in
set_option maxRecDepth 100000 in
theorem begins_law (a : Option Addr) (cap : Nat) (us : List V3) (few : Int) (a' : Option Addr) (cap' : Nat) (vs : List V3) (w : World) (hr : Row w a us) (hcap : us.length ≤ cap) (hr' : Row w a' vs) (_ : vs.length ≤ cap') (h0 : 0 < w.heap.size) (hm : ML w) :
    Calls Tryd.prog 7 #[.slice a us.length cap, .int .i64 few, .slice a' vs.length cap'] w fun e w' => e = .returned (.bool true) ∧ Below w.heap.size w w' := by
  by_cases hu : us.length ≤ 2147483647
  · by_cases hv : vs.length ≤ 2147483647
    · exact begins_small a a' cap cap' us vs few w hu hv hcap hr hr' h0 hm
    · have hui : ¬ (2147483647 : Int) < (us.length : Int) := by omega
      have hvi : (2147483647 : Int) < (vs.length : Int) := by omega
      go_enter Tryd.func7, Tryd.ntmps7
      go_wp2
      go_ret
      exact ⟨rfl, by (repeat (first | exact Below.refl _ _ | assumption | refine Below.drew ?_ | refine below_drewN ?_ _ | refine Below.alloc ?_ (by first | omega | (simp; done) | (simp; omega)) _ | refine Below.setCell ?_ (by first | omega | (simp; done) | (simp; omega)) _ | refine Below.trans ?_ (Below.mono (by assumption) (by first | omega | (simp; done) | (simp; omega)))))⟩
  · have hui : (2147483647 : Int) < (us.length : Int) := by omega
    go_enter Tryd.func7, Tryd.ntmps7
    go_wp2
    go_ret
    exact ⟨rfl, by (repeat (first | exact Below.refl _ _ | assumption | refine Below.drew ?_ | refine below_drewN ?_ _ | refine Below.alloc ?_ (by first | omega | (simp; done) | (simp; omega)) _ | refine Below.setCell ?_ (by first | omega | (simp; done) | (simp; omega)) _ | refine Below.trans ?_ (Below.mono (by assumption) (by first | omega | (simp; done) | (simp; omega)))))⟩
end Go.Proofs.YtbmgcibclmbelaaDoor
