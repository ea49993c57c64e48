/- Walks of layer 2, first part: numbers, lists that are alike, how lists stand. -/
import Derived.Test.YtbmgcibclmbelaaDoorC3
import Derived.Test.YtbmgcibclmbelaaDoorM21
import Derived.Deep.QuietTactic
import Derived.BigQuiet
namespace Go.Proofs.YtbmgcibclmbelaaDoor
open Go.RowKit

theorem knum_any (n : Int) (w : World) :
    Calls Tryd.prog 10 #[.int .i64 n] w fun e w' => e = .returned (.agg #[.int .i64 1, .int .i64 n, .string ⟨#[]⟩]) ∧ Below w.heap.size w w' := by
  go_enter Tryd.func10, Tryd.ntmps10
  go_wp2
  exact bodyPost_ret (v := .agg #[.int .i64 1, .int .i64 n, .string ⟨#[]⟩]) (by simp [results, Tryd.results10, go_sem]) rfl ⟨rfl, by (repeat (first | exact Below.refl _ _ | assumption | refine Below.drew ?_ | refine below_drewN ?_ _ | refine Below.alloc ?_ (by first | omega | (simp; done) | (simp; omega)) _ | refine Below.setCell ?_ (by first | omega | (simp; done) | (simp; omega)) _ | refine Below.trans ?_ (Below.mono (by assumption) (by first | omega | (simp; done) | (simp; omega)))))⟩

/-- Are two lists alike? -/
def eqL (us vs : List V3) : Bool := ordL us vs == 0
theorem eqL_iff {us vs : List V3} : eqL us vs = true ↔ us = vs := by
  unfold eqL
  constructor
  · intro h; exact ordL_zero us vs (by simpa using h)
  · rintro rfl; simp [ordL_self]
theorem eqL_len {us vs : List V3} (h : us.length ≠ vs.length) : eqL us vs = false := by
  cases e : eqL us vs with
  | false => rfl
  | true => rw [eqL_iff.1 e] at h; exact absurd rfl h
theorem eqL_at {us vs : List V3} (k : Nat) (h : k < us.length) (h' : k < vs.length) (g : us[k] ≠ vs[k]) : eqL us vs = false := by
  cases e : eqL us vs with
  | false => rfl
  | true => exfalso; have := eqL_iff.1 e; subst this; exact g rfl
theorem eqL_all {us vs : List V3} (h : us.length = vs.length) (g : ∀ k (h : k < us.length) (h' : k < vs.length), us[k] = vs[k]) : eqL us vs = true := eqL_iff.2 (List.ext_getElem h g)
theorem cell_lt {w : World} {b o : Nat} {v : Value} (h : w.cell? ⟨b, o, none⟩ = some v) : b < w.heap.size := by
  by_cases g : b < w.heap.size
  · exact g
  · simp [World.cell?, Array.getElem?_eq_none (by omega : w.heap.size ≤ b)] at h
theorem upto2 {n m k : Nat} {p : (j : Nat) → j < n → j < m → Prop} (h : ∀ j (g : j < n) (g' : j < m), j < k → p j g g') {hlt : k < n} {hlt' : k < m} (e : p k hlt hlt') : ∀ j (g : j < n) (g' : j < m), j < k + 1 → p j g g' := by
  intro j g g' hj
  by_cases hjk : j = k
  · subst hjk; exact e
  · exact h j g g' (by omega)

set_option maxHeartbeats 2000000 in
set_option maxRecDepth 100000 in
theorem same_any (a a' : Option Addr) (cap cap' : Nat) (us vs : List V3) (w : World) (hl : us.length ≤ 2147483648) (hr : Row w a us) (hr' : Row w a' vs) :
    Calls Tryd.prog 13 #[.slice a us.length cap, .slice a' vs.length cap'] w fun e w' => e = .returned (.bool (eqL us vs)) ∧ Below w.heap.size w w' := by
  have HR : Hid (Row w a us) := hr
  have HR' : Hid (Row w a' vs) := hr'
  clear hr hr'
  by_cases hln : us.length = vs.length
  · have hb0 : ((us.length : Int) != (vs.length : Int)) = false := by simp [hln]
    have HL : Hid (us.length = vs.length) := hln
    clear hln
    go_enter Tryd.func13, Tryd.ntmps13
    go_wp2
    go_loopw [5] (fun i wr => ∃ k : Nat, k ≤ us.length ∧ i = .int .i64 k ∧ (∀ j (h : j < us.length) (h' : j < vs.length), j < k → us[j] = vs[j]) ∧ Below w.heap.size w wr) (fun i _ => us.length - (intOf i).toNat)
    case atStart => exact ⟨0, Nat.zero_le _, rfl, fun j _ _ g => absurd g (Nat.not_lt_zero _), Below.refl _ _⟩
    case round =>
      obtain ⟨k, hk, rfl, hall, hb⟩ := hrel
      have HA : Hid (∀ j (h : j < us.length) (h' : j < vs.length), j < k → us[j] = vs[j]) := hall
      clear hall
      by_cases hlt : k < us.length
      · have hltv : k < vs.length := by have := HL.out; omega
        obtain ⟨b, off, rfl, c0, c1, c2⟩ := HR.out k hlt
        obtain ⟨b', off', rfl, p0, p1, p2⟩ := HR'.out k hltv
        have d0 := cell_later hb c0
        have d1 := cell_later hb c1
        have d2 := cell_later hb c2
        have q0 := cell_later hb p0
        have q1 := cell_later hb p1
        have q2 := cell_later hb p2
        clear c0 c1 c2 p0 p1 p2
        have hlt1 : (k : Int) < (us.length : Int) := by omega
        have hlt2 : (k : Int) < (vs.length : Int) := by omega
        by_cases hkv : us[k] = vs[k]
        · have HK : Hid (us[k] = vs[k]) := hkv
          rw [← hkv] at q0 q1 q2
          clear hkv
          go_wp2
          go_quiet (fail)
          go_wp2
          go_roundw
          case rel => exact ⟨k + 1, by omega, by go_num, upto2 HA.out HK.out, by (repeat (first | exact Below.refl _ _ | assumption | refine Below.drew ?_ | refine below_drewN ?_ _ | refine Below.alloc ?_ (by first | omega | (simp; done) | (simp; omega)) _ | refine Below.setCell ?_ (by first | omega | (simp; done) | (simp; omega)) _ | refine Below.trans ?_ (Below.mono (by assumption) (by first | omega | (simp; done) | (simp; omega)))))⟩
          case measure => simp [intOf]; omega
        · have HE : Hid (eqL us vs = false) := eqL_at k hlt hltv hkv
          obtain ⟨u, hu⟩ : ∃ u, us[k] = u := ⟨_, rfl⟩
          obtain ⟨v, hv⟩ : ∃ v, vs[k] = v := ⟨_, rfl⟩
          rw [hu] at d0 d1 d2 hkv
          rw [hv] at q0 q1 q2 hkv
          clear hu hv HA
          have hne : (u.1 == v.1) = false ∨ ((u.1 == v.1) = true ∧ (u.2.1 == v.2.1) = false) ∨ ((u.1 == v.1) = true ∧ (u.2.1 == v.2.1) = true ∧ (u.2.2.toList == v.2.2.toList) = false) := by
            by_cases e1 : u.1 = v.1
            · by_cases e2 : u.2.1 = v.2.1
              · by_cases e3 : u.2.2 = v.2.2
                · exact absurd (v3_ext e1 e2 e3) hkv
                · refine Or.inr (Or.inr ⟨by simpa using e1, by simpa using e2, ?_⟩)
                  rw [beq_eq_false_iff_ne, ByteArray.toList_eq, ByteArray.toList_eq]
                  exact fun h => e3 (ba_ext h)
              · exact Or.inr (Or.inl ⟨by simpa using e1, by simpa using e2⟩)
            · exact Or.inl (by simpa using e1)
          clear hkv
          rcases hne with e1 | ⟨e1, e2⟩ | ⟨e1, e2, e3⟩
          all_goals
            go_wp2
            go_quiet (fail)
            go_wp2
            go_ret
            exact ⟨ret_bool HE.out.symm, by (repeat (first | exact Below.refl _ _ | assumption | refine Below.drew ?_ | refine below_drewN ?_ _ | refine Below.alloc ?_ (by first | omega | (simp; done) | (simp; omega)) _ | refine Below.setCell ?_ (by first | omega | (simp; done) | (simp; omega)) _ | refine Below.trans ?_ (Below.mono (by assumption) (by first | omega | (simp; done) | (simp; omega)))))⟩
      · have hk' : k = us.length := by omega
        subst hk'
        go_wp2
        go_ret
        exact ⟨ret_bool (eqL_all HL.out (fun j h h' => HA.out j h h' h)).symm, by (repeat (first | exact Below.refl _ _ | assumption | refine Below.drew ?_ | refine below_drewN ?_ _ | refine Below.alloc ?_ (by first | omega | (simp; done) | (simp; omega)) _ | refine Below.setCell ?_ (by first | omega | (simp; done) | (simp; omega)) _ | refine Below.trans ?_ (Below.mono (by assumption) (by first | omega | (simp; done) | (simp; omega)))))⟩
  · have hb0 : ((us.length : Int) != (vs.length : Int)) = true := by simp; omega
    rw [eqL_len hln]
    clear hln
    go_enter Tryd.func13, Tryd.ntmps13
    go_wp2
    go_ret
    exact ⟨rfl, by (repeat (first | exact Below.refl _ _ | assumption | refine Below.drew ?_ | refine below_drewN ?_ _ | refine Below.alloc ?_ (by first | omega | (simp; done) | (simp; omega)) _ | refine Below.setCell ?_ (by first | omega | (simp; done) | (simp; omega)) _ | refine Below.trans ?_ (Below.mono (by assumption) (by first | omega | (simp; done) | (simp; omega)))))⟩
end Go.Proofs.YtbmgcibclmbelaaDoor
