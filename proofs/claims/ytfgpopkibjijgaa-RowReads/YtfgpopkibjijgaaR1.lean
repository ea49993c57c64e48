/- Walks of layer 3, first part: what these walks lean on; numbers; lists that are alike. -/
import Derived.Test.YtfgpopkibjijgaaC3
import Derived.Test.YtfgpopkibjijgaaW12
import Derived.Test.YtfgpopkibjijgaaW23
import Derived.Test.YtfgpopkibjijgaaM30
import Derived.Deep.QuietTactic
import Derived.BigQuiet
import Derived.Lib.AppendStr
import Derived.Laws.OwnMore
namespace Go.Proofs.Ytfgpopkibjijgaa
open Go.RowKit

theorem cells1 (w : World) (x : Int) (c : UInt8) (t : TypeId) (h : x = (c.toNat : Int)) : ∀ j u, (bv [c])[j]? = some u → (w.alloc (.cells #[.int .u8 x] t)).cell? ((⟨w.heap.size, 0, none⟩ : Addr).add j) = some u := by
  subst h
  intro j u hj
  match j, hj with
  | 0, hj => simp [bv] at hj; subst hj; simp [Addr.add]

theorem cells2 (w : World) (x : Int) (b c : UInt8) (t : TypeId) (h : x = (c.toNat : Int)) : ∀ j u, (bv [b, c])[j]? = some u → (w.alloc (.cells #[.int .u8 (b.toNat : Int), .int .u8 x] t)).cell? ((⟨w.heap.size, 0, none⟩ : Addr).add j) = some u := by
  subst h
  intro j u hj
  match j, hj with
  | 0, hj => simp [bv] at hj; subst hj; simp [Addr.add]
  | 1, hj => simp [bv] at hj; subst hj; simp [Addr.add]
theorem strCells_bv (l : List UInt8) : Lib.strCells ⟨l.toArray⟩ = bv l := by simp [Lib.strCells, bv]

theorem own_later {w w' : World} {B : Nat} {e : TypeId} {size : Nat} {v : Value} {n : Nat} {xs : List Value} (h : w.ownsRow B e size v n xs) (hb : Below w.heap.size w w') : w'.ownsRow B e size v n xs := by
  have hl := h.lt
  obtain ⟨h1, h2 | ⟨g, cap, cur, rfl, a, b, c⟩⟩ := h
  · exact ⟨h1, Or.inl h2⟩
  · exact ⟨h1, Or.inr ⟨g, cap, cur, rfl, a, (hb.block g (hl g rfl).2).trans b, c⟩⟩
theorem upto_right {vs : List V3} {k : Nat} (h : ∀ j (g : j < vs.length), j < k → V3.right vs[j] = true) : ∀ v ∈ vs.take k, V3.right v = true := by
  intro v hv
  obtain ⟨j, hj, rfl⟩ := List.getElem_of_mem hv
  rw [List.getElem_take]
  have hj' : j < k ∧ j < vs.length := Nat.lt_min.1 (by simpa using hj)
  exact h j hj'.2 hj'.1
/-- 'string(b)' of what is owned, be it nothing. -/
theorem own_str {w : World} {B n : Nat} {v : Value} {xs : List UInt8} (h : w.ownsRow B 5 1 v n (bv xs)) : ∃ a cap, v = .slice a n cap ∧ (convert 40 9 (.slice a n cap)).run Try.prog w = .ok (.string ⟨xs.toArray⟩) w := by
  by_cases h0 : 0 < n
  · obtain ⟨g, cap, e, r⟩ := own_string h h0
    exact ⟨_, _, e, r⟩
  · have hn : n = 0 := by omega
    subst hn
    have hx : xs = [] := by
      have := h.1
      rw [bv_length] at this
      exact List.eq_nil_of_length_eq_zero (by omega)
    subst hx
    obtain ⟨_, ⟨rfl, _⟩ | ⟨g, cap, cur, rfl, _⟩⟩ := h
    · refine ⟨none, 0, rfl, ?_⟩
      rw [run_convert_bytes_string w 40 9 5 none 0 0 Try.underlying40 Try.underlying5 Try.underlying9]
      rfl
    · exact ⟨_, cap, rfl, run_convert_bytes_back w 40 9 5 ⟨g, 0, none⟩ cap [] Try.underlying40 Try.underlying5 Try.underlying9 (by intro j hj; simp at hj)⟩

theorem own_first (w : World) (B : Nat) (c : UInt8) (hB : B ≤ w.heap.size) : (w.alloc (.cells #[.int .u8 (c.toNat : Int)] 5)).ownsRow B 5 1 (.slice (some ⟨w.heap.size, 0, none⟩) 1 1) 1 (bv [c]) :=
  ⟨rfl, Or.inr ⟨w.heap.size, 1, #[.int .u8 (c.toNat : Int)], rfl, hB, heap_alloc_new w _, Nat.le_refl _, by decide, rfl, rfl⟩⟩
theorem own_mono {w : World} {base base' : Nat} {e : TypeId} {size : Nat} {v : Value} {n : Nat} {xs : List Value} (h : w.ownsRow base e size v n xs) (hb : base' ≤ base) : w.ownsRow base' e size v n xs := by
  obtain ⟨h1, h2 | ⟨g, cap, cur, e, a, r⟩⟩ := h
  · exact ⟨h1, Or.inl h2⟩
  · exact ⟨h1, Or.inr ⟨g, cap, cur, e, Nat.le_trans hb a, r⟩⟩

/-- How long a text is. -/
def strLen : Value → Nat
  | .string s => s.size
  | _ => 0
theorem ext_drop {t : ByteArray} {n : Nat} : (t.extract n t.size).data.toList = t.data.toList.drop n := by
  simp
  exact List.take_of_length_le (by simp)

theorem own_cells {w : World} {B n : Nat} {v : Value} {xs : List UInt8} (h : w.ownsRow B 5 1 v n (bv xs)) (hn : 0 < n) :
    ∃ g cap, v = .slice (some ⟨g, 0, none⟩) n cap ∧ ∀ j u, (bv xs)[j]? = some u → w.cell? ((⟨g, 0, none⟩ : Addr).add j) = some u := by
  have hc := fun g => h.cells (g := g)
  obtain ⟨_, ⟨_, h0⟩ | ⟨g, cap, cur, rfl, _⟩⟩ := h
  · omega
  · exact ⟨g, cap, rfl, hc g rfl⟩

/-- Are two lists alike? -/
def eqL (us vs : List V3) : Bool := decide (us = vs)
theorem eqL_iff {us vs : List V3} : eqL us vs = true ↔ us = vs := by simp [eqL]
theorem eqL_self (us : List V3) : eqL us us = true := eqL_iff.2 rfl
theorem eqL_len {us vs : List V3} (h : us.length ≠ vs.length) : eqL us vs = false := by
  cases e : eqL us vs with
  | false => rfl
  | true => rw [eqL_iff.1 e] at h; exact absurd rfl h
theorem eqL_at {us vs : List V3} (k : Nat) (h : k < us.length) (h' : k < vs.length) (g : us[k] ≠ vs[k]) : eqL us vs = false := by
  cases e : eqL us vs with
  | false => rfl
  | true => exfalso; have := eqL_iff.1 e; subst this; exact g rfl
theorem eqL_all {us vs : List V3} (h : us.length = vs.length) (g : ∀ k (h : k < us.length) (h' : k < vs.length), us[k] = vs[k]) : eqL us vs = true := eqL_iff.2 (List.ext_getElem h g)
theorem cell_lt {w : World} {b o : Nat} {v : Value} (h : w.cell? ⟨b, o, none⟩ = some v) : b < w.heap.size := by
  by_cases g : b < w.heap.size
  · exact g
  · simp [World.cell?, Array.getElem?_eq_none (by omega : w.heap.size ≤ b)] at h
theorem upto2 {n m k : Nat} {p : (j : Nat) → j < n → j < m → Prop} (h : ∀ j (g : j < n) (g' : j < m), j < k → p j g g') {hlt : k < n} {hlt' : k < m} (e : p k hlt hlt') : ∀ j (g : j < n) (g' : j < m), j < k + 1 → p j g g' := by
  intro j g g' hj
  by_cases hjk : j = k
  · subst hjk; exact e
  · exact h j g g' (by omega)

theorem num_exact (n : Int) (w : World) :
    Calls Try.prog 7 #[.int .i64 n] w fun e w' => e = .returned (.agg #[.int .i64 1, .int .i64 n, .string ⟨#[]⟩]) ∧ w' = w.alloc (.cells #[.int .i64 1, .int .i64 n, .string ⟨#[]⟩] 25) := by
  go_enter Try.func7, Try.ntmps7
  go_wp2
  exact bodyPost_ret (v := .agg #[.int .i64 1, .int .i64 n, .string ⟨#[]⟩]) (by simp [results, Try.results7, go_sem]) rfl ⟨rfl, rfl⟩

theorem num_any (n : Int) (w : World) :
    Calls Try.prog 7 #[.int .i64 n] w fun e w' => e = .returned (.agg #[.int .i64 1, .int .i64 n, .string ⟨#[]⟩]) ∧ Below w.heap.size w w' := by
  refine (num_exact n w).mono ?_
  rintro e w' ⟨h, rfl⟩
  exact ⟨h, by (repeat (first | exact Below.refl _ _ | assumption | refine Below.drew ?_ | refine below_drewN ?_ _ | refine Below.alloc ?_ (by first | omega | (simp; done) | (simp; omega)) _ | refine Below.setCell ?_ (by first | omega | (simp; done) | (simp; omega)) _ | refine Below.trans ?_ (Below.mono (by assumption) (by first | omega | (simp; done) | (simp; omega)))))⟩

set_option maxHeartbeats 2000000 in
set_option maxRecDepth 100000 in
theorem same_any (a a' : Option Addr) (cap cap' : Nat) (us vs : List V3) (w : World) (hl : us.length ≤ 2147483648) (hr : Row w a us) (hr' : Row w a' vs) :
    Calls Try.prog 12 #[.slice a us.length cap, .slice a' vs.length cap'] w fun e w' => e = .returned (.bool (eqL us vs)) ∧ Below w.heap.size w w' := by
  have HR : Hid (Row w a us) := hr
  have HR' : Hid (Row w a' vs) := hr'
  clear hr hr'
  by_cases hln : us.length = vs.length
  · have hb0 : ((us.length : Int) != (vs.length : Int)) = false := by simp [hln]
    have HL : Hid (us.length = vs.length) := hln
    clear hln
    go_enter Try.func12, Try.ntmps12
    go_wp2
    go_loopw [5] (fun i wr => ∃ k : Nat, k ≤ us.length ∧ i = .int .i64 k ∧ (∀ j (h : j < us.length) (h' : j < vs.length), j < k → us[j] = vs[j]) ∧ Below w.heap.size w wr) (fun i _ => us.length - (intOf i).toNat)
    case atStart => exact ⟨0, Nat.zero_le _, rfl, fun j _ _ g => absurd g (Nat.not_lt_zero _), Below.refl _ _⟩
    case round =>
      obtain ⟨k, hk, rfl, hall, hb⟩ := hrel
      have HA : Hid (∀ j (h : j < us.length) (h' : j < vs.length), j < k → us[j] = vs[j]) := hall
      clear hall
      by_cases hlt : k < us.length
      · have hltv : k < vs.length := by have := HL.out; omega
        obtain ⟨b, off, rfl, c0, c1, c2⟩ := HR.out k hlt
        obtain ⟨b', off', rfl, p0, p1, p2⟩ := HR'.out k hltv
        have d0 := cell_later hb c0
        have d1 := cell_later hb c1
        have d2 := cell_later hb c2
        have q0 := cell_later hb p0
        have q1 := cell_later hb p1
        have q2 := cell_later hb p2
        clear c0 c1 c2 p0 p1 p2
        have hlt1 : (k : Int) < (us.length : Int) := by omega
        have hlt2 : (k : Int) < (vs.length : Int) := by omega
        by_cases hkv : us[k] = vs[k]
        · have HK : Hid (us[k] = vs[k]) := hkv
          rw [← hkv] at q0 q1 q2
          clear hkv
          go_wp2
          go_quiet (fail)
          go_wp2
          go_roundw
          case rel => exact ⟨k + 1, by omega, by go_num, upto2 HA.out HK.out, by (repeat (first | exact Below.refl _ _ | assumption | refine Below.drew ?_ | refine below_drewN ?_ _ | refine Below.alloc ?_ (by first | omega | (simp; done) | (simp; omega)) _ | refine Below.setCell ?_ (by first | omega | (simp; done) | (simp; omega)) _ | refine Below.trans ?_ (Below.mono (by assumption) (by first | omega | (simp; done) | (simp; omega)))))⟩
          case measure => simp [intOf]; omega
        · have HE : Hid (eqL us vs = false) := eqL_at k hlt hltv hkv
          obtain ⟨u, hu⟩ : ∃ u, us[k] = u := ⟨_, rfl⟩
          obtain ⟨v, hv⟩ : ∃ v, vs[k] = v := ⟨_, rfl⟩
          rw [hu] at d0 d1 d2 hkv
          rw [hv] at q0 q1 q2 hkv
          clear hu hv HA
          have hne : (u.1 == v.1) = false ∨ ((u.1 == v.1) = true ∧ (u.2.1 == v.2.1) = false) ∨ ((u.1 == v.1) = true ∧ (u.2.1 == v.2.1) = true ∧ (u.2.2.toList == v.2.2.toList) = false) := by
            by_cases e1 : u.1 = v.1
            · by_cases e2 : u.2.1 = v.2.1
              · by_cases e3 : u.2.2 = v.2.2
                · exact absurd (v3_ext e1 e2 e3) hkv
                · refine Or.inr (Or.inr ⟨by simpa using e1, by simpa using e2, ?_⟩)
                  rw [beq_eq_false_iff_ne, ByteArray.toList_eq, ByteArray.toList_eq]
                  exact fun h => e3 (ba_ext h)
              · exact Or.inr (Or.inl ⟨by simpa using e1, by simpa using e2⟩)
            · exact Or.inl (by simpa using e1)
          clear hkv
          rcases hne with e1 | ⟨e1, e2⟩ | ⟨e1, e2, e3⟩
          all_goals
            go_wp2
            go_quiet (fail)
            go_wp2
            go_ret
            exact ⟨ret_bool HE.out.symm, by (repeat (first | exact Below.refl _ _ | assumption | refine Below.drew ?_ | refine below_drewN ?_ _ | refine Below.alloc ?_ (by first | omega | (simp; done) | (simp; omega)) _ | refine Below.setCell ?_ (by first | omega | (simp; done) | (simp; omega)) _ | refine Below.trans ?_ (Below.mono (by assumption) (by first | omega | (simp; done) | (simp; omega)))))⟩
      · have hk' : k = us.length := by omega
        subst hk'
        go_wp2
        go_ret
        exact ⟨ret_bool (eqL_all HL.out (fun j h h' => HA.out j h h' h)).symm, by (repeat (first | exact Below.refl _ _ | assumption | refine Below.drew ?_ | refine below_drewN ?_ _ | refine Below.alloc ?_ (by first | omega | (simp; done) | (simp; omega)) _ | refine Below.setCell ?_ (by first | omega | (simp; done) | (simp; omega)) _ | refine Below.trans ?_ (Below.mono (by assumption) (by first | omega | (simp; done) | (simp; omega)))))⟩
  · have hb0 : ((us.length : Int) != (vs.length : Int)) = true := by simp; omega
    rw [eqL_len hln]
    clear hln
    go_enter Try.func12, Try.ntmps12
    go_wp2
    go_ret
    exact ⟨rfl, by (repeat (first | exact Below.refl _ _ | assumption | refine Below.drew ?_ | refine below_drewN ?_ _ | refine Below.alloc ?_ (by first | omega | (simp; done) | (simp; omega)) _ | refine Below.setCell ?_ (by first | omega | (simp; done) | (simp; omega)) _ | refine Below.trans ?_ (Below.mono (by assumption) (by first | omega | (simp; done) | (simp; omega)))))⟩
end Go.Proofs.Ytfgpopkibjijgaa
