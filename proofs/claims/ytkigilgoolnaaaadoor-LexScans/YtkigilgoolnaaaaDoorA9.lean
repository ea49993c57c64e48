/- Walks of layer 10: two lists of tokens, held against each other. -/
import Derived.Test.YtkigilgoolnaaaaDoorA8
import Derived.Laws.StructEq
namespace Go.Proofs.YtkigilgoolnaaaaDoor
open Go.RowKit

/-- A row of tokens, as it reads. -/
def TR (w : World) (p : Option Addr) (l : List (Tk × Nat)) : Prop :=
  ∀ i (h : i < l.length), ∃ b off, p = some ⟨b, off, none⟩ ∧ w.cell? ⟨b, off + i * 4, none⟩ = some (.int .i64 l[i].1.1) ∧ w.cell? ⟨b, off + i * 4 + 1, none⟩ = some (.int .i64 l[i].1.2.1) ∧ w.cell? ⟨b, off + i * 4 + 2, none⟩ = some (.string l[i].1.2.2) ∧ w.cell? ⟨b, off + i * 4 + 3, none⟩ = some (.int .i64 (l[i].2 : Int))
theorem TR.later {w w' : World} {p : Option Addr} {l : List (Tk × Nat)} (h : TR w p l) (hb : Below w.heap.size w w') : TR w' p l := by
  intro i hi
  obtain ⟨b, off, e, a0, a1, a2, a3⟩ := h i hi
  exact ⟨b, off, e, cell_later hb a0, cell_later hb a1, cell_later hb a2, cell_later hb a3⟩
theorem TR.of_own {w : World} {B : Nat} {p : Option Addr} {n cap : Nat} {l : List (Tk × Nat)} (h : w.ownsRow B 28 4 (.slice p n cap) n (tc l)) : TR w p l := by
  intro i hi
  have hc := fun g => h.cells (g := g)
  obtain ⟨a0, a1, a2, a3⟩ := tc_at l i hi
  obtain ⟨hl, ⟨h1, h2⟩ | ⟨g, cap', cur, e1, hb, hg, hr⟩⟩ := h
  · rw [tc_length] at hl; omega
  · injection e1 with e1 e2 e3
    subst e1
    have hcc := hc g rfl
    refine ⟨g, 0, rfl, ?_, ?_, ?_, ?_⟩
    · have := hcc (i * 4) _ a0; simpa [Addr.add_lit] using this
    · have := hcc (i * 4 + 1) _ a1; simpa [Addr.add_lit] using this
    · have := hcc (i * 4 + 2) _ a2; simpa [Addr.add_lit] using this
    · have := hcc (i * 4 + 3) _ a3; simpa [Addr.add_lit] using this
theorem TR.of_cells {w : World} {b : Nat} {l : List (Tk × Nat)} {t : TypeId} {fr : Nat × Nat} (h : w.heap[b]? = some (.cells (tc l).toArray t fr)) : TR w (some ⟨b, 0, none⟩) l := by
  intro i hi
  obtain ⟨a0, a1, a2, a3⟩ := tc_at l i hi
  refine ⟨b, 0, rfl, ?_, ?_, ?_, ?_⟩ <;> simp only [World.cell?, h, List.getElem?_toArray, Nat.zero_add]
  · exact a0
  · exact a1
  · exact a2
  · exact a3
/-- Two tokens, held against each other. -/
def tkEq (a b : Tk) (x y : Int) : Bool := decide (a.1 = b.1) && decide (a.2.1 = b.2.1) && decide (a.2.2.data.toList = b.2.2.data.toList) && decide (x = y)
theorem tkEq_iff (a b : Tk × Nat) : tkEq a.1 b.1 a.2 b.2 = true ↔ a = b := by
  obtain ⟨⟨k, n, t⟩, x⟩ := a
  obtain ⟨⟨k', n', t'⟩, x'⟩ := b
  simp only [tkEq, Bool.and_eq_true, decide_eq_true_eq, Prod.mk.injEq, Int.ofNat_inj]
  constructor
  · rintro ⟨⟨⟨h1, h2⟩, h3⟩, h4⟩
    exact ⟨⟨h1, h2, bytes_eq h3⟩, h4⟩
  · rintro ⟨⟨h1, h2, h3⟩, h4⟩
    exact ⟨⟨⟨h1, h2⟩, by rw [h3]⟩, h4⟩
theorem str_eqT (s t : ByteArray) : (s.toList == t.toList) = decide (s.data.toList = t.data.toList) := by
  rw [ByteArray.toList_eq, ByteArray.toList_eq, Bool.eq_iff_iff]
  simp
theorem neq_tok (a b : Tk) (x y : Int) (w : World) : (binOp .neq 28 (.agg #[.int .i64 a.1, .int .i64 a.2.1, .string a.2.2, .int .i64 x]) (.agg #[.int .i64 b.1, .int .i64 b.2.1, .string b.2.2, .int .i64 y])).run Tryd.prog w = .ok (.bool (!(tkEq a b x y))) w := by
  have hf : ∃ f g h k, Tryd.prog.fieldsOf 28 = #[f, g, h, k] ∧ (f.type = 3 ∧ f.offset = 0 ∧ f.name ≠ "_") ∧ (g.type = 3 ∧ g.offset = 1 ∧ g.name ≠ "_") ∧ (h.type = 9 ∧ h.offset = 2 ∧ h.name ≠ "_") ∧ k.type = 3 ∧ k.offset = 3 ∧ k.name ≠ "_" := by
    refine ⟨_, _, _, _, (by kernel_rfl : Tryd.prog.fieldsOf 28 = #[(Tryd.prog.fieldsOf 28)[0]!, (Tryd.prog.fieldsOf 28)[1]!, (Tryd.prog.fieldsOf 28)[2]!, (Tryd.prog.fieldsOf 28)[3]!]), ⟨by kernel_rfl, by kernel_rfl, by decide +kernel⟩, ⟨by kernel_rfl, by kernel_rfl, by decide +kernel⟩, ⟨by kernel_rfl, by kernel_rfl, by decide +kernel⟩, by kernel_rfl, by kernel_rfl, by decide +kernel⟩
  obtain ⟨f, g, h, k, e, ⟨f1, f2, f3⟩, ⟨g1, g2, g3⟩, ⟨h1, h2, h3⟩, k1, k2, k3⟩ := hf
  rw [run_neq_struct, run_equalIn_agg _ _ _ _ _ (by kernel_rfl) (by kernel_rfl), e]
  have hse := str_eqT a.2.2 b.2.2
  simp [f1, g1, f2, g2, f3, g3, h1, h2, h3, k1, k2, k3, go_sem, Tryd.underlying9, Tryd.underlying3, hse]
  by_cases q1 : a.1 = b.1 <;> by_cases q2 : a.2.1 = b.2.1 <;> by_cases q3 : a.2.2.data = b.2.2.data <;> by_cases q4 : x = y <;> simp [tkEq, q1, q2, q3, q4]
theorem guard_tok (op : BinOp) (x y : Operand) (xs ys : Array Value) (w : World) : (eqGuard op 28 x y (.agg xs) (.agg ys)).run Tryd.prog w = .ok () w := run_eqGuard_agg _ _ _ _ _ _ _ (by kernel_rfl)
/-- Told is whether the two are the same. -/
def SamP {α : Type} (p q : α) (w : World) (e : Ending) (w' : World) : Prop := ∃ b, e = .returned (.bool b) ∧ (b = true ↔ p = q) ∧ Below w.heap.size w w'

set_option maxHeartbeats 8000000 in
set_option maxRecDepth 100000 in
theorem same_any (pa pb : Option Addr) (ca cb : Nat) (l m : List (Tk × Nat)) (w : World) (ha : TR w pa l) (hb : TR w pb m) (hl : l.length ≤ 1099511627776) :
    Calls Tryd.prog 11 #[.slice pa l.length ca, .slice pb m.length cb] w (SamP l m w) := by
  have HA := Lib.hid ha
  have HB := Lib.hid hb
  clear ha hb
  go_enter Tryd.func11, Tryd.ntmps11
  by_cases hlm : l.length = m.length
  · have HLM := Lib.hid hlm
    rw [← hlm]
    clear hlm
    go_wp2
    go_loopw [5] (fun i wr => ∃ k : Nat, k ≤ l.length ∧ i = .int .i64 k ∧ l.take k = m.take k ∧ Below w.heap.size w wr) (fun i _ => l.length - (intOf i).toNat)
    case atStart => exact ⟨0, Nat.zero_le _, rfl, rfl, by (repeat (first | exact Below.refl _ _ | assumption | refine Below.drew ?_ | refine below_drewN ?_ _ | refine Below.alloc ?_ (by first | omega | (simp; done) | (simp; omega)) _ | refine Below.setCell ?_ (by first | omega | (simp; done) | (simp; omega)) _ | refine Below.trans ?_ (Below.mono (by assumption) (by first | omega | (simp; done) | (simp; omega)))))⟩
    case round =>
      obtain ⟨k, hk, rfl, hall, hbl⟩ := hrel
      have HT := Lib.hid hall
      have HBL := Lib.hid hbl
      clear hall hbl
      by_cases hlt : k < l.length
      · have hlti : (k : Int) < (l.length : Int) := by omega
        have hlt2 : k < m.length := by have := HLM.out; omega
        obtain ⟨b1, o1, rfl, a0, a1, a2, a3⟩ := (HA.out.later HBL.out) k hlt
        obtain ⟨b2, o2, rfl, c0, c1, c2, c3⟩ := (HB.out.later HBL.out) k hlt2
        obtain ⟨x, hx⟩ : ∃ x, l[k] = x := ⟨_, rfl⟩
        obtain ⟨y, hy⟩ : ∃ y, m[k] = y := ⟨_, rfl⟩
        rw [hx] at a0 a1 a2 a3
        rw [hy] at c0 c1 c2 c3
        have HXY : Hid (l[k] = x ∧ m[k] = y) := ⟨hx, hy⟩
        clear hx hy
        have hnq := neq_tok x.1 y.1 x.2 y.2
        have hgp := guard_tok
        by_cases he : x = y
        · have HT2 : Hid (l.take (k + 1) = m.take (k + 1)) := by
            show l.take (k + 1) = m.take (k + 1)
            rw [List.take_succ_eq_append_getElem hlt, List.take_succ_eq_append_getElem hlt2, HT.out, HXY.out.1, HXY.out.2, he]
          rw [(tkEq_iff x y).2 he] at hnq
          simp only [Bool.not_true] at hnq
          clear he
          go_wp2
          go_quiet (fail)
          go_wp2
          go_roundw
          case rel => exact ⟨k + 1, by omega, by go_num, HT2.out, by have h0 := HBL.out; (repeat (first | exact Below.refl _ _ | assumption | refine Below.drew ?_ | refine below_drewN ?_ _ | refine Below.alloc ?_ (by first | omega | (simp; done) | (simp; omega)) _ | refine Below.setCell ?_ (by first | omega | (simp; done) | (simp; omega)) _ | refine Below.trans ?_ (Below.mono (by assumption) (by first | omega | (simp; done) | (simp; omega)))))⟩
          case measure => simp [intOf]; omega
        · have HE : Hid (¬ l = m) := fun e => he (by rw [← HXY.out.1, ← HXY.out.2]; simp only [e])
          have hz : tkEq x.1 y.1 x.2 y.2 = false := by
            cases h : tkEq x.1 y.1 x.2 y.2
            · rfl
            · exact absurd ((tkEq_iff x y).1 h) he
          rw [hz] at hnq
          simp only [Bool.not_false] at hnq
          clear he hz
          go_wp2
          go_quiet (fail)
          go_wp2
          refine bodyPost_ret (v := .bool false) (by simp [results, Tryd.results11, go_sem]) rfl ?_
          exact ⟨false, rfl, ⟨fun h => by simp at h, fun h => absurd h HE.out⟩, by have h0 := HBL.out; (repeat (first | exact Below.refl _ _ | assumption | refine Below.drew ?_ | refine below_drewN ?_ _ | refine Below.alloc ?_ (by first | omega | (simp; done) | (simp; omega)) _ | refine Below.setCell ?_ (by first | omega | (simp; done) | (simp; omega)) _ | refine Below.trans ?_ (Below.mono (by assumption) (by first | omega | (simp; done) | (simp; omega)))))⟩
      · have hlti : ¬ (k : Int) < (l.length : Int) := by omega
        have HE : Hid (l = m) := by
          have h := HT.out
          have hl := HLM.out
          rw [List.take_of_length_le (by omega), List.take_of_length_le (by omega)] at h
          exact h
        go_wp2
        refine bodyPost_ret (v := .bool true) (by simp [results, Tryd.results11, go_sem]) rfl ?_
        exact ⟨true, rfl, ⟨fun _ => HE.out, fun _ => rfl⟩, by have h0 := HBL.out; (repeat (first | exact Below.refl _ _ | assumption | refine Below.drew ?_ | refine below_drewN ?_ _ | refine Below.alloc ?_ (by first | omega | (simp; done) | (simp; omega)) _ | refine Below.setCell ?_ (by first | omega | (simp; done) | (simp; omega)) _ | refine Below.trans ?_ (Below.mono (by assumption) (by first | omega | (simp; done) | (simp; omega)))))⟩
  · have HE : Hid (¬ l = m) := fun e => hlm (by rw [e])
    have hne : ((l.length : Int) != (m.length : Int)) = true := by simp; omega
    clear hlm
    go_wp2
    refine bodyPost_ret (v := .bool false) (by simp [results, Tryd.results11, go_sem]) rfl ?_
    exact ⟨false, rfl, ⟨fun h => by simp at h, fun h => absurd h HE.out⟩, by (repeat (first | exact Below.refl _ _ | assumption | refine Below.drew ?_ | refine below_drewN ?_ _ | refine Below.alloc ?_ (by first | omega | (simp; done) | (simp; omega)) _ | refine Below.setCell ?_ (by first | omega | (simp; done) | (simp; omega)) _ | refine Below.trans ?_ (Below.mono (by assumption) (by first | omega | (simp; done) | (simp; omega)))))⟩
end Go.Proofs.YtkigilgoolnaaaaDoor
