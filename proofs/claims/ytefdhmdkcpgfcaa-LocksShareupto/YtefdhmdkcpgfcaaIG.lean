/- Walks of layer 19: the program's meet; does a place keep another one waiting? -/
import Derived.Test.YtefdhmdkcpgfcaaIF
namespace Go.Proofs.Ytefdhmdkcpgfcaa
open Go.RowKit

set_option maxHeartbeats 8000000 in
set_option maxRecDepth 100000 in
theorem meet_any (pa pb : Option Addr) (ca cb : Nat) (la lb : List Lk) (w : World) (ra : RowR 4 LkR w pa la) (rb : RowR 4 LkR w pb lb) (ha : la.length ≤ 1099511627776) (hb : lb.length ≤ 1099511627776) : Calls Try.prog 57 #[.slice pa la.length ca, .slice pb lb.length cb] w fun e w' => e = .returned (.bool (anyM la lb)) ∧ Below w.heap.size w w' := by
  have HA := Lib.hid ra
  have HB := Lib.hid rb
  clear ra rb
  go_enter Try.func57, Try.ntmps57
  go_wp2
  go_loopw [11] (fun i wr => ∃ k : Nat, k ≤ la.length ∧ i = .int .i64 k ∧ (∀ i (g : i < la.length), i < k → lb.any (fun y => lkM la[i] y) = false) ∧ Below w.heap.size w wr) (fun i _ => la.length - (intOf i).toNat)
  case atStart => exact ⟨0, Nat.zero_le _, rfl, fun j _ g => absurd g (Nat.not_lt_zero _), Below.refl _ _⟩
  case round =>
    obtain ⟨i, hi, rfl, hall, hb0⟩ := hrel
    have HL := Lib.hid hall
    have HB0 := Lib.hid hb0
    clear hall
    by_cases hlt : i < la.length
    · have hlti : (i : Int) < (la.length : Int) := by omega
      obtain ⟨x, hx⟩ : ∃ x, la[i] = x := ⟨_, rfl⟩
      have hat := lock_at HA.out hlt
      rw [hx] at hat
      obtain ⟨b1, o1, rfl, c0, c1, c2, c3⟩ := hat
      have d0 := cell_later hb0 c0
      have d1 := cell_later hb0 c1
      have d2 := cell_later hb0 c2
      have d3 := cell_later hb0 c3
      have HX := Lib.hid hx
      clear c0 c1 c2 c3 hx hb0
      obtain ⟨W1, hW1⟩ : ∃ W1, wr.alloc (Obj.cells #[.int .i64 x.tb, .string x.lo, .string x.hi, .bool x.wr] 23) = W1 := ⟨_, rfl⟩
      have hbW : Below wr.heap.size wr W1 := by rw [← hW1]; exact (Below.refl _ _).alloc (Nat.le_refl _) _
      have q0 : W1.cell? ⟨wr.heap.size, 0, none⟩ = some (.int .i64 x.tb) := by
        rw [← hW1]
        exact cell_blk (heap_alloc_new wr _) rfl
      have q1 : W1.cell? ⟨wr.heap.size, 1, none⟩ = some (.string x.lo) := by
        rw [← hW1]
        exact cell_blk (heap_alloc_new wr _) rfl
      have q2 : W1.cell? ⟨wr.heap.size, 2, none⟩ = some (.string x.hi) := by
        rw [← hW1]
        exact cell_blk (heap_alloc_new wr _) rfl
      have q3 : W1.cell? ⟨wr.heap.size, 3, none⟩ = some (.bool x.wr) := by
        rw [← hW1]
        exact cell_blk (heap_alloc_new wr _) rfl
      have HQ := Lib.hid (And.intro q0 (And.intro q1 (And.intro q2 q3)))
      have HW1 := Lib.hid (HB0.out.trans (hbW.mono HB0.out.size))
      clear q0 q1 q2 q3
      go_wp2_with fail
      try rw [hW1]
      obtain ⟨bx, hbx⟩ : ∃ bx, wr.heap.size = bx := ⟨_, rfl⟩
      rw [hbx] at HQ
      try rw [hbx]
      clear hW1 hbW d0 d1 d2 d3 hbx
      go_loopw [17] (fun i' wr => ∃ k : Nat, k ≤ lb.length ∧ i' = .int .i64 k ∧ (∀ j (g : j < lb.length), j < k → lkM x lb[j] = false) ∧ Below W1.heap.size W1 wr) (fun i' _ => lb.length - (intOf i').toNat)
      case atStart => exact ⟨0, Nat.zero_le _, rfl, fun j _ g => absurd g (Nat.not_lt_zero _), Below.refl _ _⟩
      case round =>
        rename World => wz
        obtain ⟨k, hk, rfl, hall, hb1⟩ := hrel
        have HK := Lib.hid hall
        have HB1 := Lib.hid hb1
        have HBW := Lib.hid (HW1.out.trans (hb1.mono HW1.out.size))
        clear hall
        by_cases hlk : k < lb.length
        · have hlki : (k : Int) < (lb.length : Int) := by omega
          obtain ⟨y, hy⟩ : ∃ y, lb[k] = y := ⟨_, rfl⟩
          have hat := lock_at HB.out hlk
          rw [hy] at hat
          obtain ⟨b2, o2, rfl, p0, p1, p2, p3⟩ := hat
          have e0 := cell_later HBW.out p0
          have e1 := cell_later HBW.out p1
          have e2 := cell_later HBW.out p2
          have e3 := cell_later HBW.out p3
          have HY := Lib.hid hy
          clear p0 p1 p2 p3 hy hb1
          obtain ⟨m, hm⟩ : ∃ m, lkM x y = m := ⟨_, rfl⟩
          have HM := Lib.hid hm
          clear hm
          have g0 := cell_later HB1.out HQ.out.1
          have g1 := cell_later HB1.out HQ.out.2.1
          have g2 := cell_later HB1.out HQ.out.2.2.1
          have g3 := cell_later HB1.out HQ.out.2.2.2
          have hbz : bx < wz.heap.size := cell_lt g0
          have hbn : bx ≠ wz.heap.size := Nat.ne_of_lt hbz
          have HC := Lib.hid (fun W => conflict_any x y W)
          simp only [lkC] at HC
          rw [HM.out] at HC
          have HBA := Lib.hid (HBW.out.alloc HBW.out.size (Obj.cells #[.int .i64 y.tb, .string y.lo, .string y.hi, .bool y.wr] 23))
          have HB1A := Lib.hid (HB1.out.alloc HB1.out.size (Obj.cells #[.int .i64 y.tb, .string y.lo, .string y.hi, .bool y.wr] 23))
          cases m with
          | false =>
            go_wp2_with (first | (go_at_call 10; refine (HC.out _).mono ?_; rintro e w5 ⟨rfl, hb5⟩))
            go_roundw
            case rel => exact ⟨k + 1, by omega, by go_num, upto1 HK.out hlk (by rw [HY.out]; exact HM.out), HB1A.out.trans (hb5.mono HB1A.out.size)⟩
            case measure => simp [intOf]; omega
          | true =>
            have HE : Hid (anyM la lb = true) := Lib.hid (anyM_iff.2 ⟨x, HX.out ▸ List.getElem_mem hlt, y, HY.out ▸ List.getElem_mem hlk, HM.out⟩)
            go_wp2_with (first | (go_at_call 10; refine (HC.out _).mono ?_; rintro e w5 ⟨rfl, hb5⟩))
            go_ret
            exact ⟨ret_bool HE.out.symm, HBA.out.trans (hb5.mono HBA.out.size)⟩
        · have hlki : ¬ (k : Int) < (lb.length : Int) := by omega
          have HN : Hid (lb.any (fun y => lkM x y) = false) := Lib.hid (any_upto fun j g => HK.out j g (by omega))
          clear hb1
          go_wp2
          go_roundw
          case rel => exact ⟨i + 1, by omega, by go_num, upto1 HL.out hlt (by rw [HX.out]; exact HN.out), HBW.out⟩
          case measure => simp [intOf]; omega
    · have hlti : ¬ (i : Int) < (la.length : Int) := by omega
      have HE : Hid (anyM la lb = false) := Lib.hid (anyM_no (by omega : i = la.length) HL.out)
      go_wp2
      go_ret
      exact ⟨ret_bool HE.out.symm, HB0.out⟩

/-- A place's value. -/
abbrev plV (p : Pl9) (q : Option Addr) (c : Nat) : Value := .agg #[.int .i64 p.pos, .slice q p.ls.length c]
/-- Does p wait for a? -/
def kpB (p a : Pl9) : Bool := decide (a.pos < p.pos) && anyM a.ls p.ls
set_option maxHeartbeats 4000000 in
set_option maxRecDepth 100000 in
theorem keep1_any (p a : Pl9) (qa qp : Option Addr) (ca cp x0 : Nat) (w : World) (ra : RowR 4 LkR w qa a.ls) (rp : RowR 4 LkR w qp p.ls) (h0 : w.cell? ⟨x0, 0, none⟩ = some (.int .i64 p.pos)) (h1 : w.cell? ⟨x0, 1, none⟩ = some (.slice qp p.ls.length cp)) (ha : a.ls.length ≤ 1099511627776) (hp : p.ls.length ≤ 1099511627776) : Calls Try.prog 56 #[plV a qa ca, .pointer (some ⟨x0, 0, none⟩)] w fun e w' => e = .returned (.bool (kpB p a)) ∧ Below w.heap.size w w' := by
  have HM := Lib.hid (meet_any qa qp ca cp a.ls p.ls (w.alloc (Obj.cells #[.int .i64 a.pos, .slice qa a.ls.length ca] 68)) (ra.later ((Below.refl _ _).alloc (Nat.le_refl _) _) fun _ _ h => h) (rp.later ((Below.refl _ _).alloc (Nat.le_refl _) _) fun _ _ h => h) ha hp)
  obtain ⟨ap, al⟩ := a
  obtain ⟨pp, pl⟩ := p
  unfold kpB
  simp only at *
  have hxl : x0 < w.heap.size := cell_lt h0
  have hxn : x0 ≠ w.heap.size := Nat.ne_of_lt hxl
  clear ra rp
  by_cases hlt : ap < pp
  · rw [decide_eq_true hlt, Bool.true_and]
    obtain ⟨m, hm⟩ : ∃ m, anyM al pl = m := ⟨_, rfl⟩
    rw [hm] at HM ⊢
    clear hm
    go_enter Try.func56, Try.ntmps56
    go_wp2_with (first | (go_at_call 57; refine HM.out.mono ?_; rintro e w5 ⟨rfl, hb5⟩))
    go_ret
    exact ⟨by simp, ((Below.refl _ _).alloc (Nat.le_refl _) _).trans (hb5.mono (by simp))⟩
  · rw [decide_eq_false hlt, Bool.false_and]
    go_enter Try.func56, Try.ntmps56
    go_wp2
    go_ret
    exact ⟨rfl, by (repeat (first | exact Below.refl _ _ | assumption | refine Below.drew ?_ | refine below_drewN ?_ _ | refine Below.alloc ?_ (by first | omega | (simp; done) | (simp; omega)) _ | refine Below.setCell ?_ (by first | omega | (simp; done) | (simp; omega)) _ | refine Below.trans ?_ (Below.mono (by assumption) (by first | omega | (simp; done) | (simp; omega)))))⟩

set_option maxHeartbeats 4000000 in
set_option maxRecDepth 100000 in
theorem keeping_any (p : Pl9) (qp : Option Addr) (cp : Nat) (w : World) : Calls Try.prog 47 #[plV p qp cp] w fun e w' => e = .returned (.func (.func 56) #[] #[.pointer (some ⟨w.heap.size, 0, none⟩)]) ∧ w' = w.alloc (.cells #[.int .i64 p.pos, .slice qp p.ls.length cp] 68) := by
  go_enter Try.func47, Try.ntmps47
  go_wp2
  go_ret
  exact ⟨rfl, rfl⟩
end Go.Proofs.Ytefdhmdkcpgfcaa
