/- Walks of layer 8: the document's SameInts. -/
import Derived.Test.YtkgkkcefnonejaaGreatT46
import Derived.Laws.StructEq
import Derived.Test.YtkgkkcefnonejaaGreatT40
import Derived.Test.YtkgkkcefnonejaaGreatT43
import Derived.Test.YtkgkkcefnonejaaGreatT45
namespace Go.Proofs.YtkgkkcefnonejaaGreat
open Go.RowKit

theorem quiet_below {w w' : World} (h : ∃ n, w' = w.drewN n) : Below w.heap.size w w' := by
  obtain ⟨n, rfl⟩ := h
  exact below_drewN (Below.refl _ _) n
theorem quiet_more {w w' : World} (h : ∃ n, w' = w.drewN n) (m : Nat) : ∃ n, w'.drewN m = w.drewN n := by
  obtain ⟨n, rfl⟩ := h
  exact ⟨n + m, World.drewN_drewN _ _ _⟩
set_option maxHeartbeats 4000000 in
set_option maxRecDepth 100000 in
theorem sameInts_any (pa pb : Option Addr) (ca cb : Nat) (la lb : List Int) (w : World) (ra : RowR 1 IntR w pa la) (rb : RowR 1 IntR w pb lb) (ha : la.length ≤ 1099511627776) :
    Calls Tryz.prog 70 #[.slice pa la.length ca, .slice pb lb.length cb] w fun e w' => e = .returned (.bool (decide (la = lb))) ∧ ∃ n, w' = w.drewN n := by
  have HA := Lib.hid ra
  have HB := Lib.hid rb
  clear ra rb
  go_enter Tryz.func70, Tryz.ntmps70
  by_cases hl : la.length = lb.length
  · have hli : (la.length : Int) = (lb.length : Int) := by omega
    go_wp2
    go_loopw [5] (fun i wr => ∃ k : Nat, k ≤ la.length ∧ i = .int .i64 k ∧ la.take k = lb.take k ∧ ∃ n, wr = w.drewN n) (fun i _ => la.length - (intOf i).toNat)
    case atStart => exact ⟨0, Nat.zero_le _, rfl, rfl, 0, rfl⟩
    case round =>
      obtain ⟨k, hk, rfl, hall, hbl⟩ := hrel
      have HT := Lib.hid hall
      have QW := Lib.hid hbl
      have HBL := Lib.hid (quiet_below hbl)
      clear hall hbl
      by_cases hlt : k < la.length
      · have hlti : (k : Int) < (la.length : Int) := by omega
        have hlt2 : k < lb.length := by omega
        have hlti2 : (k : Int) < (lb.length : Int) := by omega
        obtain ⟨b1, o1, v1, rfl, hR1, e1⟩ := HA.out.at1 hlt
        obtain ⟨b2, o2, v2, rfl, hR2, e2⟩ := HB.out.at1 hlt2
        simp only [IntR, List.cons.injEq, and_true] at hR1 hR2
        subst hR1 hR2
        have d1 := cell_later HBL.out e1
        have d2 := cell_later HBL.out e2
        clear e1 e2
        obtain ⟨x, hx⟩ : ∃ x, la[k] = x := ⟨_, rfl⟩
        obtain ⟨y, hy⟩ : ∃ y, lb[k] = y := ⟨_, rfl⟩
        rw [hx] at d1
        rw [hy] at d2
        by_cases he : x = y
        · have HT2 : Hid (la.take (k + 1) = lb.take (k + 1)) := by
            show la.take (k + 1) = lb.take (k + 1)
            rw [List.take_succ_eq_append_getElem hlt, List.take_succ_eq_append_getElem hlt2, HT.out, hx, hy, he]
          subst he
          clear hx hy
          go_wp2
          go_quiet (fail)
          go_wp2
          go_roundw
          case rel => exact ⟨k + 1, by omega, by go_num, HT2.out, quiet_more QW.out _⟩
          case measure => simp [intOf]; omega
        · have HE : Hid (¬ la = lb) := fun e => he (by rw [← hx, ← hy]; simp only [e])
          clear hx hy
          go_wp2
          go_quiet (fail)
          go_wp2
          go_ret
          exact ⟨congrArg (fun b => Ending.returned (.bool b)) (decide_eq_false HE.out).symm, quiet_more QW.out _⟩
      · have hlti : ¬ (k : Int) < (la.length : Int) := by omega
        have HE : Hid (la = lb) := by
          have h := HT.out
          rwa [List.take_of_length_le (by omega), List.take_of_length_le (by omega)] at h
        go_wp2
        go_ret
        exact ⟨congrArg (fun b => Ending.returned (.bool b)) (decide_eq_true HE.out).symm, QW.out⟩
  · have hli : ¬ (la.length : Int) = (lb.length : Int) := by omega
    have HE : Hid (¬ la = lb) := fun e => hl (by rw [e])
    go_wp2
    go_ret
    exact ⟨congrArg (fun b => Ending.returned (.bool b)) (decide_eq_false HE.out).symm, 0, rfl⟩
end Go.Proofs.YtkgkkcefnonejaaGreat
/- Layer 8: two parameters, two columns compared. -/
namespace Go.Proofs.YtkgkkcefnonejaaGreat
open Go.RowKit

theorem neq_prm (a b : ByteArray) (x y : Int) (w : World) : (binOp .neq 66 (.agg #[.string a, .int .i64 x]) (.agg #[.string b, .int .i64 y])).run Tryz.prog w = .ok (.bool (!(decide (bs a = bs b) && decide (x = y)))) w := by
  have hf : ∃ f g, Tryz.prog.fieldsOf 66 = #[f, g] ∧ (f.type = 9 ∧ f.offset = 0 ∧ f.name ≠ "_") ∧ g.type = 3 ∧ g.offset = 1 ∧ g.name ≠ "_" := by
    refine ⟨_, _, (by kernel_rfl : Tryz.prog.fieldsOf 66 = #[(Tryz.prog.fieldsOf 66)[0]!, (Tryz.prog.fieldsOf 66)[1]!]), ⟨by kernel_rfl, by kernel_rfl, by decide +kernel⟩, by kernel_rfl, by kernel_rfl, by decide +kernel⟩
  obtain ⟨f, g, e, ⟨f1, f2, f3⟩, g1, g2, g3⟩ := hf
  rw [run_neq_struct, run_equalIn_agg _ _ _ _ _ (by kernel_rfl) (by kernel_rfl), e]
  have hse := str_eq a b
  simp [f1, g1, f2, g2, f3, g3, go_sem, Tryz.underlying9, Tryz.underlying3, hse]
  by_cases h1 : bs a = bs b <;> by_cases h2 : x = y <;> simp [h1, h2]
theorem neq_col (a b : ByteArray) (x y : Int) (u v : Bool) (w : World) : (binOp .neq 62 (.agg #[.string a, .int .i64 x, .bool u]) (.agg #[.string b, .int .i64 y, .bool v])).run Tryz.prog w = .ok (.bool (!(decide (bs a = bs b) && decide (x = y) && decide (u = v)))) w := by
  have hf : ∃ f g h, Tryz.prog.fieldsOf 62 = #[f, g, h] ∧ (f.type = 9 ∧ f.offset = 0 ∧ f.name ≠ "_") ∧ (g.type = 3 ∧ g.offset = 1 ∧ g.name ≠ "_") ∧ h.type = 4 ∧ h.offset = 2 ∧ h.name ≠ "_" := by
    refine ⟨_, _, _, (by kernel_rfl : Tryz.prog.fieldsOf 62 = #[(Tryz.prog.fieldsOf 62)[0]!, (Tryz.prog.fieldsOf 62)[1]!, (Tryz.prog.fieldsOf 62)[2]!]), ⟨by kernel_rfl, by kernel_rfl, by decide +kernel⟩, ⟨by kernel_rfl, by kernel_rfl, by decide +kernel⟩, by kernel_rfl, by kernel_rfl, by decide +kernel⟩
  obtain ⟨f, g, h, e, ⟨f1, f2, f3⟩, ⟨g1, g2, g3⟩, h1, h2, h3⟩ := hf
  rw [run_neq_struct, run_equalIn_agg _ _ _ _ _ (by kernel_rfl) (by kernel_rfl), e]
  have hse := str_eq a b
  simp [f1, g1, f2, g2, f3, g3, h1, h2, h3, go_sem, Tryz.underlying9, Tryz.underlying3, Tryz.underlying4, hse]
  by_cases k1 : bs a = bs b <;> by_cases k2 : x = y <;> by_cases k3 : u = v <;> simp [k1, k2, k3]
theorem guard_prm (op : BinOp) (x y : Operand) (xs ys : Array Value) (w : World) : (eqGuard op 66 x y (.agg xs) (.agg ys)).run Tryz.prog w = .ok () w := run_eqGuard_agg _ _ _ _ _ _ _ (by kernel_rfl)
theorem guard_col (op : BinOp) (x y : Operand) (xs ys : Array Value) (w : World) : (eqGuard op 62 x y (.agg xs) (.agg ys)).run Tryz.prog w = .ok () w := run_eqGuard_agg _ _ _ _ _ _ _ (by kernel_rfl)
end Go.Proofs.YtkgkkcefnonejaaGreat
/- Walks of layer 8: the document's SameProc. -/
namespace Go.Proofs.YtkgkkcefnonejaaGreat
open Go.RowKit

/-- Told is whether the two are the same. -/
def SamP {α : Type} (p q : α) (w : World) (e : Ending) (w' : World) : Prop := ∃ b, e = .returned (.bool b) ∧ (b = true ↔ p = q) ∧ Below w.heap.size w w'

set_option maxHeartbeats 8000000 in
set_option maxRecDepth 100000 in
theorem sameProc_any (p q : Pc) (us vs : List Value) (w : World) (hp : PcR w p us) (hq : PcR w q vs) (h1 : p.prms.length ≤ 1099511627776) (h2 : p.body.length ≤ 1099511627776) :
    Calls Tryz.prog 33 #[.agg us.toArray, .agg vs.toArray] w (SamP p q w) := by
  obtain ⟨n1, l1, m1, x1, y1⟩ := p
  obtain ⟨n2, l2, m2, x2, y2⟩ := q
  obtain ⟨pa, ca, pb, cb, rfl, ra, rb⟩ := hp
  obtain ⟨qa, da, qb, db, rfl, sa, sb⟩ := hq
  have HA := Lib.hid ra
  have HB := Lib.hid rb
  have GA := Lib.hid sa
  have GB := Lib.hid sb
  clear ra rb sa sb
  have HBX : Hid (∀ W, Below (w.heap.size + 1 + 1) ((w.alloc (.cells #[.string n1, .slice pa l1.length ca, .slice pb m1.length cb, .int .i64 x1, .int .i64 y1] 52)).alloc (.cells #[.string n2, .slice qa l2.length da, .slice qb m2.length db, .int .i64 x2, .int .i64 y2] 52)) W → W.heap[w.heap.size]? = some (.cells #[.string n1, .slice pa l1.length ca, .slice pb m1.length cb, .int .i64 x1, .int .i64 y1] 52 (0, 0)) ∧ W.heap[w.heap.size + 1]? = some (.cells #[.string n2, .slice qa l2.length da, .slice qb m2.length db, .int .i64 x2, .int .i64 y2] 52 (0, 0)) ∧ Below w.heap.size w W) := by
    intro W h
    refine ⟨(h.block _ (by omega)).trans (heap_of (heap_alloc_new w _) ((Below.refl _ _).alloc (Nat.le_refl _) _)), (h.block _ (by omega)).trans ?_, (((Below.refl _ _).alloc (Nat.le_refl _) _).alloc (by simp) _).trans (h.mono (by omega))⟩
    have := heap_alloc_new (w.alloc (.cells #[.string n1, .slice pa l1.length ca, .slice pb m1.length cb, .int .i64 x1, .int .i64 y1] 52)) (.cells #[.string n2, .slice qa l2.length da, .slice qb m2.length db, .int .i64 x2, .int .i64 y2] 52 (0, 0))
    simpa using this
  have hse := str_eq n1 n2
  go_enter Tryz.func33, Tryz.ntmps33
  by_cases hne : bs n1 = bs n2
  · obtain rfl := bs_inj hne
    rw [decide_eq_true rfl] at hse
    by_cases hx : x1 = x2
    · subst hx
      by_cases hy : y1 = y2
      · subst hy
        by_cases hl : l1.length = l2.length
        · by_cases hm : m1.length = m2.length
          · simp only at h1 h2
            have HL := Lib.hid hl
            have HM := Lib.hid hm
            rw [← hl, ← hm] at HBX ⊢
            clear hl hm
            go_wp2
            go_loopw [5] (fun i wr => ∃ k : Nat, k ≤ l1.length ∧ i = .int .i64 k ∧ l1.take k = l2.take k ∧ Below (w.heap.size + 1 + 1) ((w.alloc (.cells #[.string n1, .slice pa l1.length ca, .slice pb m1.length cb, .int .i64 x1, .int .i64 y1] 52)).alloc (.cells #[.string n1, .slice qa l1.length da, .slice qb m1.length db, .int .i64 x1, .int .i64 y1] 52)) wr) (fun i _ => l1.length - (intOf i).toNat)
            case atStart => exact ⟨0, Nat.zero_le _, rfl, rfl, by first | exact Below.refl _ _ | simpa using Below.refl _ _⟩
            case round =>
              obtain ⟨k, hk, rfl, hall, hbl⟩ := hrel
              have HT := Lib.hid hall
              have HBL := Lib.hid hbl
              obtain ⟨e0, e1, e2⟩ := HBX.out _ hbl
              have WK := Lib.hid e2
              obtain ⟨s0, s1, s2, s3, s4⟩ := five_of e0
              obtain ⟨t0, t1, t2, t3, t4⟩ := five_of e1
              clear hall hbl e0 e1 e2
              by_cases hlt : k < l1.length
              · have hlti : (k : Int) < (l1.length : Int) := by omega
                have hlt2 : k < l2.length := by have := HL.out; omega
                obtain ⟨b1, o1, v1, v2, rfl, hR1, e1, e2⟩ := HA.out.at2 hlt
                obtain ⟨b2, o2, v3, v4, rfl, hR2, e3, e4⟩ := GA.out.at2 hlt2
                simp only [PmR, List.cons.injEq, and_true] at hR1 hR2
                obtain ⟨rfl, rfl⟩ := hR1
                obtain ⟨rfl, rfl⟩ := hR2
                have d1 := cell_later WK.out e1
                have d2 := cell_later WK.out e2
                have d3 := cell_later WK.out e3
                have d4 := cell_later WK.out e4
                clear e1 e2 e3 e4
                have hnq := neq_prm l1[k].nm l2[k].nm l1[k].ty l2[k].ty
                have hgp := guard_prm
                by_cases he : l1[k] = l2[k]
                · have HT2 : Hid (l1.take (k + 1) = l2.take (k + 1)) := by
                    show l1.take (k + 1) = l2.take (k + 1)
                    rw [List.take_succ_eq_append_getElem hlt, List.take_succ_eq_append_getElem hlt2, HT.out, he]
                  have hz : (!(decide (bs l1[k].nm = bs l2[k].nm) && decide (l1[k].ty = l2[k].ty))) = false := by simp [he]
                  simp only [hz] at hnq
                  clear he hz
                  go_wp2
                  go_quiet (fail)
                  go_wp2
                  go_roundw
                  case rel => exact ⟨k + 1, by omega, by go_num, HT2.out, by have h0 := HBL.out; (repeat (first | exact Below.refl _ _ | assumption | refine Below.drew ?_ | refine below_drewN ?_ _ | refine Below.alloc ?_ (by first | omega | (simp; done) | (simp; omega)) _ | refine Below.setCell ?_ (by first | omega | (simp; done) | (simp; omega)) _ | refine Below.trans ?_ (Below.mono (by assumption) (by first | omega | (simp; done) | (simp; omega)))))⟩
                  case measure => simp [intOf]; omega
                · have HE : Hid (¬ l1 = l2) := fun e => he (by simp only [e])
                  have hz : (!(decide (bs l1[k].nm = bs l2[k].nm) && decide (l1[k].ty = l2[k].ty))) = true := by
                    cases h : (decide (bs l1[k].nm = bs l2[k].nm) && decide (l1[k].ty = l2[k].ty))
                    · rfl
                    · simp only [Bool.and_eq_true, decide_eq_true_eq] at h
                      refine absurd ?_ he
                      have h1 := bs_inj h.1
                      have h2 := h.2
                      revert h1 h2
                      generalize l1[k] = u
                      generalize l2[k] = v
                      intro h1 h2
                      cases u; cases v
                      simp only at h1 h2
                      rw [h1, h2]
                  simp only [hz] at hnq
                  clear he hz
                  go_wp2
                  go_quiet (fail)
                  go_wp2
                  refine bodyPost_ret (v := .bool false) (by simp [results, Tryz.results33, go_sem]) rfl ?_
                  refine ⟨false, rfl, ⟨fun h => by simp at h, fun h => ?_⟩, by have h0 := WK.out; (repeat (first | exact Below.refl _ _ | assumption | refine Below.drew ?_ | refine below_drewN ?_ _ | refine Below.alloc ?_ (by first | omega | (simp; done) | (simp; omega)) _ | refine Below.setCell ?_ (by first | omega | (simp; done) | (simp; omega)) _ | refine Below.trans ?_ (Below.mono (by assumption) (by first | omega | (simp; done) | (simp; omega)))))⟩
                  injection h with _ h
                  exact absurd h HE.out
              · have hlti : ¬ (k : Int) < (l1.length : Int) := by omega
                have HE1 : Hid (l1 = l2) := by
                  have h := HT.out
                  have hl := HL.out
                  rwa [List.take_of_length_le (by omega), List.take_of_length_le (by omega)] at h
                go_wp2
                clear s0 s1 s2 s3 s4 t0 t1 t2 t3 t4
                go_loopw [6] (fun i wr => ∃ k : Nat, k ≤ m1.length ∧ i = .int .i64 k ∧ m1.take k = m2.take k ∧ Below (w.heap.size + 1 + 1) ((w.alloc (.cells #[.string n1, .slice pa l1.length ca, .slice pb m1.length cb, .int .i64 x1, .int .i64 y1] 52)).alloc (.cells #[.string n1, .slice qa l1.length da, .slice qb m1.length db, .int .i64 x1, .int .i64 y1] 52)) wr) (fun i _ => m1.length - (intOf i).toNat)
                case atStart => exact ⟨0, Nat.zero_le _, rfl, rfl, HBL.out⟩
                case round =>
                  rename_i wq
                  obtain ⟨k, hk, rfl, hall, hbl⟩ := hrel
                  have HT := Lib.hid hall
                  have HBL := Lib.hid hbl
                  obtain ⟨e0, e1, e2⟩ := HBX.out _ hbl
                  have WK := Lib.hid e2
                  obtain ⟨s0, s1, s2, s3, s4⟩ := five_of e0
                  obtain ⟨t0, t1, t2, t3, t4⟩ := five_of e1
                  clear hall hbl e0 e1 e2
                  by_cases hlt : k < m1.length
                  · have hlti : (k : Int) < (m1.length : Int) := by omega
                    have hlt2 : k < m2.length := by have := HM.out; omega
                    obtain ⟨b1, o1, v1, rfl, hR1, e1⟩ := HB.out.at1 hlt
                    obtain ⟨b2, o2, v2, rfl, hR2, e2⟩ := GB.out.at1 hlt2
                    simp only [StrR, List.cons.injEq, and_true] at hR1 hR2
                    subst hR1 hR2
                    have d1 := cell_later WK.out e1
                    have d2 := cell_later WK.out e2
                    clear e1 e2
                    have hsk := str_eq m1[k] m2[k]
                    by_cases he : bs m1[k] = bs m2[k]
                    · have HT2 : Hid (m1.take (k + 1) = m2.take (k + 1)) := by
                        show m1.take (k + 1) = m2.take (k + 1)
                        rw [List.take_succ_eq_append_getElem hlt, List.take_succ_eq_append_getElem hlt2, HT.out, bs_inj he]
                      rw [decide_eq_true he] at hsk
                      clear he
                      go_wp2
                      go_quiet (fail)
                      go_wp2
                      go_roundw
                      case rel => exact ⟨k + 1, by omega, by go_num, HT2.out, by have h0 := HBL.out; (repeat (first | exact Below.refl _ _ | assumption | refine Below.drew ?_ | refine below_drewN ?_ _ | refine Below.alloc ?_ (by first | omega | (simp; done) | (simp; omega)) _ | refine Below.setCell ?_ (by first | omega | (simp; done) | (simp; omega)) _ | refine Below.trans ?_ (Below.mono (by assumption) (by first | omega | (simp; done) | (simp; omega)))))⟩
                      case measure => simp [intOf]; omega
                    · have HE : Hid (¬ m1 = m2) := fun e => he (by simp only [e])
                      rw [decide_eq_false he] at hsk
                      clear he
                      go_wp2
                      go_quiet (fail)
                      go_wp2
                      refine bodyPost_ret (v := .bool false) (by simp [results, Tryz.results33, go_sem]) rfl ?_
                      refine ⟨false, rfl, ⟨fun h => by simp at h, fun h => ?_⟩, by have h0 := WK.out; (repeat (first | exact Below.refl _ _ | assumption | refine Below.drew ?_ | refine below_drewN ?_ _ | refine Below.alloc ?_ (by first | omega | (simp; done) | (simp; omega)) _ | refine Below.setCell ?_ (by first | omega | (simp; done) | (simp; omega)) _ | refine Below.trans ?_ (Below.mono (by assumption) (by first | omega | (simp; done) | (simp; omega)))))⟩
                      injection h with _ _ h
                      exact absurd h HE.out
                  · have hlti : ¬ (k : Int) < (m1.length : Int) := by omega
                    have HE2 : Hid (m1 = m2) := by
                      have h := HT.out
                      have hl := HM.out
                      rwa [List.take_of_length_le (by omega), List.take_of_length_le (by omega)] at h
                    go_wp2
                    refine bodyPost_ret (v := .bool true) (by simp [results, Tryz.results33, go_sem]) rfl ?_
                    exact ⟨true, rfl, ⟨fun _ => by rw [HE1.out, HE2.out], fun _ => rfl⟩, WK.out⟩
          · have hmi : ¬ (m1.length : Int) = (m2.length : Int) := by omega
            have hli : (l1.length : Int) = (l2.length : Int) := by omega
            have HE : Hid (¬ m1 = m2) := fun e => hm (by rw [e])
            clear hm hl
            go_wp2
            refine bodyPost_ret (v := .bool false) (by simp [results, Tryz.results33, go_sem]) rfl ?_
            refine ⟨false, rfl, ⟨fun h => by simp at h, fun h => ?_⟩, by (repeat (first | exact Below.refl _ _ | assumption | refine Below.drew ?_ | refine below_drewN ?_ _ | refine Below.alloc ?_ (by first | omega | (simp; done) | (simp; omega)) _ | refine Below.setCell ?_ (by first | omega | (simp; done) | (simp; omega)) _ | refine Below.trans ?_ (Below.mono (by assumption) (by first | omega | (simp; done) | (simp; omega)))))⟩
            injection h with _ _ h
            exact absurd h HE.out
        · have hli : ¬ (l1.length : Int) = (l2.length : Int) := by omega
          have HE : Hid (¬ l1 = l2) := fun e => hl (by rw [e])
          clear hl
          go_wp2
          refine bodyPost_ret (v := .bool false) (by simp [results, Tryz.results33, go_sem]) rfl ?_
          refine ⟨false, rfl, ⟨fun h => by simp at h, fun h => ?_⟩, by (repeat (first | exact Below.refl _ _ | assumption | refine Below.drew ?_ | refine below_drewN ?_ _ | refine Below.alloc ?_ (by first | omega | (simp; done) | (simp; omega)) _ | refine Below.setCell ?_ (by first | omega | (simp; done) | (simp; omega)) _ | refine Below.trans ?_ (Below.mono (by assumption) (by first | omega | (simp; done) | (simp; omega)))))⟩
          injection h with _ h
          exact absurd h HE.out
      · have HE : Hid (¬ y1 = y2) := hy
        go_wp2
        refine bodyPost_ret (v := .bool false) (by simp [results, Tryz.results33, go_sem]) rfl ?_
        refine ⟨false, rfl, ⟨fun h => by simp at h, fun h => ?_⟩, by (repeat (first | exact Below.refl _ _ | assumption | refine Below.drew ?_ | refine below_drewN ?_ _ | refine Below.alloc ?_ (by first | omega | (simp; done) | (simp; omega)) _ | refine Below.setCell ?_ (by first | omega | (simp; done) | (simp; omega)) _ | refine Below.trans ?_ (Below.mono (by assumption) (by first | omega | (simp; done) | (simp; omega)))))⟩
        injection h with _ _ _ _ h
        exact absurd h HE.out
    · have HE : Hid (¬ x1 = x2) := hx
      go_wp2
      refine bodyPost_ret (v := .bool false) (by simp [results, Tryz.results33, go_sem]) rfl ?_
      refine ⟨false, rfl, ⟨fun h => by simp at h, fun h => ?_⟩, by (repeat (first | exact Below.refl _ _ | assumption | refine Below.drew ?_ | refine below_drewN ?_ _ | refine Below.alloc ?_ (by first | omega | (simp; done) | (simp; omega)) _ | refine Below.setCell ?_ (by first | omega | (simp; done) | (simp; omega)) _ | refine Below.trans ?_ (Below.mono (by assumption) (by first | omega | (simp; done) | (simp; omega)))))⟩
      injection h with _ _ _ h
      exact absurd h HE.out
  · have HE : Hid (¬ n1 = n2) := fun e => hne (by rw [e])
    rw [decide_eq_false hne] at hse
    clear hne
    go_wp2
    refine bodyPost_ret (v := .bool false) (by simp [results, Tryz.results33, go_sem]) rfl ?_
    refine ⟨false, rfl, ⟨fun h => by simp at h, fun h => ?_⟩, by (repeat (first | exact Below.refl _ _ | assumption | refine Below.drew ?_ | refine below_drewN ?_ _ | refine Below.alloc ?_ (by first | omega | (simp; done) | (simp; omega)) _ | refine Below.setCell ?_ (by first | omega | (simp; done) | (simp; omega)) _ | refine Below.trans ?_ (Below.mono (by assumption) (by first | omega | (simp; done) | (simp; omega)))))⟩
    injection h with h
    exact absurd h HE.out
end Go.Proofs.YtkgkkcefnonejaaGreat
/- Walks of layer 8: the document's Name and in. -/
namespace Go.Proofs.YtkgkkcefnonejaaGreat
open Go.RowKit

set_option maxHeartbeats 4000000 in
set_option maxRecDepth 100000 in
theorem dName_any (s : ByteArray) (w : World) :
    Calls Tryz.prog 80 #[.string s] w fun e w' => e = .returned (.bool (isNm (bs s))) ∧ w' = w := by
  by_cases h1 : 1 ≤ s.size ∧ s.size ≤ 16
  · obtain ⟨h1, h2⟩ := h1
    have h0 : 0 < s.size := by omega
    have i1 : ¬ (s.size : Int) < 1 := by omega
    have i2 : ¬ (16 : Int) < (s.size : Int) := by omega
    by_cases g1 : s[0].toNat < 97
    · have HN : Hid (isNm (bs s) = false) := isNm_head h0 (by simp [smallB]; omega)
      have g1' : (s[0].toNat : Int) < 97 := by omega
      go_enter Tryz.func80, Tryz.ntmps80
      go_wp2
      go_ret
      exact ⟨ret_bool HN.out.symm, rfl⟩
    · have g1' : ¬ (s[0].toNat : Int) < 97 := by omega
      by_cases g2 : 122 < s[0].toNat
      · have HN : Hid (isNm (bs s) = false) := isNm_head h0 (by simp [smallB]; omega)
        have g2' : (122 : Int) < (s[0].toNat : Int) := by omega
        go_enter Tryz.func80, Tryz.ntmps80
        go_wp2
        go_ret
        exact ⟨ret_bool HN.out.symm, rfl⟩
      · have g2' : ¬ (122 : Int) < (s[0].toNat : Int) := by omega
        have HS : Hid (smallB s[0] = true) := by
          show smallB s[0] = true
          simp [smallB]
          omega
        go_enter Tryz.func80, Tryz.ntmps80
        go_wp2
        clear g1 g2 g1' g2'
        go_loop [3] (fun i => ∃ k : Nat, k ≤ s.size ∧ i = .int .i64 k ∧ ∀ j (h : j < s.size), j < k → nameB s[j] = true) (fun i => s.size - (intOf i).toNat)
        case atStart => exact ⟨0, Nat.zero_le _, rfl, fun j _ g => absurd g (Nat.not_lt_zero _)⟩
        case round =>
          obtain ⟨k, hk, rfl, hall⟩ := hrel
          have HA : Hid (∀ j (h : j < s.size), j < k → nameB s[j] = true) := hall
          clear hall
          by_cases hlt : k < s.size
          · have hlti : (k : Int) < (s.size : Int) := by omega
            have HK : Hid (nameB s[k] = true → ∀ j (h : j < s.size), j < k + 1 → nameB s[j] = true) := fun hn j h g => by
              by_cases e : j = k
              · subst e; exact hn
              · exact HA.out j h (by omega)
            have HN : Hid (nameB s[k] = false → isNm (bs s) = false) := fun hn => isNm_at k hlt hn
            by_cases g3 : s[k].toNat = 95
            · have HK2 := Lib.hid (HK.out (by simp [nameB, g3]))
              have g4 : ((s[k].toNat : Int) != 95) = false := by simp [g3]
              clear g3
              go_wp2
              go_round
              case rel => exact ⟨k + 1, by omega, by go_num, HK2.out⟩
              case measure => simp [intOf]; omega
            · have g4 : ((s[k].toNat : Int) != 95) = true := by simp; omega
              by_cases g5 : s[k].toNat < 48
              · have HN2 := Lib.hid (HN.out (by simp [nameB, smallB, digitB]; omega))
                have a1 : (s[k].toNat : Int) < 48 := by omega
                have a2 : (s[k].toNat : Int) < 97 := by omega
                clear g3 g5
                go_wp2
                go_ret
                exact ⟨ret_bool HN2.out.symm, rfl⟩
              · have a1 : ¬ (s[k].toNat : Int) < 48 := by omega
                by_cases g6 : 57 < s[k].toNat
                · have a2 : (57 : Int) < (s[k].toNat : Int) := by omega
                  by_cases g7 : s[k].toNat < 97
                  · have HN2 := Lib.hid (HN.out (by simp [nameB, smallB, digitB]; omega))
                    have a3 : (s[k].toNat : Int) < 97 := by omega
                    clear g3 g5 g6 g7
                    go_wp2
                    go_ret
                    exact ⟨ret_bool HN2.out.symm, rfl⟩
                  · have a3 : ¬ (s[k].toNat : Int) < 97 := by omega
                    by_cases g8 : 122 < s[k].toNat
                    · have HN2 := Lib.hid (HN.out (by simp [nameB, smallB, digitB]; omega))
                      have a4 : (122 : Int) < (s[k].toNat : Int) := by omega
                      clear g3 g5 g6 g7 g8
                      go_wp2
                      go_ret
                      exact ⟨ret_bool HN2.out.symm, rfl⟩
                    · have HK2 := Lib.hid (HK.out (by simp [nameB, smallB, digitB]; omega))
                      have a4 : ¬ (122 : Int) < (s[k].toNat : Int) := by omega
                      clear g3 g5 g6 g7 g8
                      go_wp2
                      go_round
                      case rel => exact ⟨k + 1, by omega, by go_num, HK2.out⟩
                      case measure => simp [intOf]; omega
                · have HK2 := Lib.hid (HK.out (by simp [nameB, smallB, digitB]; omega))
                  have a2 : ¬ (57 : Int) < (s[k].toNat : Int) := by omega
                  clear g3 g5 g6
                  go_wp2
                  go_round
                  case rel => exact ⟨k + 1, by omega, by go_num, HK2.out⟩
                  case measure => simp [intOf]; omega
          · have hk' : k = s.size := by omega
            subst hk'
            have HN : Hid (isNm (bs s) = true) := isNm_yes h1 h2 HS.out fun j h => HA.out j h h
            go_wp2
            go_ret
            exact ⟨ret_bool HN.out.symm, rfl⟩
  · have HN : Hid (isNm (bs s) = false) := isNm_len h1
    by_cases h2 : s.size < 1
    · have i1 : (s.size : Int) < 1 := by omega
      clear h1
      go_enter Tryz.func80, Tryz.ntmps80
      go_wp2
      go_ret
      exact ⟨ret_bool HN.out.symm, rfl⟩
    · have i1 : ¬ (s.size : Int) < 1 := by omega
      have i2 : (16 : Int) < (s.size : Int) := by omega
      clear h1
      go_enter Tryz.func80, Tryz.ntmps80
      go_wp2
      go_ret
      exact ⟨ret_bool HN.out.symm, rfl⟩
set_option maxHeartbeats 1000000 in
theorem in_any (n : Int) (w : World) : Calls Tryz.prog 82 #[.int .i64 n, .int .i64 0, .int .i64 1048576] w fun e w' => e = .returned (.bool (budB n)) ∧ w' = w := by
  by_cases h1 : 0 ≤ n
  · by_cases h2 : n ≤ 1048576
    · go_enter Tryz.func82, Tryz.ntmps82
      go_wp2
      go_ret
      exact ⟨ret_bool (by simp [budB]; omega), rfl⟩
    · go_enter Tryz.func82, Tryz.ntmps82
      go_wp2
      go_ret
      exact ⟨ret_bool (by simp [budB]; omega), rfl⟩
  · go_enter Tryz.func82, Tryz.ntmps82
    go_wp2
    go_ret
    exact ⟨ret_bool (by simp [budB]; omega), rfl⟩
end Go.Proofs.YtkgkkcefnonejaaGreat
/- Walks of layer 8: the document's names and places. -/
namespace Go.Proofs.YtkgkkcefnonejaaGreat
open Go.RowKit

/-- All are names, no two alike. -/
def allNm (l : List ByteArray) : Bool := allB l.length (newNm (l.map bs))
theorem nmAt {l : List ByteArray} {k : Nat} (h : k < l.length) : newNm (l.map bs) k = (isNm (bs l[k]) && !decide (bs l[k] ∈ (l.map bs).take k)) := by simp [newNm, h]
theorem allNm_no {l : List ByteArray} {k : Nat} (h : k < l.length) (e : isNm (bs l[k]) = false) : allNm l = false := allB_false k h (by rw [nmAt h, e, Bool.false_and])
theorem allNm_twice {l : List ByteArray} {k j : Nat} (h : k < l.length) (hj : j < k) (e : bs (l[j]'(by omega)) = bs l[k]) : allNm l = false := by
  refine allB_false k h ?_
  have : bs l[k] ∈ (l.map bs).take k := by
    rw [List.mem_take_iff_getElem]
    exact ⟨j, by simp; omega, by simp [e]⟩
  rw [nmAt h, decide_eq_true this]
  simp
theorem allNm_yes {l : List ByteArray} (h : ∀ k (g : k < l.length), isNm (bs l[k]) = true ∧ ∀ j (g' : j < l.length), j < k → bs l[j] ≠ bs l[k]) : allNm l = true := by
  rw [allNm, allB_iff]
  intro k g
  rw [nmAt g, (h k g).1, Bool.true_and, Bool.not_eq_true', decide_eq_false_iff_not, List.mem_take_iff_getElem]
  rintro ⟨j, hj, e⟩
  simp only [List.length_map] at hj
  refine (h k g).2 j (by omega) (by omega) ?_
  simpa using e

set_option maxHeartbeats 8000000 in
set_option maxRecDepth 100000 in
theorem names_any (p : Option Addr) (n cap : Nat) (l : List ByteArray) (w : World) (hn : n = l.length) (hr : RowR 1 StrR w p l) (hl : l.length ≤ 1099511627776) :
    Calls Tryz.prog 44 #[.slice p n cap] w fun e w' => e = .returned (.bool (allNm l)) ∧ ∃ n, w' = w.drewN n := by
  subst hn
  have HR := Lib.hid hr
  clear hr
  go_enter Tryz.func44, Tryz.ntmps44
  go_wp2
  go_loopw [3] (fun i wr => ∃ k : Nat, k ≤ l.length ∧ i = .int .i64 k ∧ (∀ k' (g : k' < l.length), k' < k → isNm (bs l[k']) = true ∧ ∀ j (g' : j < l.length), j < k' → bs l[j] ≠ bs l[k']) ∧ ∃ n, wr = w.drewN n) (fun i _ => l.length - (intOf i).toNat)
  case atStart => exact ⟨0, Nat.zero_le _, rfl, fun _ _ g => absurd g (Nat.not_lt_zero _), 0, rfl⟩
  case round =>
    obtain ⟨k, hk, rfl, hall, hbl⟩ := hrel
    have HA := Lib.hid hall
    have QW := Lib.hid hbl
    have HBL := Lib.hid (quiet_below hbl)
    clear hall hbl
    by_cases hlt : k < l.length
    · have hlti : (k : Int) < (l.length : Int) := by omega
      obtain ⟨b, o, v, rfl, hR, e1⟩ := HR.out.at1 hlt
      simp only [StrR, List.cons.injEq, and_true] at hR
      subst hR
      have d1 := cell_later HBL.out e1
      cases hn : isNm (bs l[k]) with
      | false =>
        have HN := Lib.hid (allNm_no hlt hn)
        go_wp2_with (first | (go_at_call 80; refine (dName_any l[k] _).mono ?_; rintro e w' ⟨rfl, he⟩; rw [hn, he]; clear he))
        go_ret
        exact ⟨ret_bool HN.out.symm, QW.out⟩
      | true =>
        have HI := Lib.hid hn
        go_wp2_with (first | (go_at_call 80; refine (dName_any l[k] _).mono ?_; rintro e w' ⟨rfl, he⟩; rw [hn, he]; clear he))
        clear hn
        go_loopw [5] (fun i wr => ∃ j : Nat, j ≤ k ∧ i = .int .i64 j ∧ (∀ j' (g : j' < l.length), j' < j → bs l[j'] ≠ bs l[k]) ∧ ∃ n, wr = w.drewN n) (fun i _ => k - (intOf i).toNat)
        case atStart => exact ⟨0, Nat.zero_le _, rfl, fun _ _ g => absurd g (Nat.not_lt_zero _), QW.out⟩
        case round =>
          rename_i wq
          clear d1
          obtain ⟨j, hj, rfl, hall2, hbl2⟩ := hrel
          have HA2 := Lib.hid hall2
          have QW2 := Lib.hid hbl2
          have HBL2 := Lib.hid (quiet_below hbl2)
          clear hall2 hbl2
          by_cases hjt : j < k
          · have hjti : (j : Int) < (k : Int) := by omega
            have hjl : j < l.length := by omega
            have hjli : (j : Int) < (l.length : Int) := by omega
            obtain ⟨b2, o2, v2, hp2, hR2, e2⟩ := HR.out.at1 hjl
            simp only [Option.some.injEq, Addr.mk.injEq, and_true] at hp2
            obtain ⟨rfl, rfl⟩ := hp2
            simp only [StrR, List.cons.injEq, and_true] at hR2
            subst hR2
            have d1 := cell_later HBL2.out e1
            have d2 := cell_later HBL2.out e2
            clear e2
            have hse := str_eq l[j] l[k]
            by_cases he : bs l[j] = bs l[k]
            · rw [decide_eq_true he] at hse
              have HN := Lib.hid (allNm_twice hlt hjt he)
              clear he
              go_wp2
              go_quiet (fail)
              go_wp2
              go_ret
              exact ⟨ret_bool HN.out.symm, quiet_more QW2.out _⟩
            · rw [decide_eq_false he] at hse
              have HE : Hid (∀ j' (g : j' < l.length), j' < j + 1 → bs l[j'] ≠ bs l[k]) := fun j' g g' => by
                by_cases e : j' = j
                · subst e; exact he
                · exact HA2.out j' g (by omega)
              clear he
              go_wp2
              go_quiet (fail)
              go_wp2
              go_roundw
              case rel => exact ⟨j + 1, by omega, by go_num, HE.out, quiet_more QW2.out _⟩
              case measure => simp [intOf]; omega
          · have hjti : ¬ (j : Int) < (k : Int) := by omega
            have HE : Hid (∀ k' (g : k' < l.length), k' < k + 1 → isNm (bs l[k']) = true ∧ ∀ j (g' : j < l.length), j < k' → bs l[j] ≠ bs l[k']) := fun k' g g' => by
              by_cases e : k' = k
              · subst e; exact ⟨HI.out, fun j' q q' => HA2.out j' q (by omega)⟩
              · exact HA.out k' g (by omega)
            clear e1
            go_wp2
            go_roundw
            case rel => exact ⟨k + 1, by omega, by go_num, HE.out, QW2.out⟩
            case measure => simp [intOf]; omega
    · have hlti : ¬ (k : Int) < (l.length : Int) := by omega
      have HN : Hid (allNm l = true) := allNm_yes fun k' g => HA.out k' g (by omega)
      go_wp2
      go_ret
      exact ⟨ret_bool HN.out.symm, QW.out⟩

theorem inAt {l : List Int} {k : Nat} (h : k < l.length) : newIn l k = !decide (l[k] ∈ l.take k) := by simp [newIn, h]
theorem mayPl_no {l : List Int} {m k : Nat} (h : k < l.length) (e : placeB m l[k] = false) : mayPl l m = false := by
  rw [mayPl, allB_false k h (by simp [h, e]), Bool.and_false]
theorem mayPl_twice {l : List Int} {m k j : Nat} (h : k < l.length) (hj : j < k) (e : l[j]'(by omega) = l[k]) : mayPl l m = false := by
  have : l[k] ∈ l.take k := by
    rw [List.mem_take_iff_getElem]
    exact ⟨j, by omega, e⟩
  rw [mayPl, allB_false k h (by rw [inAt h, decide_eq_true this]; simp), Bool.and_false]
theorem mayPl_yes {l : List Int} {m : Nat} (h1 : 1 ≤ l.length) (h2 : l.length ≤ 8) (h : ∀ k (g : k < l.length), placeB m l[k] = true ∧ ∀ j (g' : j < l.length), j < k → l[j] ≠ l[k]) : mayPl l m = true := by
  rw [mayPl, decide_eq_true h1, decide_eq_true h2, Bool.true_and, Bool.true_and, allB_iff]
  intro k g
  rw [inAt g, show ((l[k]?).any fun p => placeB m p) = placeB m l[k] by simp [g], (h k g).1, Bool.true_and, Bool.not_eq_true', decide_eq_false_iff_not, List.mem_take_iff_getElem]
  rintro ⟨j, hj, e⟩
  exact (h k g).2 j (by omega) (by omega) e

set_option maxHeartbeats 8000000 in
set_option maxRecDepth 100000 in
theorem dPlaces_any (p : Option Addr) (cap : Nat) (l : List Int) (m : Nat) (w : World) (hr : RowR 1 IntR w p l) :
    Calls Tryz.prog 81 #[.slice p l.length cap, .int .i64 (m : Int)] w fun e w' => e = .returned (.bool (mayPl l m)) ∧ ∃ n, w' = w.drewN n := by
  have HR := Lib.hid hr
  clear hr
  by_cases hl : 1 ≤ l.length ∧ l.length ≤ 8
  · obtain ⟨hl1, hl2⟩ := hl
    have i1 : ¬ (l.length : Int) < 1 := by omega
    have i2 : ¬ (8 : Int) < (l.length : Int) := by omega
    go_enter Tryz.func81, Tryz.ntmps81
    go_wp2
    go_loopw [5] (fun i wr => ∃ k : Nat, k ≤ l.length ∧ i = .int .i64 k ∧ (∀ k' (g : k' < l.length), k' < k → placeB m l[k'] = true ∧ ∀ j (g' : j < l.length), j < k' → l[j] ≠ l[k']) ∧ ∃ n, wr = w.drewN n) (fun i _ => l.length - (intOf i).toNat)
    case atStart => exact ⟨0, Nat.zero_le _, rfl, fun _ _ g => absurd g (Nat.not_lt_zero _), 0, rfl⟩
    case round =>
      obtain ⟨k, hk, rfl, hall, hbl⟩ := hrel
      have HA := Lib.hid hall
      have QW := Lib.hid hbl
      have HBL := Lib.hid (quiet_below hbl)
      clear hall hbl
      by_cases hlt : k < l.length
      · have hlti : (k : Int) < (l.length : Int) := by omega
        obtain ⟨b, o, v, rfl, hR, e1⟩ := HR.out.at1 hlt
        simp only [IntR, List.cons.injEq, and_true] at hR
        subst hR
        have d1 := cell_later HBL.out e1
        by_cases hn : l[k] < 0
        · have HN := Lib.hid (mayPl_no (m := m) hlt (by simp [placeB]; omega))
          go_wp2
          go_ret
          exact ⟨ret_bool HN.out.symm, QW.out⟩
        · by_cases hm2 : (m : Int) ≤ l[k]
          · have HN := Lib.hid (mayPl_no (m := m) hlt (by simp [placeB]; omega))
            go_wp2
            go_ret
            exact ⟨ret_bool HN.out.symm, QW.out⟩
          · have HI : Hid (placeB m l[k] = true) := by
              show placeB m l[k] = true
              simp [placeB]
              omega
            go_wp2
            clear hn hm2
            go_loopw [6] (fun i wr => ∃ j : Nat, j ≤ k ∧ i = .int .i64 j ∧ (∀ j' (g : j' < l.length), j' < j → l[j'] ≠ l[k]) ∧ ∃ n, wr = w.drewN n) (fun i _ => k - (intOf i).toNat)
            case atStart => exact ⟨0, Nat.zero_le _, rfl, fun _ _ g => absurd g (Nat.not_lt_zero _), QW.out⟩
            case round =>
              rename_i wq
              clear d1
              obtain ⟨j, hj, rfl, hall2, hbl2⟩ := hrel
              have HA2 := Lib.hid hall2
              have QW2 := Lib.hid hbl2
              have HBL2 := Lib.hid (quiet_below hbl2)
              clear hall2 hbl2
              by_cases hjt : j < k
              · have hjti : (j : Int) < (k : Int) := by omega
                have hjl : j < l.length := by omega
                have hjli : (j : Int) < (l.length : Int) := by omega
                obtain ⟨b2, o2, v2, hp2, hR2, e2⟩ := HR.out.at1 hjl
                simp only [Option.some.injEq, Addr.mk.injEq, and_true] at hp2
                obtain ⟨rfl, rfl⟩ := hp2
                simp only [IntR, List.cons.injEq, and_true] at hR2
                subst hR2
                have d1 := cell_later HBL2.out e1
                have d2 := cell_later HBL2.out e2
                clear e2
                by_cases he : l[j] = l[k]
                · have HN := Lib.hid (mayPl_twice (m := m) hlt hjt he)
                  go_wp2
                  go_quiet (fail)
                  go_wp2
                  go_ret
                  exact ⟨ret_bool HN.out.symm, quiet_more QW2.out _⟩
                · have HE : Hid (∀ j' (g : j' < l.length), j' < j + 1 → l[j'] ≠ l[k]) := fun j' g g' => by
                    by_cases e : j' = j
                    · subst e; exact he
                    · exact HA2.out j' g (by omega)
                  go_wp2
                  go_quiet (fail)
                  go_wp2
                  go_roundw
                  case rel => exact ⟨j + 1, by omega, by go_num, HE.out, quiet_more QW2.out _⟩
                  case measure => simp [intOf]; omega
              · have hjti : ¬ (j : Int) < (k : Int) := by omega
                have HE : Hid (∀ k' (g : k' < l.length), k' < k + 1 → placeB m l[k'] = true ∧ ∀ j (g' : j < l.length), j < k' → l[j] ≠ l[k']) := fun k' g g' => by
                  by_cases e : k' = k
                  · subst e; exact ⟨HI.out, fun j' q q' => HA2.out j' q (by omega)⟩
                  · exact HA.out k' g (by omega)
                clear e1
                go_wp2
                go_roundw
                case rel => exact ⟨k + 1, by omega, by go_num, HE.out, QW2.out⟩
                case measure => simp [intOf]; omega
      · have hlti : ¬ (k : Int) < (l.length : Int) := by omega
        have HN : Hid (mayPl l m = true) := mayPl_yes hl1 hl2 fun k' g => HA.out k' g (by omega)
        go_wp2
        go_ret
        exact ⟨ret_bool HN.out.symm, QW.out⟩
  · have HE : Hid (mayPl l m = false) := mayPl_len hl
    by_cases h2 : l.length < 1
    · have i1 : (l.length : Int) < 1 := by omega
      clear hl
      go_enter Tryz.func81, Tryz.ntmps81
      go_wp2
      go_ret
      exact ⟨ret_bool HE.out.symm, 0, rfl⟩
    · have i1 : ¬ (l.length : Int) < 1 := by omega
      have i2 : (8 : Int) < (l.length : Int) := by omega
      clear hl
      go_enter Tryz.func81, Tryz.ntmps81
      go_wp2
      go_ret
      exact ⟨ret_bool HE.out.symm, 0, rfl⟩
end Go.Proofs.YtkgkkcefnonejaaGreat
/- Walks of layer 8: the document's MayTable. -/
namespace Go.Proofs.YtkgkkcefnonejaaGreat
open Go.RowKit

theorem mayTb_eq (t : Tb) : mayTb t = (isNm (bs t.nm) && (decide (1 ≤ t.cols.length) && decide (t.cols.length ≤ 16)) && decide (t.ixs.length ≤ 4) && allB t.cols.length (fun i => (t.cols[i]?).any fun c => typB c.ty) && allNm (t.cols.map fun x => x.nm) && mayPl t.key t.cols.length && allB t.key.length (fun i => (t.key[i]?).any fun p => nnB t.cols p) && decide (t.part ∈ t.key) && allB t.ixs.length (fun i => (t.ixs[i]?).any fun x => mayPl x.cols t.cols.length) && allNm (t.ixs.map fun x => x.nm)) := by
  simp only [mayTb, mayCols, mayKey, mayIxs, allB_and, allNm, List.length_map, List.map_map, Function.comp_def]
  ac_rfl

def PartIn (t : Tb) (k : Nat) (pb : Bool) : Prop := pb = true ↔ t.part ∈ t.key.take k
set_option maxHeartbeats 32000000 in
set_option maxRecDepth 100000 in
theorem dMayTb_any (t : Tb) (vs : List Value) (w : World) (hR : TbR w t vs) :
    Calls Tryz.prog 42 #[.agg vs.toArray] w fun e w' => e = .returned (.bool (mayTb t)) ∧ Below w.heap.size w w' := by
  obtain ⟨pc, cc, pk, ck, px, cx, rfl, r1, r2, r3⟩ := hR
  obtain ⟨i0, hi, hz0, hz1, hz2⟩ := info_parts Tryz.infoStr
  have H1 := Lib.hid r1
  have H2 := Lib.hid r2
  have H3 := Lib.hid r3
  clear r1 r2 r3
  have HBX : Hid (∀ W, Below (w.heap.size + 1) (w.alloc (.cells #[.string t.nm, .slice pc t.cols.length cc, .slice pk t.key.length ck, .int .i64 t.part, .slice px t.ixs.length cx] 46)) W → W.heap[w.heap.size]? = some (.cells #[.string t.nm, .slice pc t.cols.length cc, .slice pk t.key.length ck, .int .i64 t.part, .slice px t.ixs.length cx] 46 (0, 0)) ∧ Below w.heap.size w W) := fun W h => ⟨(h.block _ (by omega)).trans (heap_alloc_new w _), ((Below.refl _ _).alloc (Nat.le_refl _) _).trans (h.mono (by omega))⟩
  cases hn : isNm (bs t.nm) with
  | false =>
    have HM : Hid (mayTb t = false) := by
      show mayTb t = false
      rw [mayTb_eq, hn]
      simp
    go_enter Tryz.func42, Tryz.ntmps42
    go_wp2_with (first | (go_at_call 80; refine (dName_any t.nm _).mono ?_; rintro e w' ⟨rfl, he⟩; rw [hn, he]; clear he))
    go_ret
    exact ⟨ret_bool HM.out.symm, by (repeat (first | exact Below.refl _ _ | assumption | refine Below.drew ?_ | refine below_drewN ?_ _ | refine Below.alloc ?_ (by first | omega | (simp; done) | (simp; omega)) _ | refine Below.setCell ?_ (by first | omega | (simp; done) | (simp; omega)) _ | refine Below.trans ?_ (Below.mono (by assumption) (by first | omega | (simp; done) | (simp; omega)))))⟩
  | true =>
    by_cases q1 : t.cols.length < 1
    · have HM : Hid (mayTb t = false) := by
        show mayTb t = false
        rw [mayTb_eq, decide_eq_false (p := 1 ≤ t.cols.length) (by omega)]
        simp
      have q1i : (t.cols.length : Int) < 1 := by omega
      go_enter Tryz.func42, Tryz.ntmps42
      go_wp2_with (first | (go_at_call 80; refine (dName_any t.nm _).mono ?_; rintro e w' ⟨rfl, he⟩; rw [hn, he]; clear he))
      go_ret
      exact ⟨ret_bool HM.out.symm, by (repeat (first | exact Below.refl _ _ | assumption | refine Below.drew ?_ | refine below_drewN ?_ _ | refine Below.alloc ?_ (by first | omega | (simp; done) | (simp; omega)) _ | refine Below.setCell ?_ (by first | omega | (simp; done) | (simp; omega)) _ | refine Below.trans ?_ (Below.mono (by assumption) (by first | omega | (simp; done) | (simp; omega)))))⟩
    · have q1i : ¬ (t.cols.length : Int) < 1 := by omega
      by_cases q2 : 16 < t.cols.length
      · have HM : Hid (mayTb t = false) := by
          show mayTb t = false
          rw [mayTb_eq, decide_eq_false (p := t.cols.length ≤ 16) (by omega)]
          simp
        have q2i : (16 : Int) < (t.cols.length : Int) := by omega
        go_enter Tryz.func42, Tryz.ntmps42
        go_wp2_with (first | (go_at_call 80; refine (dName_any t.nm _).mono ?_; rintro e w' ⟨rfl, he⟩; rw [hn, he]; clear he))
        go_ret
        exact ⟨ret_bool HM.out.symm, by (repeat (first | exact Below.refl _ _ | assumption | refine Below.drew ?_ | refine below_drewN ?_ _ | refine Below.alloc ?_ (by first | omega | (simp; done) | (simp; omega)) _ | refine Below.setCell ?_ (by first | omega | (simp; done) | (simp; omega)) _ | refine Below.trans ?_ (Below.mono (by assumption) (by first | omega | (simp; done) | (simp; omega)))))⟩
      · have q2i : ¬ (16 : Int) < (t.cols.length : Int) := by omega
        by_cases q3 : 4 < t.ixs.length
        · have HM : Hid (mayTb t = false) := by
            show mayTb t = false
            rw [mayTb_eq, decide_eq_false (p := t.ixs.length ≤ 4) (by omega)]
            simp
          have q3i : (4 : Int) < (t.ixs.length : Int) := by omega
          go_enter Tryz.func42, Tryz.ntmps42
          go_wp2_with (first | (go_at_call 80; refine (dName_any t.nm _).mono ?_; rintro e w' ⟨rfl, he⟩; rw [hn, he]; clear he))
          go_ret
          exact ⟨ret_bool HM.out.symm, by (repeat (first | exact Below.refl _ _ | assumption | refine Below.drew ?_ | refine below_drewN ?_ _ | refine Below.alloc ?_ (by first | omega | (simp; done) | (simp; omega)) _ | refine Below.setCell ?_ (by first | omega | (simp; done) | (simp; omega)) _ | refine Below.trans ?_ (Below.mono (by assumption) (by first | omega | (simp; done) | (simp; omega)))))⟩
        · have q3i : ¬ (4 : Int) < (t.ixs.length : Int) := by omega
          go_enter Tryz.func42, Tryz.ntmps42
          go_wp2_with (first | (go_at_call 80; refine (dName_any t.nm _).mono ?_; rintro e w' ⟨rfl, he⟩; rw [hn, he]; clear he))
          have HN := Lib.hid hn
          clear hn q1i q2i q3i
          go_loopw [4, 5] (fun v i wr => ∃ k : Nat, k ≤ t.cols.length ∧ i = .int .i64 k ∧ OwnR 1 9 StrR wr (w.heap.size + 1) v ((t.cols.map fun x => x.nm).take k) ∧ (∀ j (h : j < t.cols.length), j < k → typB t.cols[j].ty = true) ∧ Below (w.heap.size + 1) (w.alloc (.cells #[.string t.nm, .slice pc t.cols.length cc, .slice pk t.key.length ck, .int .i64 t.part, .slice px t.ixs.length cx] 46)) wr) (fun _ i _ => t.cols.length - (intOf i).toNat)
          case atStart => exact ⟨0, Nat.zero_le _, rfl, OwnR.nil _ _ _ _ _, fun _ _ g => absurd g (Nat.not_lt_zero _), by first | exact Below.refl _ _ | simpa using Below.refl _ _⟩
          case round =>
            obtain ⟨k, hk, rfl, hown, hall, hbl⟩ := hrel
            have HBL := Lib.hid hbl
            obtain ⟨e0, e1⟩ := HBX.out wr hbl
            obtain ⟨s0, s1, s2, s3, s4⟩ := five_of e0
            have WK := Lib.hid e1
            have hwz : w.heap.size < wr.heap.size := (Array.getElem?_eq_some_iff.1 e0).1
            have HO := Lib.hid hown
            have HA := Lib.hid hall
            clear hown hall
            clear hbl e0 e1
            by_cases hlt : k < t.cols.length
            · have hlti : (k : Int) < (t.cols.length : Int) := by omega
              obtain ⟨b, off, v0, v1, v2, rfl, hRk, c0, c1, c2⟩ := H1.out.at3 hlt
              simp only [ColR, List.cons.injEq, and_true] at hRk
              obtain ⟨rfl, rfl, rfl⟩ := hRk
              have d0 := cell_later WK.out c0
              have d1 := cell_later WK.out c1
              obtain ⟨ps, p1, p2, p3⟩ := HO.out
              have hps : ((t.cols.map fun x => x.nm).take k).length = k := by simp; omega
              rw [hps] at p3
              have P1 := Lib.hid p1
              have P2 := Lib.hid p2
              have hown2 := p3
              have HGE := Lib.hid (own_ge p3)
              clear p1 p2 p3 c0 c2
              obtain ⟨ty, hty⟩ : ∃ ty, t.cols[k].ty = ty := ⟨_, rfl⟩
              rw [hty] at c1 d1
              by_cases t1 : ty < 1
              · have HM : Hid (mayTb t = false) := by
                  show mayTb t = false
                  rw [mayTb_eq, allB_false (n := t.cols.length) (H := fun i => (t.cols[i]?).any fun c => typB c.ty) k hlt (by simp [hlt, typB, hty]; omega)]
                  simp
                clear hty
                go_wp2_with (first | (at_builtin; refine wpList_append_own _ rfl _ _ 50 rfl (w.heap.size + 1) 9 i0 (.string ⟨#[]⟩) 1 16 Tryz.underlying50 hi hz0 hz1 hz2 rfl (by decide) _ k (ps.flatMap (·.2)) rfl (hown2.alloc _) ⟨wr.heap.size, 0, none⟩ 1 1 [.string t.cols[k].nm] rfl rfl (cells_alloc _ _ _) (by intro u hu; simp only [List.mem_cons, List.not_mem_nil, or_false] at hu; rcases hu with rfl <;> rfl) (by unfold maxLen; omega) (by omega) (by first | omega | (simp; done) | (simp; omega)) ?_; intro v' w3 hown3 hgrow3 _; (have B3 := Lib.hid ((HBL.out.alloc (by first | omega | (simp; done) | (simp; omega)) _).grown hgrow3 (by first | omega | (simp; done) | (simp; omega)) HGE.out)); (have HO3 := Lib.hid hown3); obtain ⟨e0, e1⟩ := HBX.out w3 B3.out; obtain ⟨s0, s1, s2, s3, s4⟩ := five_of e0; (have z0 := cell_later e1 c1); clear e0 e1 hown3 hgrow3))
                go_ret
                exact ⟨ret_bool HM.out.symm, (HBX.out _ B3.out).2⟩
              · have t1i : ¬ ty < 1 := t1
                by_cases t2 : 3 < ty
                · have HM : Hid (mayTb t = false) := by
                    show mayTb t = false
                    rw [mayTb_eq, allB_false (n := t.cols.length) (H := fun i => (t.cols[i]?).any fun c => typB c.ty) k hlt (by simp [hlt, typB, hty]; omega)]
                    simp
                  clear hty
                  go_wp2_with (first | (at_builtin; refine wpList_append_own _ rfl _ _ 50 rfl (w.heap.size + 1) 9 i0 (.string ⟨#[]⟩) 1 16 Tryz.underlying50 hi hz0 hz1 hz2 rfl (by decide) _ k (ps.flatMap (·.2)) rfl (hown2.alloc _) ⟨wr.heap.size, 0, none⟩ 1 1 [.string t.cols[k].nm] rfl rfl (cells_alloc _ _ _) (by intro u hu; simp only [List.mem_cons, List.not_mem_nil, or_false] at hu; rcases hu with rfl <;> rfl) (by unfold maxLen; omega) (by omega) (by first | omega | (simp; done) | (simp; omega)) ?_; intro v' w3 hown3 hgrow3 _; (have B3 := Lib.hid ((HBL.out.alloc (by first | omega | (simp; done) | (simp; omega)) _).grown hgrow3 (by first | omega | (simp; done) | (simp; omega)) HGE.out)); (have HO3 := Lib.hid hown3); obtain ⟨e0, e1⟩ := HBX.out w3 B3.out; obtain ⟨s0, s1, s2, s3, s4⟩ := five_of e0; (have z0 := cell_later e1 c1); clear e0 e1 hown3 hgrow3))
                  go_ret
                  exact ⟨ret_bool HM.out.symm, (HBX.out _ B3.out).2⟩
                · have t2i : ¬ 3 < ty := t2
                  have HA2 : Hid (∀ j (h : j < t.cols.length), j < k + 1 → typB t.cols[j].ty = true) := fun j h g => by
                    by_cases e : j = k
                    · subst e
                      rw [hty]
                      simp [typB]
                      omega
                    · exact HA.out j h (by omega)
                  clear hty
                  go_wp2_with (first | (at_builtin; refine wpList_append_own _ rfl _ _ 50 rfl (w.heap.size + 1) 9 i0 (.string ⟨#[]⟩) 1 16 Tryz.underlying50 hi hz0 hz1 hz2 rfl (by decide) _ k (ps.flatMap (·.2)) rfl (hown2.alloc _) ⟨wr.heap.size, 0, none⟩ 1 1 [.string t.cols[k].nm] rfl rfl (cells_alloc _ _ _) (by intro u hu; simp only [List.mem_cons, List.not_mem_nil, or_false] at hu; rcases hu with rfl <;> rfl) (by unfold maxLen; omega) (by omega) (by first | omega | (simp; done) | (simp; omega)) ?_; intro v' w3 hown3 hgrow3 _; (have B3 := Lib.hid ((HBL.out.alloc (by first | omega | (simp; done) | (simp; omega)) _).grown hgrow3 (by first | omega | (simp; done) | (simp; omega)) HGE.out)); (have HO3 := Lib.hid hown3); obtain ⟨e0, e1⟩ := HBX.out w3 B3.out; obtain ⟨s0, s1, s2, s3, s4⟩ := five_of e0; (have z0 := cell_later e1 c1); clear e0 e1 hown3 hgrow3))
                  go_roundw
                  case rel =>
                    refine ⟨k + 1, by omega, by go_num, ?_, HA2.out, B3.out⟩
                    rw [← take_snoc (t.cols.map fun x => x.nm) k (by simp; omega), List.getElem_map]
                    refine OwnR.push (n := 1) P1.out P2.out (fun _ _ h => h) (x := t.cols[k].nm) (us := [.string t.cols[k].nm]) rfl rfl ?_
                    rw [hps]
                    exact HO3.out
                  case measure => simp [intOf]; omega
            · have hlti : ¬ (k : Int) < (t.cols.length : Int) := by omega
              have HT : Hid (allB t.cols.length (fun i => (t.cols[i]?).any fun c => typB c.ty) = true) := allB_iff.2 fun i hi => by
                have := HA.out i hi (by omega)
                simpa [hi] using this
              have hO := HO.out
              rw [List.take_of_length_le (by simp; omega)] at hO
              obtain ⟨p, cap, rfl, -⟩ := hO.form
              have HRW : Hid (RowR 1 StrR wr p (t.cols.map fun x => x.nm)) := hO.row (fun _ _ h => h)
              have hnl : (t.cols.map fun x => x.nm).length ≤ 1099511627776 := by simp; omega
              clear hO
              cases hu : allNm (t.cols.map fun x => x.nm) with
              | false =>
                have HM : Hid (mayTb t = false) := by
                  show mayTb t = false
                  rw [mayTb_eq, hu]
                  simp
                obtain ⟨PB, hp⟩ : ∃ PB, mayPl t.key t.cols.length = PB := ⟨_, rfl⟩
                go_wp2_with fail
                refine (names_any p _ cap (t.cols.map fun x => x.nm) _ (by simp) HRW.out hnl).mono ?_
                rintro e w' ⟨rfl, n1, rfl⟩
                rw [hu]
                go_wp2_with fail
                refine (dPlaces_any pk ck t.key t.cols.length _ (H2.out.later (below_drewN WK.out n1) fun _ _ h => h)).mono ?_
                rintro e w' ⟨rfl, n2, rfl⟩
                rw [hp]
                go_wp2
                go_ret
                exact ⟨ret_bool HM.out.symm, by have h0 := WK.out; (repeat (first | exact Below.refl _ _ | assumption | refine Below.drew ?_ | refine below_drewN ?_ _ | refine Below.alloc ?_ (by first | omega | (simp; done) | (simp; omega)) _ | refine Below.setCell ?_ (by first | omega | (simp; done) | (simp; omega)) _ | refine Below.trans ?_ (Below.mono (by assumption) (by first | omega | (simp; done) | (simp; omega)))))⟩
              | true =>
                cases hp : mayPl t.key t.cols.length with
                | false =>
                  have HM : Hid (mayTb t = false) := by
                    show mayTb t = false
                    rw [mayTb_eq, hp]
                    simp
                  go_wp2_with fail
                  refine (names_any p _ cap (t.cols.map fun x => x.nm) _ (by simp) HRW.out hnl).mono ?_
                  rintro e w' ⟨rfl, n1, rfl⟩
                  rw [hu]
                  go_wp2_with fail
                  refine (dPlaces_any pk ck t.key t.cols.length _ (H2.out.later (below_drewN WK.out n1) fun _ _ h => h)).mono ?_
                  rintro e w' ⟨rfl, n2, rfl⟩
                  rw [hp]
                  go_wp2
                  go_ret
                  exact ⟨ret_bool HM.out.symm, by have h0 := WK.out; (repeat (first | exact Below.refl _ _ | assumption | refine Below.drew ?_ | refine below_drewN ?_ _ | refine Below.alloc ?_ (by first | omega | (simp; done) | (simp; omega)) _ | refine Below.setCell ?_ (by first | omega | (simp; done) | (simp; omega)) _ | refine Below.trans ?_ (Below.mono (by assumption) (by first | omega | (simp; done) | (simp; omega)))))⟩
                | true =>
                  have HU := Lib.hid hu
                  have HPL := Lib.hid hp
                  go_wp2_with fail
                  refine (names_any p _ cap (t.cols.map fun x => x.nm) _ (by simp) HRW.out hnl).mono ?_
                  rintro e w' ⟨rfl, n1, rfl⟩
                  rw [hu]
                  go_wp2_with fail
                  refine (dPlaces_any pk ck t.key t.cols.length _ (H2.out.later (below_drewN WK.out n1) fun _ _ h => h)).mono ?_
                  rintro e w' ⟨rfl, n2, rfl⟩
                  rw [hp]
                  go_wp2
                  clear hu hp s0 s1 s2 s3 s4
                  have hkl := mayPl_size HPL.out
                  go_loopw [8, 9] (fun v i wr => ∃ (k : Nat) (pb : Bool), k ≤ t.key.length ∧ i = .int .i64 k ∧ v = .bool pb ∧ PartIn t k pb ∧ (∀ j (h : j < t.key.length), j < k → nnB t.cols t.key[j] = true) ∧ Below (w.heap.size + 1) (w.alloc (.cells #[.string t.nm, .slice pc t.cols.length cc, .slice pk t.key.length ck, .int .i64 t.part, .slice px t.ixs.length cx] 46)) wr) (fun _ i _ => t.key.length - (intOf i).toNat)
                  case atStart => exact ⟨0, false, Nat.zero_le _, rfl, rfl, (by simp [PartIn]), fun _ _ g => absurd g (Nat.not_lt_zero _), by have h0 := HBL.out; (repeat (first | exact Below.refl _ _ | assumption | refine Below.drew ?_ | refine below_drewN ?_ _ | refine Below.alloc ?_ (by first | omega | (simp; done) | (simp; omega)) _ | refine Below.setCell ?_ (by first | omega | (simp; done) | (simp; omega)) _ | refine Below.trans ?_ (Below.mono (by assumption) (by first | omega | (simp; done) | (simp; omega)))))⟩
                  case round =>
                    rename_i wq
                    clear HBL WK HO HRW hnl hwz
                    obtain ⟨k, pb, hk, rfl, rfl, hpb, hall, hbl⟩ := hrel
                    have HBL := Lib.hid hbl
                    obtain ⟨e0, e1⟩ := HBX.out wr hbl
                    obtain ⟨s0, s1, s2, s3, s4⟩ := five_of e0
                    have WK := Lib.hid e1
                    have hwz : w.heap.size < wr.heap.size := (Array.getElem?_eq_some_iff.1 e0).1
                    have HPB := Lib.hid hpb
                    have HA := Lib.hid hall
                    clear hpb hall
                    clear hbl e0 e1
                    by_cases hlt : k < t.key.length
                    · have hlti : (k : Int) < (t.key.length : Int) := by omega
                      obtain ⟨b, off, v0, rfl, hRk, c0⟩ := H2.out.at1 hlt
                      simp only [IntR, List.cons.injEq, and_true] at hRk
                      subst hRk
                      obtain ⟨X, hX, hXl⟩ := mayPl_at HPL.out hlt
                      have hXi : (X : Int) < (t.cols.length : Int) := by omega
                      obtain ⟨b2, off2, u0, u1, u2, rfl, hR2, g0, g1, g2⟩ := H1.out.at3 hXl
                      simp only [ColR, List.cons.injEq, and_true] at hR2
                      obtain ⟨rfl, rfl, rfl⟩ := hR2
                      rw [hX] at c0
                      have d0 := cell_later WK.out c0
                      have d2 := cell_later WK.out g2
                      clear c0 g0 g1 g2
                      cases hnn : t.cols[X].nn with
                      | false =>
                        rw [hnn] at d2
                        have HM : Hid (mayTb t = false) := by
                          show mayTb t = false
                          rw [mayTb_eq, allB_false (n := t.key.length) (H := fun i => (t.key[i]?).any fun p => nnB t.cols p) k hlt (by simp [hlt, nnB, hX, hXl, hnn])]
                          simp
                        clear hX hnn
                        go_wp2
                        go_quiet (fail)
                        go_wp2
                        go_ret
                        exact ⟨ret_bool HM.out.symm, by have h0 := WK.out; (repeat (first | exact Below.refl _ _ | assumption | refine Below.drew ?_ | refine below_drewN ?_ _ | refine Below.alloc ?_ (by first | omega | (simp; done) | (simp; omega)) _ | refine Below.setCell ?_ (by first | omega | (simp; done) | (simp; omega)) _ | refine Below.trans ?_ (Below.mono (by assumption) (by first | omega | (simp; done) | (simp; omega)))))⟩
                      | true =>
                        rw [hnn] at d2
                        have HA2 : Hid (∀ j (h : j < t.key.length), j < k + 1 → nnB t.cols t.key[j] = true) := fun j h g => by
                          by_cases e : j = k
                          · subst e
                            simp [nnB, hX, hXl, hnn]
                          · exact HA.out j h (by omega)
                        by_cases he : (X : Int) = t.part
                        · have HP2 : Hid (PartIn t (k + 1) true) := by
                            refine ⟨fun _ => ?_, fun _ => rfl⟩
                            rw [← take_snoc t.key k hlt, hX, he]
                            simp
                          rw [← he] at s3
                          clear hX hnn he
                          go_wp2
                          go_quiet (fail)
                          go_wp2
                          go_quiet (fail)
                          go_wp2
                          go_roundw
                          case rel => exact ⟨k + 1, true, by omega, by go_num, rfl, HP2.out, HA2.out, by have h0 := HBL.out; (repeat (first | exact Below.refl _ _ | assumption | refine Below.drew ?_ | refine below_drewN ?_ _ | refine Below.alloc ?_ (by first | omega | (simp; done) | (simp; omega)) _ | refine Below.setCell ?_ (by first | omega | (simp; done) | (simp; omega)) _ | refine Below.trans ?_ (Below.mono (by assumption) (by first | omega | (simp; done) | (simp; omega)))))⟩
                          case measure => simp [intOf]; omega
                        · have HP2 : Hid (PartIn t (k + 1) pb) := by
                            show pb = true ↔ t.part ∈ t.key.take (k + 1)
                            rw [show (pb = true ↔ t.part ∈ t.key.take k) from HPB.out, ← take_snoc t.key k hlt, hX, List.mem_append, List.mem_singleton]
                            exact ⟨Or.inl, fun h => h.resolve_right fun e => he e.symm⟩
                          clear hX hnn
                          go_wp2
                          go_quiet (fail)
                          go_wp2
                          go_quiet (fail)
                          go_wp2
                          go_roundw
                          case rel => exact ⟨k + 1, pb, by omega, by go_num, rfl, HP2.out, HA2.out, by have h0 := HBL.out; (repeat (first | exact Below.refl _ _ | assumption | refine Below.drew ?_ | refine below_drewN ?_ _ | refine Below.alloc ?_ (by first | omega | (simp; done) | (simp; omega)) _ | refine Below.setCell ?_ (by first | omega | (simp; done) | (simp; omega)) _ | refine Below.trans ?_ (Below.mono (by assumption) (by first | omega | (simp; done) | (simp; omega)))))⟩
                          case measure => simp [intOf]; omega
                    · have hlti : ¬ (k : Int) < (t.key.length : Int) := by omega
                      have HNN : Hid (allB t.key.length (fun i => (t.key[i]?).any fun p => nnB t.cols p) = true) := allB_iff.2 fun i hi => by
                        have := HA.out i hi (by omega)
                        simpa [hi] using this
                      have HPP : Hid (decide (t.part ∈ t.key) = pb) := by
                        show decide (t.part ∈ t.key) = pb
                        have := HPB.out
                        unfold PartIn at this
                        rw [List.take_of_length_le (by omega)] at this
                        cases pb
                        · exact decide_eq_false fun h => by simpa using this.2 h
                        · exact decide_eq_true (this.1 rfl)
                      go_wp2
                      clear s0 s1 s2 s3 s4
                      go_loopw [10, 11] (fun v i wr => ∃ k : Nat, k ≤ t.ixs.length ∧ i = .int .i64 k ∧ OwnR 1 9 StrR wr (w.heap.size + 1) v ((t.ixs.map fun x => x.nm).take k) ∧ (∀ j (h : j < t.ixs.length), j < k → mayPl t.ixs[j].cols t.cols.length = true) ∧ Below (w.heap.size + 1) (w.alloc (.cells #[.string t.nm, .slice pc t.cols.length cc, .slice pk t.key.length ck, .int .i64 t.part, .slice px t.ixs.length cx] 46)) wr) (fun _ i _ => t.ixs.length - (intOf i).toNat)
                      case atStart => exact ⟨0, Nat.zero_le _, rfl, OwnR.nil _ _ _ _ _, fun _ _ g => absurd g (Nat.not_lt_zero _), HBL.out⟩
                      case round =>
                        rename_i wq2
                        clear HBL WK HPB hwz
                        obtain ⟨k, hk, rfl, hown, hall, hbl⟩ := hrel
                        have HBL := Lib.hid hbl
                        obtain ⟨e0, e1⟩ := HBX.out wr hbl
                        obtain ⟨s0, s1, s2, s3, s4⟩ := five_of e0
                        have WK := Lib.hid e1
                        have hwz : w.heap.size < wr.heap.size := (Array.getElem?_eq_some_iff.1 e0).1
                        have HO := Lib.hid hown
                        have HA := Lib.hid hall
                        clear hown hall
                        clear hbl e0 e1
                        by_cases hlt : k < t.ixs.length
                        · have hlti : (k : Int) < (t.ixs.length : Int) := by omega
                          obtain ⟨b, off, v0, v1, v2, rfl, hRk, c0, c1, c2⟩ := H3.out.at3 hlt
                          obtain ⟨pi, ci, hRk, hri⟩ := hRk
                          simp only [List.cons.injEq, and_true] at hRk
                          obtain ⟨rfl, rfl, rfl⟩ := hRk
                          have HRI := Lib.hid hri
                          have d0 := cell_later WK.out c0
                          have d1 := cell_later WK.out c1
                          clear hri c1 c2
                          obtain ⟨ps, p1, p2, p3⟩ := HO.out
                          have hps : ((t.ixs.map fun x => x.nm).take k).length = k := by simp; omega
                          rw [hps] at p3
                          have P1 := Lib.hid p1
                          have P2 := Lib.hid p2
                          have hown2 := p3
                          have HGE := Lib.hid (own_ge p3)
                          clear p1 p2 p3
                          cases hm : mayPl t.ixs[k].cols t.cols.length with
                          | false =>
                            have HM : Hid (mayTb t = false) := by
                              show mayTb t = false
                              rw [mayTb_eq, allB_false (n := t.ixs.length) (H := fun i => (t.ixs[i]?).any fun x => mayPl x.cols t.cols.length) k hlt (by simp [hlt, hm])]
                              simp
                            go_wp2
                            go_quiet (first | (go_at_call 81; exact Calls.quiet_of (v := .bool false) ((dPlaces_any pi ci t.ixs[k].cols t.cols.length _ (HRI.out.later (by have h0 := WK.out; (repeat (first | exact Below.refl _ _ | assumption | refine Below.drew ?_ | refine below_drewN ?_ _ | refine Below.alloc ?_ (by first | omega | (simp; done) | (simp; omega)) _ | refine Below.setCell ?_ (by first | omega | (simp; done) | (simp; omega)) _ | refine Below.trans ?_ (Below.mono (by assumption) (by first | omega | (simp; done) | (simp; omega)))))) fun _ _ h => h)).mono (fun e w' h => ⟨h.1.trans (by rw [hm]), h.2⟩))))
                            go_wp2
                            go_ret
                            exact ⟨ret_bool HM.out.symm, by have h0 := WK.out; (repeat (first | exact Below.refl _ _ | assumption | refine Below.drew ?_ | refine below_drewN ?_ _ | refine Below.alloc ?_ (by first | omega | (simp; done) | (simp; omega)) _ | refine Below.setCell ?_ (by first | omega | (simp; done) | (simp; omega)) _ | refine Below.trans ?_ (Below.mono (by assumption) (by first | omega | (simp; done) | (simp; omega)))))⟩
                          | true =>
                            have HA2 : Hid (∀ j (h : j < t.ixs.length), j < k + 1 → mayPl t.ixs[j].cols t.cols.length = true) := fun j h g => by
                              by_cases e : j = k
                              · subst e; exact hm
                              · exact HA.out j h (by omega)
                            go_wp2
                            go_quiet (first | (go_at_call 81; exact Calls.quiet_of (v := .bool true) ((dPlaces_any pi ci t.ixs[k].cols t.cols.length _ (HRI.out.later (by have h0 := WK.out; (repeat (first | exact Below.refl _ _ | assumption | refine Below.drew ?_ | refine below_drewN ?_ _ | refine Below.alloc ?_ (by first | omega | (simp; done) | (simp; omega)) _ | refine Below.setCell ?_ (by first | omega | (simp; done) | (simp; omega)) _ | refine Below.trans ?_ (Below.mono (by assumption) (by first | omega | (simp; done) | (simp; omega)))))) fun _ _ h => h)).mono (fun e w' h => ⟨h.1.trans (by rw [hm]), h.2⟩))))
                            go_wp2_with (first | (at_builtin; refine wpList_append_own _ rfl _ _ 50 rfl (w.heap.size + 1) 9 i0 (.string ⟨#[]⟩) 1 16 Tryz.underlying50 hi hz0 hz1 hz2 rfl (by decide) _ k (ps.flatMap (·.2)) rfl ((own_later hown2 (quiet_below ⟨nq, rfl⟩)).alloc _) ⟨(wr.drewN nq).heap.size, 0, none⟩ 1 1 [.string t.ixs[k].nm] rfl rfl (cells_alloc _ _ _) (by intro u hu; simp only [List.mem_cons, List.not_mem_nil, or_false] at hu; rcases hu with rfl <;> rfl) (by unfold maxLen; omega) (by omega) (by first | omega | (simp; done) | (simp; omega)) ?_; intro v' w3 hown3 hgrow3 _; (have B3 := Lib.hid (((below_drewN HBL.out nq).alloc (by first | omega | (simp; done) | (simp; omega)) _).grown hgrow3 (by first | omega | (simp; done) | (simp; omega)) HGE.out)); (have HO3 := Lib.hid hown3); obtain ⟨e0, e1⟩ := HBX.out w3 B3.out; obtain ⟨s0, s1, s2, s3, s4⟩ := five_of e0; skip; clear e0 e1 hown3 hgrow3))
                            go_roundw
                            case rel =>
                              refine ⟨k + 1, by omega, by go_num, ?_, HA2.out, B3.out⟩
                              rw [← take_snoc (t.ixs.map fun x => x.nm) k (by simp; omega), List.getElem_map]
                              refine OwnR.push (n := 1) P1.out P2.out (fun _ _ h => h) (x := t.ixs[k].nm) (us := [.string t.ixs[k].nm]) rfl rfl ?_
                              rw [hps]
                              exact HO3.out
                            case measure => simp [intOf]; omega
                        · have hlti : ¬ (k : Int) < (t.ixs.length : Int) := by omega
                          have HXX : Hid (allB t.ixs.length (fun i => (t.ixs[i]?).any fun x => mayPl x.cols t.cols.length) = true) := allB_iff.2 fun i hi => by
                            have := HA.out i hi (by omega)
                            simpa [hi] using this
                          have hO := HO.out
                          rw [List.take_of_length_le (by simp; omega)] at hO
                          obtain ⟨p, cap, rfl, -⟩ := hO.form
                          have HRW : Hid (RowR 1 StrR wr p (t.ixs.map fun x => x.nm)) := hO.row (fun _ _ h => h)
                          have hnl : (t.ixs.map fun x => x.nm).length ≤ 1099511627776 := by simp; omega
                          clear hO
                          have HM : Hid (mayTb t = (pb && allNm (t.ixs.map fun x => x.nm))) := by
                            show mayTb t = _
                            rw [mayTb_eq, HN.out, decide_eq_true (p := 1 ≤ t.cols.length) (by omega), decide_eq_true (p := t.cols.length ≤ 16) (by omega), decide_eq_true (p := t.ixs.length ≤ 4) (by omega), HT.out, HU.out, HPL.out, HNN.out, HPP.out, HXX.out]
                            simp
                          obtain ⟨NB, hu⟩ : ∃ NB, allNm (t.ixs.map fun x => x.nm) = NB := ⟨_, rfl⟩
                          rw [hu] at HM
                          go_wp2_with fail
                          refine (names_any p _ cap (t.ixs.map fun x => x.nm) _ (by simp) HRW.out hnl).mono ?_
                          rintro e w' ⟨rfl, n1, rfl⟩
                          rw [hu]
                          cases pb
                          all_goals
                            go_wp2
                            go_ret
                            exact ⟨ret_bool (by rw [HM.out]; rfl), by have h0 := WK.out; (repeat (first | exact Below.refl _ _ | assumption | refine Below.drew ?_ | refine below_drewN ?_ _ | refine Below.alloc ?_ (by first | omega | (simp; done) | (simp; omega)) _ | refine Below.setCell ?_ (by first | omega | (simp; done) | (simp; omega)) _ | refine Below.trans ?_ (Below.mono (by assumption) (by first | omega | (simp; done) | (simp; omega)))))⟩
end Go.Proofs.YtkgkkcefnonejaaGreat
/- Walks of layer 8: the document's MayProc. -/
namespace Go.Proofs.YtkgkkcefnonejaaGreat
open Go.RowKit

theorem mayPc_eq (p : Pc) : mayPc p = (isNm (bs p.nm) && budB p.rows && budB p.bytes && decide (p.prms.length ≤ 8) && decide (1 ≤ p.body.length) && decide (p.body.length ≤ 8) && allB p.prms.length (fun i => (p.prms[i]?).any fun c => typB c.ty) && allB p.body.length (fun i => (p.body[i]?).any srcB) && allNm (p.prms.map fun x => x.nm)) := by
  simp only [mayPc, mayPms, mayBody, allB_and, allNm, List.length_map, List.map_map, Function.comp_def]
  ac_rfl

set_option maxHeartbeats 32000000 in
set_option maxRecDepth 100000 in
theorem dMayPc_any (p : Pc) (vs : List Value) (w : World) (hR : PcR w p vs) :
    Calls Tryz.prog 43 #[.agg vs.toArray] w fun e w' => e = .returned (.bool (mayPc p)) ∧ Below w.heap.size w w' := by
  obtain ⟨pp, cp, pb, cb, rfl, r1, r2⟩ := hR
  obtain ⟨i0, hi, hz0, hz1, hz2⟩ := info_parts Tryz.infoStr
  have H1 := Lib.hid r1
  have H2 := Lib.hid r2
  clear r1 r2
  have HBX : Hid (∀ W, Below (w.heap.size + 1) (w.alloc (.cells #[.string p.nm, .slice pp p.prms.length cp, .slice pb p.body.length cb, .int .i64 p.rows, .int .i64 p.bytes] 52)) W → W.heap[w.heap.size]? = some (.cells #[.string p.nm, .slice pp p.prms.length cp, .slice pb p.body.length cb, .int .i64 p.rows, .int .i64 p.bytes] 52 (0, 0)) ∧ Below w.heap.size w W) := fun W h => ⟨(h.block _ (by omega)).trans (heap_alloc_new w _), ((Below.refl _ _).alloc (Nat.le_refl _) _).trans (h.mono (by omega))⟩
  obtain ⟨NB, hn⟩ : ∃ NB, isNm (bs p.nm) = NB := ⟨_, rfl⟩
  obtain ⟨RB, hr⟩ : ∃ RB, budB p.rows = RB := ⟨_, rfl⟩
  obtain ⟨YB, hy⟩ : ∃ YB, budB p.bytes = YB := ⟨_, rfl⟩
  cases NB with
  | false =>
    have HM : Hid (mayPc p = false) := by
      show mayPc p = false
      rw [mayPc_eq, hn]
      simp
    go_enter Tryz.func43, Tryz.ntmps43
    go_wp2_with (first | (go_at_call 80; refine (dName_any p.nm _).mono ?_; rintro e w' ⟨rfl, he⟩; rw [hn, he]; clear he) | (go_at_call 82; refine (in_any _ _).mono ?_; rintro e w' ⟨rfl, he⟩; first | rw [hr, he] | rw [hy, he]; clear he))
    go_ret
    exact ⟨ret_bool HM.out.symm, by (repeat (first | exact Below.refl _ _ | assumption | refine Below.drew ?_ | refine below_drewN ?_ _ | refine Below.alloc ?_ (by first | omega | (simp; done) | (simp; omega)) _ | refine Below.setCell ?_ (by first | omega | (simp; done) | (simp; omega)) _ | refine Below.trans ?_ (Below.mono (by assumption) (by first | omega | (simp; done) | (simp; omega)))))⟩
  | true =>
    cases RB with
    | false =>
      have HM : Hid (mayPc p = false) := by
        show mayPc p = false
        rw [mayPc_eq, hr]
        simp
      go_enter Tryz.func43, Tryz.ntmps43
      go_wp2_with (first | (go_at_call 80; refine (dName_any p.nm _).mono ?_; rintro e w' ⟨rfl, he⟩; rw [hn, he]; clear he) | (go_at_call 82; refine (in_any _ _).mono ?_; rintro e w' ⟨rfl, he⟩; first | rw [hr, he] | rw [hy, he]; clear he))
      go_ret
      exact ⟨ret_bool HM.out.symm, by (repeat (first | exact Below.refl _ _ | assumption | refine Below.drew ?_ | refine below_drewN ?_ _ | refine Below.alloc ?_ (by first | omega | (simp; done) | (simp; omega)) _ | refine Below.setCell ?_ (by first | omega | (simp; done) | (simp; omega)) _ | refine Below.trans ?_ (Below.mono (by assumption) (by first | omega | (simp; done) | (simp; omega)))))⟩
    | true =>
      cases YB with
      | false =>
        have HM : Hid (mayPc p = false) := by
          show mayPc p = false
          rw [mayPc_eq, hy]
          simp
        go_enter Tryz.func43, Tryz.ntmps43
        go_wp2_with (first | (go_at_call 80; refine (dName_any p.nm _).mono ?_; rintro e w' ⟨rfl, he⟩; rw [hn, he]; clear he) | (go_at_call 82; refine (in_any _ _).mono ?_; rintro e w' ⟨rfl, he⟩; first | rw [hr, he] | rw [hy, he]; clear he))
        go_ret
        exact ⟨ret_bool HM.out.symm, by (repeat (first | exact Below.refl _ _ | assumption | refine Below.drew ?_ | refine below_drewN ?_ _ | refine Below.alloc ?_ (by first | omega | (simp; done) | (simp; omega)) _ | refine Below.setCell ?_ (by first | omega | (simp; done) | (simp; omega)) _ | refine Below.trans ?_ (Below.mono (by assumption) (by first | omega | (simp; done) | (simp; omega)))))⟩
      | true =>
        by_cases q1 : 8 < p.prms.length
        · have q1i : (8 : Int) < (p.prms.length : Int) := by omega
          have HM : Hid (mayPc p = false) := by
            show mayPc p = false
            rw [mayPc_eq, decide_eq_false (p := p.prms.length ≤ 8) (by omega)]
            simp
          go_enter Tryz.func43, Tryz.ntmps43
          go_wp2_with (first | (go_at_call 80; refine (dName_any p.nm _).mono ?_; rintro e w' ⟨rfl, he⟩; rw [hn, he]; clear he) | (go_at_call 82; refine (in_any _ _).mono ?_; rintro e w' ⟨rfl, he⟩; first | rw [hr, he] | rw [hy, he]; clear he))
          go_ret
          exact ⟨ret_bool HM.out.symm, by (repeat (first | exact Below.refl _ _ | assumption | refine Below.drew ?_ | refine below_drewN ?_ _ | refine Below.alloc ?_ (by first | omega | (simp; done) | (simp; omega)) _ | refine Below.setCell ?_ (by first | omega | (simp; done) | (simp; omega)) _ | refine Below.trans ?_ (Below.mono (by assumption) (by first | omega | (simp; done) | (simp; omega)))))⟩
        · have q1i : ¬ (8 : Int) < (p.prms.length : Int) := by omega
          by_cases q2 : p.body.length < 1
          · have q2i : (p.body.length : Int) < 1 := by omega
            have HM : Hid (mayPc p = false) := by
              show mayPc p = false
              rw [mayPc_eq, decide_eq_false (p := 1 ≤ p.body.length) (by omega)]
              simp
            go_enter Tryz.func43, Tryz.ntmps43
            go_wp2_with (first | (go_at_call 80; refine (dName_any p.nm _).mono ?_; rintro e w' ⟨rfl, he⟩; rw [hn, he]; clear he) | (go_at_call 82; refine (in_any _ _).mono ?_; rintro e w' ⟨rfl, he⟩; first | rw [hr, he] | rw [hy, he]; clear he))
            go_ret
            exact ⟨ret_bool HM.out.symm, by (repeat (first | exact Below.refl _ _ | assumption | refine Below.drew ?_ | refine below_drewN ?_ _ | refine Below.alloc ?_ (by first | omega | (simp; done) | (simp; omega)) _ | refine Below.setCell ?_ (by first | omega | (simp; done) | (simp; omega)) _ | refine Below.trans ?_ (Below.mono (by assumption) (by first | omega | (simp; done) | (simp; omega)))))⟩
          · have q2i : ¬ (p.body.length : Int) < 1 := by omega
            by_cases q3 : 8 < p.body.length
            · have q3i : (8 : Int) < (p.body.length : Int) := by omega
              have HM : Hid (mayPc p = false) := by
                show mayPc p = false
                rw [mayPc_eq, decide_eq_false (p := p.body.length ≤ 8) (by omega)]
                simp
              go_enter Tryz.func43, Tryz.ntmps43
              go_wp2_with (first | (go_at_call 80; refine (dName_any p.nm _).mono ?_; rintro e w' ⟨rfl, he⟩; rw [hn, he]; clear he) | (go_at_call 82; refine (in_any _ _).mono ?_; rintro e w' ⟨rfl, he⟩; first | rw [hr, he] | rw [hy, he]; clear he))
              go_ret
              exact ⟨ret_bool HM.out.symm, by (repeat (first | exact Below.refl _ _ | assumption | refine Below.drew ?_ | refine below_drewN ?_ _ | refine Below.alloc ?_ (by first | omega | (simp; done) | (simp; omega)) _ | refine Below.setCell ?_ (by first | omega | (simp; done) | (simp; omega)) _ | refine Below.trans ?_ (Below.mono (by assumption) (by first | omega | (simp; done) | (simp; omega)))))⟩
            · have q3i : ¬ (8 : Int) < (p.body.length : Int) := by omega
              go_enter Tryz.func43, Tryz.ntmps43
              go_wp2_with (first | (go_at_call 80; refine (dName_any p.nm _).mono ?_; rintro e w' ⟨rfl, he⟩; rw [hn, he]; clear he) | (go_at_call 82; refine (in_any _ _).mono ?_; rintro e w' ⟨rfl, he⟩; first | rw [hr, he] | rw [hy, he]; clear he))
              have HN := Lib.hid hn
              have HRR := Lib.hid hr
              have HYY := Lib.hid hy
              clear hn hr hy q1i q2i q3i
              go_loopw [6, 7] (fun v i wr => ∃ k : Nat, k ≤ p.prms.length ∧ i = .int .i64 k ∧ OwnR 1 9 StrR wr (w.heap.size + 1) v ((p.prms.map fun x => x.nm).take k) ∧ (∀ j (h : j < p.prms.length), j < k → typB p.prms[j].ty = true) ∧ Below (w.heap.size + 1) (w.alloc (.cells #[.string p.nm, .slice pp p.prms.length cp, .slice pb p.body.length cb, .int .i64 p.rows, .int .i64 p.bytes] 52)) wr) (fun _ i _ => p.prms.length - (intOf i).toNat)
              case atStart => exact ⟨0, Nat.zero_le _, rfl, OwnR.nil _ _ _ _ _, fun _ _ g => absurd g (Nat.not_lt_zero _), by first | exact Below.refl _ _ | simpa using Below.refl _ _⟩
              case round =>
                obtain ⟨k, hk, rfl, hown, hall, hbl⟩ := hrel
                have HBL := Lib.hid hbl
                obtain ⟨e0, e1⟩ := HBX.out wr hbl
                obtain ⟨s0, s1, s2, s3, s4⟩ := five_of e0
                have WK := Lib.hid e1
                have hwz : w.heap.size < wr.heap.size := (Array.getElem?_eq_some_iff.1 e0).1
                have HO := Lib.hid hown
                have HA := Lib.hid hall
                clear hown hall
                clear hbl e0 e1
                by_cases hlt : k < p.prms.length
                · have hlti : (k : Int) < (p.prms.length : Int) := by omega
                  obtain ⟨b, off, v0, v1, rfl, hRk, c0, c1⟩ := H1.out.at2 hlt
                  simp only [PmR, List.cons.injEq, and_true] at hRk
                  obtain ⟨rfl, rfl⟩ := hRk
                  have d0 := cell_later WK.out c0
                  have d1 := cell_later WK.out c1
                  obtain ⟨ps, p1, p2, p3⟩ := HO.out
                  have hps : ((p.prms.map fun x => x.nm).take k).length = k := by simp; omega
                  rw [hps] at p3
                  have P1 := Lib.hid p1
                  have P2 := Lib.hid p2
                  have hown2 := p3
                  have HGE := Lib.hid (own_ge p3)
                  clear p1 p2 p3 c0
                  obtain ⟨ty, hty⟩ : ∃ ty, p.prms[k].ty = ty := ⟨_, rfl⟩
                  rw [hty] at c1 d1
                  by_cases t1 : ty < 1
                  · have HM : Hid (mayPc p = false) := by
                      show mayPc p = false
                      rw [mayPc_eq, allB_false (n := p.prms.length) (H := fun i => (p.prms[i]?).any fun c => typB c.ty) k hlt (by simp [hlt, typB, hty]; omega)]
                      simp
                    clear hty
                    go_wp2_with (first | (at_builtin; refine wpList_append_own _ rfl _ _ 50 rfl (w.heap.size + 1) 9 i0 (.string ⟨#[]⟩) 1 16 Tryz.underlying50 hi hz0 hz1 hz2 rfl (by decide) _ k (ps.flatMap (·.2)) rfl (hown2.alloc _) ⟨wr.heap.size, 0, none⟩ 1 1 [.string p.prms[k].nm] rfl rfl (cells_alloc _ _ _) (by intro u hu; simp only [List.mem_cons, List.not_mem_nil, or_false] at hu; rcases hu with rfl <;> rfl) (by unfold maxLen; omega) (by omega) (by first | omega | (simp; done) | (simp; omega)) ?_; intro v' w3 hown3 hgrow3 _; (have B3 := Lib.hid ((HBL.out.alloc (by first | omega | (simp; done) | (simp; omega)) _).grown hgrow3 (by first | omega | (simp; done) | (simp; omega)) HGE.out)); (have HO3 := Lib.hid hown3); obtain ⟨e0, e1⟩ := HBX.out w3 B3.out; obtain ⟨s0, s1, s2, s3, s4⟩ := five_of e0; (have z0 := cell_later e1 c1); clear e0 e1 hown3 hgrow3))
                    go_ret
                    exact ⟨ret_bool HM.out.symm, (HBX.out _ B3.out).2⟩
                  · have t1i : ¬ ty < 1 := t1
                    by_cases t2 : 3 < ty
                    · have HM : Hid (mayPc p = false) := by
                        show mayPc p = false
                        rw [mayPc_eq, allB_false (n := p.prms.length) (H := fun i => (p.prms[i]?).any fun c => typB c.ty) k hlt (by simp [hlt, typB, hty]; omega)]
                        simp
                      clear hty
                      go_wp2_with (first | (at_builtin; refine wpList_append_own _ rfl _ _ 50 rfl (w.heap.size + 1) 9 i0 (.string ⟨#[]⟩) 1 16 Tryz.underlying50 hi hz0 hz1 hz2 rfl (by decide) _ k (ps.flatMap (·.2)) rfl (hown2.alloc _) ⟨wr.heap.size, 0, none⟩ 1 1 [.string p.prms[k].nm] rfl rfl (cells_alloc _ _ _) (by intro u hu; simp only [List.mem_cons, List.not_mem_nil, or_false] at hu; rcases hu with rfl <;> rfl) (by unfold maxLen; omega) (by omega) (by first | omega | (simp; done) | (simp; omega)) ?_; intro v' w3 hown3 hgrow3 _; (have B3 := Lib.hid ((HBL.out.alloc (by first | omega | (simp; done) | (simp; omega)) _).grown hgrow3 (by first | omega | (simp; done) | (simp; omega)) HGE.out)); (have HO3 := Lib.hid hown3); obtain ⟨e0, e1⟩ := HBX.out w3 B3.out; obtain ⟨s0, s1, s2, s3, s4⟩ := five_of e0; (have z0 := cell_later e1 c1); clear e0 e1 hown3 hgrow3))
                      go_ret
                      exact ⟨ret_bool HM.out.symm, (HBX.out _ B3.out).2⟩
                    · have t2i : ¬ 3 < ty := t2
                      have HA2 : Hid (∀ j (h : j < p.prms.length), j < k + 1 → typB p.prms[j].ty = true) := fun j h g => by
                        by_cases e : j = k
                        · subst e
                          rw [hty]
                          simp [typB]
                          omega
                        · exact HA.out j h (by omega)
                      clear hty
                      go_wp2_with (first | (at_builtin; refine wpList_append_own _ rfl _ _ 50 rfl (w.heap.size + 1) 9 i0 (.string ⟨#[]⟩) 1 16 Tryz.underlying50 hi hz0 hz1 hz2 rfl (by decide) _ k (ps.flatMap (·.2)) rfl (hown2.alloc _) ⟨wr.heap.size, 0, none⟩ 1 1 [.string p.prms[k].nm] rfl rfl (cells_alloc _ _ _) (by intro u hu; simp only [List.mem_cons, List.not_mem_nil, or_false] at hu; rcases hu with rfl <;> rfl) (by unfold maxLen; omega) (by omega) (by first | omega | (simp; done) | (simp; omega)) ?_; intro v' w3 hown3 hgrow3 _; (have B3 := Lib.hid ((HBL.out.alloc (by first | omega | (simp; done) | (simp; omega)) _).grown hgrow3 (by first | omega | (simp; done) | (simp; omega)) HGE.out)); (have HO3 := Lib.hid hown3); obtain ⟨e0, e1⟩ := HBX.out w3 B3.out; obtain ⟨s0, s1, s2, s3, s4⟩ := five_of e0; (have z0 := cell_later e1 c1); clear e0 e1 hown3 hgrow3))
                      go_roundw
                      case rel =>
                        refine ⟨k + 1, by omega, by go_num, ?_, HA2.out, B3.out⟩
                        rw [← take_snoc (p.prms.map fun x => x.nm) k (by simp; omega), List.getElem_map]
                        refine OwnR.push (n := 1) P1.out P2.out (fun _ _ h => h) (x := p.prms[k].nm) (us := [.string p.prms[k].nm]) rfl rfl ?_
                        rw [hps]
                        exact HO3.out
                      case measure => simp [intOf]; omega
                · have hlti : ¬ (k : Int) < (p.prms.length : Int) := by omega
                  have HT : Hid (allB p.prms.length (fun i => (p.prms[i]?).any fun c => typB c.ty) = true) := allB_iff.2 fun i hi => by
                    have := HA.out i hi (by omega)
                    simpa [hi] using this
                  have hO := HO.out
                  rw [List.take_of_length_le (by simp; omega)] at hO
                  obtain ⟨q, cap, rfl, -⟩ := hO.form
                  have HRW : Hid (RowR 1 StrR wr q (p.prms.map fun x => x.nm)) := hO.row (fun _ _ h => h)
                  have hnl : (p.prms.map fun x => x.nm).length ≤ 1099511627776 := by simp; omega
                  clear hO
                  go_wp2
                  clear s0 s1 s2 s3 s4
                  go_loopw [8] (fun i wq => ∃ k : Nat, k ≤ p.body.length ∧ i = .int .i64 k ∧ (∀ j (h : j < p.body.length), j < k → srcB p.body[j] = true) ∧ wq = wr) (fun i _ => p.body.length - (intOf i).toNat)
                  case atStart => exact ⟨0, Nat.zero_le _, rfl, fun _ _ g => absurd g (Nat.not_lt_zero _), rfl⟩
                  case round =>
                    obtain ⟨k, hk, rfl, hall, rfl⟩ := hrel
                    have HA3 := Lib.hid hall
                    obtain ⟨e0, e1⟩ := HBX.out _ HBL.out
                    obtain ⟨s0, s1, s2, s3, s4⟩ := five_of e0
                    clear hall e0 e1
                    by_cases hlt : k < p.body.length
                    · have hlti : (k : Int) < (p.body.length : Int) := by omega
                      obtain ⟨b, off, v0, rfl, hRk, c0⟩ := H2.out.at1 hlt
                      simp only [StrR, List.cons.injEq, and_true] at hRk
                      subst hRk
                      have d0 := cell_later WK.out c0
                      clear c0
                      by_cases t1 : p.body[k].size < 1
                      · have HM : Hid (mayPc p = false) := by
                          show mayPc p = false
                          rw [mayPc_eq, allB_false (n := p.body.length) (H := fun i => (p.body[i]?).any srcB) k hlt (by simp [hlt, srcB]; omega)]
                          simp
                        have t1i : (p.body[k].size : Int) < 1 := by omega
                        go_wp2
                        go_ret
                        exact ⟨ret_bool HM.out.symm, by have h0 := WK.out; (repeat (first | exact Below.refl _ _ | assumption | refine Below.drew ?_ | refine below_drewN ?_ _ | refine Below.alloc ?_ (by first | omega | (simp; done) | (simp; omega)) _ | refine Below.setCell ?_ (by first | omega | (simp; done) | (simp; omega)) _ | refine Below.trans ?_ (Below.mono (by assumption) (by first | omega | (simp; done) | (simp; omega)))))⟩
                      · have t1i : ¬ (p.body[k].size : Int) < 1 := by omega
                        by_cases t2 : 1000 < p.body[k].size
                        · have HM : Hid (mayPc p = false) := by
                            show mayPc p = false
                            rw [mayPc_eq, allB_false (n := p.body.length) (H := fun i => (p.body[i]?).any srcB) k hlt (by simp [hlt, srcB]; omega)]
                            simp
                          have t2i : (1000 : Int) < (p.body[k].size : Int) := by omega
                          go_wp2
                          go_ret
                          exact ⟨ret_bool HM.out.symm, by have h0 := WK.out; (repeat (first | exact Below.refl _ _ | assumption | refine Below.drew ?_ | refine below_drewN ?_ _ | refine Below.alloc ?_ (by first | omega | (simp; done) | (simp; omega)) _ | refine Below.setCell ?_ (by first | omega | (simp; done) | (simp; omega)) _ | refine Below.trans ?_ (Below.mono (by assumption) (by first | omega | (simp; done) | (simp; omega)))))⟩
                        · have t2i : ¬ (1000 : Int) < (p.body[k].size : Int) := by omega
                          have HA2 : Hid (∀ j (h : j < p.body.length), j < k + 1 → srcB p.body[j] = true) := fun j h g => by
                            by_cases e : j = k
                            · subst e
                              simp [srcB]
                              omega
                            · exact HA3.out j h (by omega)
                          go_wp2
                          go_roundw
                          case rel => exact ⟨k + 1, by omega, by go_num, HA2.out, trivial⟩
                          case measure => simp [intOf]; omega
                    · have hlti : ¬ (k : Int) < (p.body.length : Int) := by omega
                      have HBB : Hid (allB p.body.length (fun i => (p.body[i]?).any srcB) = true) := allB_iff.2 fun i hi => by
                        have := HA3.out i hi (by omega)
                        simpa [hi] using this
                      have HM : Hid (mayPc p = allNm (p.prms.map fun x => x.nm)) := by
                        show mayPc p = _
                        rw [mayPc_eq, HN.out, HRR.out, HYY.out, decide_eq_true (p := p.prms.length ≤ 8) (by omega), decide_eq_true (p := 1 ≤ p.body.length) (by omega), decide_eq_true (p := p.body.length ≤ 8) (by omega), HT.out, HBB.out]
                        simp
                      go_wp2_with (first | (go_at_call 44; refine (names_any q _ cap (p.prms.map fun x => x.nm) _ (by simp) HRW.out hnl).mono ?_; rintro e w' ⟨rfl, hq⟩; obtain ⟨n1, rfl⟩ := hq))
                      go_ret
                      exact ⟨ret_bool HM.out.symm, by have h0 := WK.out; (repeat (first | exact Below.refl _ _ | assumption | refine Below.drew ?_ | refine below_drewN ?_ _ | refine Below.alloc ?_ (by first | omega | (simp; done) | (simp; omega)) _ | refine Below.setCell ?_ (by first | omega | (simp; done) | (simp; omega)) _ | refine Below.trans ?_ (Below.mono (by assumption) (by first | omega | (simp; done) | (simp; omega)))))⟩
end Go.Proofs.YtkgkkcefnonejaaGreat
/- Walks of layer 8: the document's Right. -/
namespace Go.Proofs.YtkgkkcefnonejaaGreat
open Go.RowKit

theorem rightC_eq (c : Ct) : rightC c = (decide (c.tbs.length ≤ 8) && decide (c.prs.length ≤ 16) && allB c.tbs.length (fun i => (c.tbs[i]?).any mayTb) && allB c.prs.length (fun i => (c.prs[i]?).any mayPc) && allNm (c.tbs.map fun x => x.nm) && allNm (c.prs.map fun x => x.nm)) := by
  simp only [rightC, allB_and, allNm, List.length_map, List.map_map, Function.comp_def]
  ac_rfl

set_option maxHeartbeats 32000000 in
set_option maxRecDepth 100000 in
theorem dRight_any (c : Ct) (vs : List Value) (w : World) (hR : CtR w c vs) :
    Calls Tryz.prog 13 #[.agg vs.toArray] w fun e w' => e = .returned (.bool (rightC c)) ∧ Below w.heap.size w w' := by
  obtain ⟨pt, ct, pp, cp, rfl, r1, r2⟩ := hR
  obtain ⟨i0, hi, hz0, hz1, hz2⟩ := info_parts Tryz.infoStr
  have H1 := Lib.hid r1
  have H2 := Lib.hid r2
  clear r1 r2
  have HBX : Hid (∀ W, Below (w.heap.size + 1) (w.alloc (.cells #[.slice pt c.tbs.length ct, .slice pp c.prs.length cp] 25)) W → W.heap[w.heap.size]? = some (.cells #[.slice pt c.tbs.length ct, .slice pp c.prs.length cp] 25 (0, 0)) ∧ Below w.heap.size w W) := fun W h => ⟨(h.block _ (by omega)).trans (heap_alloc_new w _), ((Below.refl _ _).alloc (Nat.le_refl _) _).trans (h.mono (by omega))⟩
  by_cases q1 : 8 < c.tbs.length
  · have q1i : (8 : Int) < (c.tbs.length : Int) := by omega
    have HM : Hid (rightC c = false) := by
      show rightC c = false
      rw [rightC_eq, decide_eq_false (p := c.tbs.length ≤ 8) (by omega)]
      simp
    go_enter Tryz.func13, Tryz.ntmps13
    go_wp2
    go_ret
    exact ⟨ret_bool HM.out.symm, by (repeat (first | exact Below.refl _ _ | assumption | refine Below.drew ?_ | refine below_drewN ?_ _ | refine Below.alloc ?_ (by first | omega | (simp; done) | (simp; omega)) _ | refine Below.setCell ?_ (by first | omega | (simp; done) | (simp; omega)) _ | refine Below.trans ?_ (Below.mono (by assumption) (by first | omega | (simp; done) | (simp; omega)))))⟩
  · have q1i : ¬ (8 : Int) < (c.tbs.length : Int) := by omega
    by_cases q2 : 16 < c.prs.length
    · have q2i : (16 : Int) < (c.prs.length : Int) := by omega
      have HM : Hid (rightC c = false) := by
        show rightC c = false
        rw [rightC_eq, decide_eq_false (p := c.prs.length ≤ 16) (by omega)]
        simp
      go_enter Tryz.func13, Tryz.ntmps13
      go_wp2
      go_ret
      exact ⟨ret_bool HM.out.symm, by (repeat (first | exact Below.refl _ _ | assumption | refine Below.drew ?_ | refine below_drewN ?_ _ | refine Below.alloc ?_ (by first | omega | (simp; done) | (simp; omega)) _ | refine Below.setCell ?_ (by first | omega | (simp; done) | (simp; omega)) _ | refine Below.trans ?_ (Below.mono (by assumption) (by first | omega | (simp; done) | (simp; omega)))))⟩
    · have q2i : ¬ (16 : Int) < (c.prs.length : Int) := by omega
      go_enter Tryz.func13, Tryz.ntmps13
      go_wp2
      clear q1i q2i
      go_loopw [3, 5] (fun v i wq => ∃ k : Nat, k ≤ c.tbs.length ∧ i = .int .i64 k ∧ OwnR 1 9 StrR wq (w.heap.size + 1) v ((c.tbs.map fun x => x.nm).take k) ∧ (∀ j (h : j < c.tbs.length), j < k → mayTb c.tbs[j] = true) ∧ Below (w.heap.size + 1) (w.alloc (.cells #[.slice pt c.tbs.length ct, .slice pp c.prs.length cp] 25)) wq) (fun _ i _ => c.tbs.length - (intOf i).toNat)
      case atStart => exact ⟨0, Nat.zero_le _, rfl, OwnR.nil _ _ _ _ _, fun _ _ g => absurd g (Nat.not_lt_zero _), by first | exact Below.refl _ _ | simpa using Below.refl _ _⟩
      case round =>
        obtain ⟨k, hk, rfl, hown, hall, hbl⟩ := hrel
        have HBL := Lib.hid hbl
        obtain ⟨e0, e1⟩ := HBX.out wr hbl
        obtain ⟨s0, s1⟩ := two_cells e0
        have WK := Lib.hid e1
        have hwz : w.heap.size < wr.heap.size := (Array.getElem?_eq_some_iff.1 e0).1
        have HO := Lib.hid hown
        have HA := Lib.hid hall
        have hbz := hbl.size
        clear hown hall
        clear hbl e0 e1
        by_cases hlt : k < c.tbs.length
        · have hlti : (k : Int) < (c.tbs.length : Int) := by omega
          obtain ⟨b, off, v0, v1, v2, v3, v4, rfl, hRk, c0, c1, c2, c3, c4⟩ := H1.out.at5 hlt
          have HRk : Hid (∀ W, Below w.heap.size w W → TbR W c.tbs[k] [v0, v1, v2, v3, v4]) := fun W h => TbR.later h _ _ hRk
          obtain ⟨ac, bc, ak, bk, ax, bx, hRk, -, -, -⟩ := hRk
          simp only [List.cons.injEq, and_true] at hRk
          obtain ⟨rfl, rfl, rfl, rfl, rfl⟩ := hRk
          have d0 := cell_later WK.out c0
          have d1 := cell_later WK.out c1
          have d2 := cell_later WK.out c2
          have d3 := cell_later WK.out c3
          have d4 := cell_later WK.out c4
          obtain ⟨ps, p1, p2, p3⟩ := HO.out
          have hps : ((c.tbs.map fun x => x.nm).take k).length = k := by simp; omega
          rw [hps] at p3
          have P1 := Lib.hid p1
          have P2 := Lib.hid p2
          have HP3 := Lib.hid p3
          have HGE := Lib.hid (own_ge p3)
          clear p1 p2 p3 c1 c2 c3 c4
          cases hm : mayTb c.tbs[k] with
          | false =>
            have HM : Hid (rightC c = false) := by
              show rightC c = false
              rw [rightC_eq, allB_false (n := c.tbs.length) (H := fun i => (c.tbs[i]?).any mayTb) k hlt (by simp [hlt, hm])]
              simp
            go_wp2_with (first | (go_at_call 42; refine (dMayTb_any c.tbs[k] _ _ (HRk.out _ WK.out)).mono ?_; rintro e w2 ⟨rfl, hb2⟩; rw [hm]; (have hs2 := hb2.size); (have B2 := Lib.hid (HBL.out.trans (hb2.mono (by first | omega | (simp at hbz; omega))))); (have hown2 := own_later HP3.out hb2); obtain ⟨e0, e1⟩ := HBX.out w2 B2.out; obtain ⟨s0, s1⟩ := two_cells e0; (have z0 := cell_later e1 c0); (have W2 := Lib.hid e1); clear e0 e1 hb2))
            go_ret
            exact ⟨ret_bool HM.out.symm, W2.out⟩
          | true =>
            have HA2 : Hid (∀ j (h : j < c.tbs.length), j < k + 1 → mayTb c.tbs[j] = true) := fun j h g => by
              by_cases e : j = k
              · subst e; exact hm
              · exact HA.out j h (by omega)
            go_wp2_with (first | (go_at_call 42; refine (dMayTb_any c.tbs[k] _ _ (HRk.out _ WK.out)).mono ?_; rintro e w2 ⟨rfl, hb2⟩; rw [hm]; (have hs2 := hb2.size); (have B2 := Lib.hid (HBL.out.trans (hb2.mono (by first | omega | (simp at hbz; omega))))); (have hown2 := own_later HP3.out hb2); obtain ⟨e0, e1⟩ := HBX.out w2 B2.out; obtain ⟨s0, s1⟩ := two_cells e0; (have z0 := cell_later e1 c0); (have W2 := Lib.hid e1); clear e0 e1 hb2) | (at_builtin; refine wpList_append_own _ rfl _ _ 50 rfl (w.heap.size + 1) 9 i0 (.string ⟨#[]⟩) 1 16 Tryz.underlying50 hi hz0 hz1 hz2 rfl (by decide) _ k (ps.flatMap (·.2)) rfl (hown2.alloc _) ⟨w2.heap.size, 0, none⟩ 1 1 [.string c.tbs[k].nm] rfl rfl (cells_alloc _ _ _) (by intro u hu; simp only [List.mem_cons, List.not_mem_nil, or_false] at hu; rcases hu with rfl <;> rfl) (by unfold maxLen; omega) (by omega) (by first | omega | (simp; done) | (simp; omega)) ?_; intro v' w3 hown3 hgrow3 _; (have B3 := Lib.hid ((B2.out.alloc (by first | omega | (simp; done) | (simp; omega)) _).grown hgrow3 (by first | omega | (simp; done) | (simp; omega)) HGE.out)); (have HO3 := Lib.hid hown3); obtain ⟨e0, e1⟩ := HBX.out w3 B3.out; obtain ⟨s0, s1⟩ := two_cells e0; skip; clear e0 e1 hown3 hgrow3))
            go_roundw
            case rel =>
              refine ⟨k + 1, by omega, by go_num, ?_, HA2.out, B3.out⟩
              rw [← take_snoc (c.tbs.map fun x => x.nm) k (by simp; omega), List.getElem_map]
              refine OwnR.push (n := 1) P1.out P2.out (fun _ _ h => h) (x := c.tbs[k].nm) (us := [.string c.tbs[k].nm]) rfl rfl ?_
              rw [hps]
              exact HO3.out
            case measure => simp [intOf]; omega
        · have hlti : ¬ (k : Int) < (c.tbs.length : Int) := by omega
          have HT : Hid (allB c.tbs.length (fun i => (c.tbs[i]?).any mayTb) = true) := allB_iff.2 fun i hi => by
            have := HA.out i hi (by omega)
            simpa [hi] using this
          have hO := HO.out
          rw [List.take_of_length_le (by simp; omega)] at hO
          obtain ⟨q, cap, rfl, -⟩ := hO.form
          have HRW : Hid (RowR 1 StrR wr q (c.tbs.map fun x => x.nm)) := hO.row (fun _ _ h => h)
          have hnl : (c.tbs.map fun x => x.nm).length ≤ 1099511627776 := by simp; omega
          clear hO
          have HBY : Hid (∀ W, Below wr.heap.size wr W → W.heap[w.heap.size]? = some (.cells #[.slice pt c.tbs.length ct, .slice pp c.prs.length cp] 25 (0, 0)) ∧ Below w.heap.size w W) := fun W h => HBX.out W (HBL.out.trans (h.mono (by omega)))
          go_wp2
          clear s0 s1
          rename World => W1
          go_loopw [4, 7] (fun v i wq => ∃ k : Nat, k ≤ c.prs.length ∧ i = .int .i64 k ∧ OwnR 1 9 StrR wq W1.heap.size v ((c.prs.map fun x => x.nm).take k) ∧ (∀ j (h : j < c.prs.length), j < k → mayPc c.prs[j] = true) ∧ Below W1.heap.size W1 wq) (fun _ i _ => c.prs.length - (intOf i).toNat)
          case atStart => exact ⟨0, Nat.zero_le _, rfl, OwnR.nil _ _ _ _ _, fun _ _ g => absurd g (Nat.not_lt_zero _), Below.refl _ _⟩
          case round =>
            clear HBL WK HO HA
            obtain ⟨k, hk, rfl, hown, hall, hbl⟩ := hrel
            have HBL := Lib.hid hbl
            obtain ⟨e0, e1⟩ := HBY.out wr hbl
            obtain ⟨s0, s1⟩ := two_cells e0
            have WK := Lib.hid e1
            have hwz : w.heap.size < wr.heap.size := (Array.getElem?_eq_some_iff.1 e0).1
            have HO := Lib.hid hown
            have HA := Lib.hid hall
            have hbz := hbl.size
            clear hown hall
            clear hbl e0 e1
            by_cases hlt : k < c.prs.length
            · have hlti : (k : Int) < (c.prs.length : Int) := by omega
              obtain ⟨b, off, v0, v1, v2, v3, v4, rfl, hRk, c0, c1, c2, c3, c4⟩ := H2.out.at5 hlt
              have HRk : Hid (∀ W, Below w.heap.size w W → PcR W c.prs[k] [v0, v1, v2, v3, v4]) := fun W h => PcR.later h _ _ hRk
              obtain ⟨ac, bc, ak, bk, hRk, -, -⟩ := hRk
              simp only [List.cons.injEq, and_true] at hRk
              obtain ⟨rfl, rfl, rfl, rfl, rfl⟩ := hRk
              have d0 := cell_later WK.out c0
              have d1 := cell_later WK.out c1
              have d2 := cell_later WK.out c2
              have d3 := cell_later WK.out c3
              have d4 := cell_later WK.out c4
              obtain ⟨ps, p1, p2, p3⟩ := HO.out
              have hps : ((c.prs.map fun x => x.nm).take k).length = k := by simp; omega
              rw [hps] at p3
              have P1 := Lib.hid p1
              have P2 := Lib.hid p2
              have HP3 := Lib.hid p3
              have HGE := Lib.hid (own_ge p3)
              clear p1 p2 p3 c1 c2 c3 c4
              cases hm : mayPc c.prs[k] with
              | false =>
                have HM : Hid (rightC c = false) := by
                  show rightC c = false
                  rw [rightC_eq, allB_false (n := c.prs.length) (H := fun i => (c.prs[i]?).any mayPc) k hlt (by simp [hlt, hm])]
                  simp
                go_wp2_with (first | (go_at_call 43; refine (dMayPc_any c.prs[k] _ _ (HRk.out _ WK.out)).mono ?_; rintro e w2 ⟨rfl, hb2⟩; rw [hm]; (have hs2 := hb2.size); (have B2 := Lib.hid (HBL.out.trans (hb2.mono (by first | omega | (simp at hbz; omega))))); (have hown2 := own_later HP3.out hb2); obtain ⟨e0, e1⟩ := HBY.out w2 B2.out; obtain ⟨s0, s1⟩ := two_cells e0; (have z0 := cell_later e1 c0); (have W2 := Lib.hid e1); clear e0 e1 hb2))
                go_ret
                exact ⟨ret_bool HM.out.symm, W2.out⟩
              | true =>
                have HA2 : Hid (∀ j (h : j < c.prs.length), j < k + 1 → mayPc c.prs[j] = true) := fun j h g => by
                  by_cases e : j = k
                  · subst e; exact hm
                  · exact HA.out j h (by omega)
                go_wp2_with (first | (go_at_call 43; refine (dMayPc_any c.prs[k] _ _ (HRk.out _ WK.out)).mono ?_; rintro e w2 ⟨rfl, hb2⟩; rw [hm]; (have hs2 := hb2.size); (have B2 := Lib.hid (HBL.out.trans (hb2.mono (by first | omega | (simp at hbz; omega))))); (have hown2 := own_later HP3.out hb2); obtain ⟨e0, e1⟩ := HBY.out w2 B2.out; obtain ⟨s0, s1⟩ := two_cells e0; (have z0 := cell_later e1 c0); (have W2 := Lib.hid e1); clear e0 e1 hb2) | (at_builtin; refine wpList_append_own _ rfl _ _ 50 rfl W1.heap.size 9 i0 (.string ⟨#[]⟩) 1 16 Tryz.underlying50 hi hz0 hz1 hz2 rfl (by decide) _ k (ps.flatMap (·.2)) rfl (hown2.alloc _) ⟨w2.heap.size, 0, none⟩ 1 1 [.string c.prs[k].nm] rfl rfl (cells_alloc _ _ _) (by intro u hu; simp only [List.mem_cons, List.not_mem_nil, or_false] at hu; rcases hu with rfl <;> rfl) (by unfold maxLen; omega) (by omega) (by first | omega | (simp; done) | (simp; omega)) ?_; intro v' w3 hown3 hgrow3 _; (have B3 := Lib.hid ((B2.out.alloc (by first | omega | (simp; done) | (simp; omega)) _).grown hgrow3 (by first | omega | (simp; done) | (simp; omega)) HGE.out)); (have HO3 := Lib.hid hown3); obtain ⟨e0, e1⟩ := HBY.out w3 B3.out; obtain ⟨s0, s1⟩ := two_cells e0; skip; clear e0 e1 hown3 hgrow3))
                go_roundw
                case rel =>
                  refine ⟨k + 1, by omega, by go_num, ?_, HA2.out, B3.out⟩
                  rw [← take_snoc (c.prs.map fun x => x.nm) k (by simp; omega), List.getElem_map]
                  refine OwnR.push (n := 1) P1.out P2.out (fun _ _ h => h) (x := c.prs[k].nm) (us := [.string c.prs[k].nm]) rfl rfl ?_
                  rw [hps]
                  exact HO3.out
                case measure => simp [intOf]; omega
            · have hlti : ¬ (k : Int) < (c.prs.length : Int) := by omega
              have HP : Hid (allB c.prs.length (fun i => (c.prs[i]?).any mayPc) = true) := allB_iff.2 fun i hi => by
                have := HA.out i hi (by omega)
                simpa [hi] using this
              have hO := HO.out
              rw [List.take_of_length_le (by simp; omega)] at hO
              obtain ⟨q2, cap2, rfl, -⟩ := hO.form
              have HRV : Hid (RowR 1 StrR wr q2 (c.prs.map fun x => x.nm)) := hO.row (fun _ _ h => h)
              have HRU : Hid (RowR 1 StrR wr q (c.tbs.map fun x => x.nm)) := HRW.out.later HBL.out (fun _ _ h => h)
              have hnl2 : (c.prs.map fun x => x.nm).length ≤ 1099511627776 := by simp; omega
              clear hO
              have HM : Hid (rightC c = (allNm (c.tbs.map fun x => x.nm) && allNm (c.prs.map fun x => x.nm))) := by
                show rightC c = _
                rw [rightC_eq, decide_eq_true (p := c.tbs.length ≤ 8) (by omega), decide_eq_true (p := c.prs.length ≤ 16) (by omega), HT.out, HP.out]
                simp
              obtain ⟨NA, hu⟩ : ∃ NA, allNm (c.tbs.map fun x => x.nm) = NA := ⟨_, rfl⟩
              obtain ⟨NB, hv⟩ : ∃ NB, allNm (c.prs.map fun x => x.nm) = NB := ⟨_, rfl⟩
              rw [hu, hv] at HM
              go_wp2_with fail
              refine (names_any q _ cap (c.tbs.map fun x => x.nm) _ (by simp) HRU.out hnl).mono ?_
              rintro e w' ⟨rfl, n1, rfl⟩
              rw [hu]
              go_wp2_with fail
              refine (names_any q2 _ cap2 (c.prs.map fun x => x.nm) _ (by simp) (HRV.out.later (quiet_below ⟨n1, rfl⟩) fun _ _ h => h) hnl2).mono ?_
              rintro e w' ⟨rfl, n2, rfl⟩
              rw [hv]
              cases NA
              all_goals
                go_wp2
                go_ret
                exact ⟨ret_bool (by rw [HM.out]; rfl), by have h0 := WK.out; (repeat (first | exact Below.refl _ _ | assumption | refine Below.drew ?_ | refine below_drewN ?_ _ | refine Below.alloc ?_ (by first | omega | (simp; done) | (simp; omega)) _ | refine Below.setCell ?_ (by first | omega | (simp; done) | (simp; omega)) _ | refine Below.trans ?_ (Below.mono (by assumption) (by first | omega | (simp; done) | (simp; omega)))))⟩
end Go.Proofs.YtkgkkcefnonejaaGreat
/- Walks of layer 8: the document's SameTable. -/
namespace Go.Proofs.YtkgkkcefnonejaaGreat
open Go.RowKit

theorem ix_ext {u v : Ix} (h1 : u.nm = v.nm) (h2 : u.cols = v.cols) (h3 : u.un = v.un) : u = v := by
  cases u; cases v
  simp only at h1 h2 h3
  rw [h1, h2, h3]
theorem col_ext {u v : Col} (h1 : u.nm = v.nm) (h2 : u.ty = v.ty) (h3 : u.nn = v.nn) : u = v := by
  cases u; cases v
  simp only at h1 h2 h3
  rw [h1, h2, h3]

set_option maxHeartbeats 16000000 in
set_option maxRecDepth 100000 in
theorem sameTable_any (p q : Tb) (us vs : List Value) (w : World) (hp : TbR w p us) (hq : TbR w q vs) (h1 : p.cols.length ≤ 1099511627776) (h2 : p.key.length ≤ 1099511627776) (h3 : p.ixs.length ≤ 1099511627776) (h4 : ∀ x ∈ p.ixs, x.cols.length ≤ 1099511627776) :
    Calls Tryz.prog 32 #[.agg us.toArray, .agg vs.toArray] w (SamP p q w) := by
  obtain ⟨n1, l1, k1, x1, m1⟩ := p
  obtain ⟨n2, l2, k2, x2, m2⟩ := q
  obtain ⟨pa, ca, pk, ck, pb, cb, rfl, ra, rk, rb⟩ := hp
  obtain ⟨qa, da, qk, dk, qb, db, rfl, sa, sk, sb⟩ := hq
  simp only at h1 h2 h3 h4
  have HA := Lib.hid ra
  have HK := Lib.hid rk
  have HB := Lib.hid rb
  have GA := Lib.hid sa
  have GK := Lib.hid sk
  have GB := Lib.hid sb
  have H4 := Lib.hid h4
  clear ra rb sa sb rk sk h4
  obtain ⟨Z, hZ⟩ : ∃ Z, (w.alloc (.cells #[.string n1, .slice pa l1.length ca, .slice pk k1.length ck, .int .i64 x1, .slice pb m1.length cb] 46)).alloc (.cells #[.string n2, .slice qa l2.length da, .slice qk k2.length dk, .int .i64 x2, .slice qb m2.length db] 46) = Z := ⟨_, rfl⟩
  have hZs : Z.heap.size = w.heap.size + 1 + 1 := by rw [← hZ]; simp
  have HBX : Hid (∀ W, Below Z.heap.size Z W → W.heap[w.heap.size]? = some (.cells #[.string n1, .slice pa l1.length ca, .slice pk k1.length ck, .int .i64 x1, .slice pb m1.length cb] 46 (0, 0)) ∧ W.heap[w.heap.size + 1]? = some (.cells #[.string n2, .slice qa l2.length da, .slice qk k2.length dk, .int .i64 x2, .slice qb m2.length db] 46 (0, 0)) ∧ Below w.heap.size w W) := by
    intro W h
    rw [hZs] at h
    rw [← hZ] at h
    refine ⟨(h.block _ (by omega)).trans (heap_of (heap_alloc_new w _) ((Below.refl _ _).alloc (Nat.le_refl _) _)), (h.block _ (by omega)).trans ?_, (((Below.refl _ _).alloc (Nat.le_refl _) _).alloc (by simp) _).trans (h.mono (by omega))⟩
    have := heap_alloc_new (w.alloc (.cells #[.string n1, .slice pa l1.length ca, .slice pk k1.length ck, .int .i64 x1, .slice pb m1.length cb] 46)) (.cells #[.string n2, .slice qa l2.length da, .slice qk k2.length dk, .int .i64 x2, .slice qb m2.length db] 46 (0, 0))
    simpa using this
  have hse := str_eq n1 n2
  obtain ⟨e0, e1, e2⟩ := HBX.out Z (Below.refl _ _)
  have WZ := Lib.hid e2
  obtain ⟨s0, s1, s2, s3, s4⟩ := five_of e0
  obtain ⟨t0, t1, t2, t3, t4⟩ := five_of e1
  clear e0 e1
  go_enter Tryz.func32, Tryz.ntmps32
  go_wp2_with fail
  refine (sameInts_any pk qk ck dk k1 k2 Z (HK.out.later e2 fun _ _ h => h) (GK.out.later e2 fun _ _ h => h) h2).mono ?_
  rintro e w' ⟨rfl, nk, rfl⟩
  clear e2 hZ
  by_cases hke : k1 = k2
  · subst hke
    rw [decide_eq_true rfl]
    by_cases hne : bs n1 = bs n2
    · obtain rfl := bs_inj hne
      rw [decide_eq_true rfl] at hse
      by_cases hx : x1 = x2
      · subst hx
        by_cases hl : l1.length = l2.length
        · by_cases hm : m1.length = m2.length
          · have HL := Lib.hid hl
            have HM := Lib.hid hm
            rw [← hl, ← hm] at HBX
            rw [← hl] at t1
            rw [← hm] at t4
            clear hl hm
            go_wp2
            clear s0 s1 s2 s3 s4 t0 t1 t2 t3 t4
            go_loopw [6] (fun i wr => ∃ k : Nat, k ≤ l1.length ∧ i = .int .i64 k ∧ l1.take k = l2.take k ∧ Below Z.heap.size Z wr) (fun i _ => l1.length - (intOf i).toNat)
            case atStart => exact ⟨0, Nat.zero_le _, rfl, rfl, below_drewN (Below.refl _ _) _⟩
            case round =>
              obtain ⟨k, hk, rfl, hall, hbl⟩ := hrel
              have HT := Lib.hid hall
              have HBL := Lib.hid hbl
              obtain ⟨e0, e1, e2⟩ := HBX.out _ hbl
              have WK := Lib.hid e2
              obtain ⟨s0, s1, s2, s3, s4⟩ := five_of e0
              obtain ⟨t0, t1, t2, t3, t4⟩ := five_of e1
              clear hall hbl e0 e1 e2
              by_cases hlt : k < l1.length
              · have hlti : (k : Int) < (l1.length : Int) := by omega
                have hlt2 : k < l2.length := by have := HL.out; omega
                obtain ⟨b1, o1, v1, v2, v5, rfl, hR1, e1, e2, e5⟩ := HA.out.at3 hlt
                obtain ⟨b2, o2, v3, v4, v6, rfl, hR2, e3, e4, e6⟩ := GA.out.at3 hlt2
                simp only [ColR, List.cons.injEq, and_true] at hR1 hR2
                obtain ⟨rfl, rfl, rfl⟩ := hR1
                obtain ⟨rfl, rfl, rfl⟩ := hR2
                have d1 := cell_later WK.out e1
                have d2 := cell_later WK.out e2
                have d5 := cell_later WK.out e5
                have d3 := cell_later WK.out e3
                have d4 := cell_later WK.out e4
                have d6 := cell_later WK.out e6
                clear e1 e2 e3 e4 e5 e6
                have hnq := neq_col l1[k].nm l2[k].nm l1[k].ty l2[k].ty l1[k].nn l2[k].nn
                have hgp := guard_col
                by_cases he : l1[k] = l2[k]
                · have HT2 : Hid (l1.take (k + 1) = l2.take (k + 1)) := by
                    show l1.take (k + 1) = l2.take (k + 1)
                    rw [List.take_succ_eq_append_getElem hlt, List.take_succ_eq_append_getElem hlt2, HT.out, he]
                  have hz : (!(decide (bs l1[k].nm = bs l2[k].nm) && decide (l1[k].ty = l2[k].ty) && decide (l1[k].nn = l2[k].nn))) = false := by simp [he]
                  simp only [hz] at hnq
                  clear he hz
                  go_wp2
                  go_quiet (fail)
                  go_wp2
                  go_roundw
                  case rel => exact ⟨k + 1, by omega, by go_num, HT2.out, by have h0 := HBL.out; (repeat (first | exact Below.refl _ _ | assumption | refine Below.drew ?_ | refine below_drewN ?_ _ | refine Below.alloc ?_ (by first | omega | (simp; done) | (simp; omega)) _ | refine Below.setCell ?_ (by first | omega | (simp; done) | (simp; omega)) _ | refine Below.trans ?_ (Below.mono (by assumption) (by first | omega | (simp; done) | (simp; omega)))))⟩
                  case measure => simp [intOf]; omega
                · have HE : Hid (¬ l1 = l2) := fun e => he (by simp only [e])
                  have hz : (!(decide (bs l1[k].nm = bs l2[k].nm) && decide (l1[k].ty = l2[k].ty) && decide (l1[k].nn = l2[k].nn))) = true := by
                    cases h : (decide (bs l1[k].nm = bs l2[k].nm) && decide (l1[k].ty = l2[k].ty) && decide (l1[k].nn = l2[k].nn))
                    · rfl
                    · simp only [Bool.and_eq_true, decide_eq_true_eq] at h
                      exact absurd (col_ext (bs_inj h.1.1) h.1.2 h.2) he
                  simp only [hz] at hnq
                  clear he hz
                  go_wp2
                  go_quiet (fail)
                  go_wp2
                  refine bodyPost_ret (v := .bool false) (by simp [results, Tryz.results32, go_sem]) rfl ?_
                  refine ⟨false, rfl, ⟨fun h => by simp at h, fun h => ?_⟩, by have h0 := WK.out; (repeat (first | exact Below.refl _ _ | assumption | refine Below.drew ?_ | refine below_drewN ?_ _ | refine Below.alloc ?_ (by first | omega | (simp; done) | (simp; omega)) _ | refine Below.setCell ?_ (by first | omega | (simp; done) | (simp; omega)) _ | refine Below.trans ?_ (Below.mono (by assumption) (by first | omega | (simp; done) | (simp; omega)))))⟩
                  injection h with _ h
                  exact absurd h HE.out
              · have hlti : ¬ (k : Int) < (l1.length : Int) := by omega
                have HE1 : Hid (l1 = l2) := by
                  have h := HT.out
                  have hl := HL.out
                  rwa [List.take_of_length_le (by omega), List.take_of_length_le (by omega)] at h
                go_wp2
                clear s0 s1 s2 s3 s4 t0 t1 t2 t3 t4
                go_loopw [7] (fun i wr => ∃ k : Nat, k ≤ m1.length ∧ i = .int .i64 k ∧ m1.take k = m2.take k ∧ Below Z.heap.size Z wr) (fun i _ => m1.length - (intOf i).toNat)
                case atStart => exact ⟨0, Nat.zero_le _, rfl, rfl, HBL.out⟩
                case round =>
                  rename_i wq
                  clear WK
                  obtain ⟨k, hk, rfl, hall, hbl⟩ := hrel
                  have HT := Lib.hid hall
                  have HBL := Lib.hid hbl
                  obtain ⟨e0, e1, e2⟩ := HBX.out _ hbl
                  have WK := Lib.hid e2
                  obtain ⟨s0, s1, s2, s3, s4⟩ := five_of e0
                  obtain ⟨t0, t1, t2, t3, t4⟩ := five_of e1
                  clear hall hbl e0 e1 e2
                  by_cases hlt : k < m1.length
                  · have hlti : (k : Int) < (m1.length : Int) := by omega
                    have hlt2 : k < m2.length := by have := HM.out; omega
                    obtain ⟨b1, o1, v1, v2, v5, rfl, hR1, e1, e2, e5⟩ := HB.out.at3 hlt
                    obtain ⟨b2, o2, v3, v4, v6, rfl, hR2, e3, e4, e6⟩ := GB.out.at3 hlt2
                    obtain ⟨pi, ci, hR1, hri⟩ := hR1
                    obtain ⟨qi, di, hR2, hsi⟩ := hR2
                    simp only [List.cons.injEq, and_true] at hR1 hR2
                    obtain ⟨rfl, rfl, rfl⟩ := hR1
                    obtain ⟨rfl, rfl, rfl⟩ := hR2
                    have HRI := Lib.hid hri
                    have HSI := Lib.hid hsi
                    have hlx := H4.out m1[k] (List.getElem_mem hlt)
                    have d1 := cell_later WK.out e1
                    have d2 := cell_later WK.out e2
                    have d5 := cell_later WK.out e5
                    have d3 := cell_later WK.out e3
                    have d4 := cell_later WK.out e4
                    have d6 := cell_later WK.out e6
                    clear e1 e2 e3 e4 e5 e6 hri hsi
                    have hsk := str_eq m1[k].nm m2[k].nm
                    by_cases hc : m1[k].cols = m2[k].cols
                    · by_cases hn : bs m1[k].nm = bs m2[k].nm
                      · rw [decide_eq_true hn] at hsk
                        by_cases hu : m1[k].un = m2[k].un
                        · have HT2 : Hid (m1.take (k + 1) = m2.take (k + 1)) := by
                            show m1.take (k + 1) = m2.take (k + 1)
                            rw [List.take_succ_eq_append_getElem hlt, List.take_succ_eq_append_getElem hlt2, HT.out, ix_ext (bs_inj hn) hc hu]
                          have hcd := decide_eq_true hc
                          rw [← hu] at d6
                          clear hn hu hc
                          go_wp2
                          go_quiet (first | (go_at_call 70; exact Calls.quiet_of (v := .bool true) ((sameInts_any pi qi ci di m1[k].cols m2[k].cols _ (HRI.out.later (below_drewN WK.out _) fun _ _ h => h) (HSI.out.later (below_drewN WK.out _) fun _ _ h => h) hlx).mono (fun e w' h => ⟨h.1.trans (by rw [hcd]), h.2⟩))))
                          clear hcd
                          go_wp2
                          go_quiet (fail)
                          go_wp2
                          go_roundw
                          case rel => exact ⟨k + 1, by omega, by go_num, HT2.out, by have h0 := HBL.out; (repeat (first | exact Below.refl _ _ | assumption | refine Below.drew ?_ | refine below_drewN ?_ _ | refine Below.alloc ?_ (by first | omega | (simp; done) | (simp; omega)) _ | refine Below.setCell ?_ (by first | omega | (simp; done) | (simp; omega)) _ | refine Below.trans ?_ (Below.mono (by assumption) (by first | omega | (simp; done) | (simp; omega)))))⟩
                          case measure => simp [intOf]; omega
                        · have HE : Hid (¬ m1 = m2) := fun e => hu (by simp only [e])
                          have hcd := decide_eq_true hc
                          obtain ⟨x, hx1⟩ : ∃ x, m1[k].un = x := ⟨_, rfl⟩
                          obtain ⟨y, hy1⟩ : ∃ y, m2[k].un = y := ⟨_, rfl⟩
                          rw [hx1] at d5 hu
                          rw [hy1] at d6 hu
                          obtain rfl : y = !x := by
                            revert hu
                            cases x <;> cases y <;> simp
                          clear hn hc hu hx1 hy1
                          cases x
                          all_goals
                            go_wp2
                            go_quiet (first | (go_at_call 70; exact Calls.quiet_of (v := .bool true) ((sameInts_any pi qi ci di m1[k].cols m2[k].cols _ (HRI.out.later (below_drewN WK.out _) fun _ _ h => h) (HSI.out.later (below_drewN WK.out _) fun _ _ h => h) hlx).mono (fun e w' h => ⟨h.1.trans (by rw [hcd]), h.2⟩))))
                            clear hcd
                            go_wp2
                            go_quiet (fail)
                            go_wp2
                            refine bodyPost_ret (v := .bool false) (by simp [results, Tryz.results32, go_sem]) rfl ?_
                            refine ⟨false, rfl, ⟨fun h => by simp at h, fun h => ?_⟩, by have h0 := WK.out; (repeat (first | exact Below.refl _ _ | assumption | refine Below.drew ?_ | refine below_drewN ?_ _ | refine Below.alloc ?_ (by first | omega | (simp; done) | (simp; omega)) _ | refine Below.setCell ?_ (by first | omega | (simp; done) | (simp; omega)) _ | refine Below.trans ?_ (Below.mono (by assumption) (by first | omega | (simp; done) | (simp; omega)))))⟩
                            injection h with _ _ _ _ h
                            exact absurd h HE.out
                      · rw [decide_eq_false hn] at hsk
                        have HE : Hid (¬ m1 = m2) := fun e => hn (by simp only [e])
                        have hcd := decide_eq_true hc
                        clear hn hc
                        go_wp2
                        go_quiet (first | (go_at_call 70; exact Calls.quiet_of (v := .bool true) ((sameInts_any pi qi ci di m1[k].cols m2[k].cols _ (HRI.out.later (below_drewN WK.out _) fun _ _ h => h) (HSI.out.later (below_drewN WK.out _) fun _ _ h => h) hlx).mono (fun e w' h => ⟨h.1.trans (by rw [hcd]), h.2⟩))))
                        clear hcd
                        go_wp2
                        go_quiet (fail)
                        go_wp2
                        refine bodyPost_ret (v := .bool false) (by simp [results, Tryz.results32, go_sem]) rfl ?_
                        refine ⟨false, rfl, ⟨fun h => by simp at h, fun h => ?_⟩, by have h0 := WK.out; (repeat (first | exact Below.refl _ _ | assumption | refine Below.drew ?_ | refine below_drewN ?_ _ | refine Below.alloc ?_ (by first | omega | (simp; done) | (simp; omega)) _ | refine Below.setCell ?_ (by first | omega | (simp; done) | (simp; omega)) _ | refine Below.trans ?_ (Below.mono (by assumption) (by first | omega | (simp; done) | (simp; omega)))))⟩
                        injection h with _ _ _ _ h
                        exact absurd h HE.out
                    · have HE : Hid (¬ m1 = m2) := fun e => hc (by simp only [e])
                      have hcd := decide_eq_false hc
                      clear hc
                      go_wp2
                      go_quiet (first | (go_at_call 70; exact Calls.quiet_of (v := .bool false) ((sameInts_any pi qi ci di m1[k].cols m2[k].cols _ (HRI.out.later (below_drewN WK.out _) fun _ _ h => h) (HSI.out.later (below_drewN WK.out _) fun _ _ h => h) hlx).mono (fun e w' h => ⟨h.1.trans (by rw [hcd]), h.2⟩))))
                      clear hcd
                      go_wp2
                      go_quiet (fail)
                      go_wp2
                      refine bodyPost_ret (v := .bool false) (by simp [results, Tryz.results32, go_sem]) rfl ?_
                      refine ⟨false, rfl, ⟨fun h => by simp at h, fun h => ?_⟩, by have h0 := WK.out; (repeat (first | exact Below.refl _ _ | assumption | refine Below.drew ?_ | refine below_drewN ?_ _ | refine Below.alloc ?_ (by first | omega | (simp; done) | (simp; omega)) _ | refine Below.setCell ?_ (by first | omega | (simp; done) | (simp; omega)) _ | refine Below.trans ?_ (Below.mono (by assumption) (by first | omega | (simp; done) | (simp; omega)))))⟩
                      injection h with _ _ _ _ h
                      exact absurd h HE.out
                  · have hlti : ¬ (k : Int) < (m1.length : Int) := by omega
                    have HE2 : Hid (m1 = m2) := by
                      have h := HT.out
                      have hl := HM.out
                      rwa [List.take_of_length_le (by omega), List.take_of_length_le (by omega)] at h
                    go_wp2
                    refine bodyPost_ret (v := .bool true) (by simp [results, Tryz.results32, go_sem]) rfl ?_
                    exact ⟨true, rfl, ⟨fun _ => by rw [HE1.out, HE2.out], fun _ => rfl⟩, WK.out⟩
          · have hmi : ¬ (m1.length : Int) = (m2.length : Int) := by omega
            have hli : (l1.length : Int) = (l2.length : Int) := by omega
            have HE : Hid (¬ m1 = m2) := fun e => hm (by rw [e])
            clear hm hl
            go_wp2
            refine bodyPost_ret (v := .bool false) (by simp [results, Tryz.results32, go_sem]) rfl ?_
            refine ⟨false, rfl, ⟨fun h => by simp at h, fun h => ?_⟩, below_drewN WZ.out _⟩
            injection h with _ _ _ _ h
            exact absurd h HE.out
        · have hli : ¬ (l1.length : Int) = (l2.length : Int) := by omega
          have HE : Hid (¬ l1 = l2) := fun e => hl (by rw [e])
          clear hl
          go_wp2
          refine bodyPost_ret (v := .bool false) (by simp [results, Tryz.results32, go_sem]) rfl ?_
          refine ⟨false, rfl, ⟨fun h => by simp at h, fun h => ?_⟩, below_drewN WZ.out _⟩
          injection h with _ h
          exact absurd h HE.out
      · have HE : Hid (¬ x1 = x2) := hx
        go_wp2
        refine bodyPost_ret (v := .bool false) (by simp [results, Tryz.results32, go_sem]) rfl ?_
        refine ⟨false, rfl, ⟨fun h => by simp at h, fun h => ?_⟩, below_drewN WZ.out _⟩
        injection h with _ _ _ h
        exact absurd h HE.out
    · have HE : Hid (¬ n1 = n2) := fun e => hne (by rw [e])
      rw [decide_eq_false hne] at hse
      clear hne
      go_wp2
      refine bodyPost_ret (v := .bool false) (by simp [results, Tryz.results32, go_sem]) rfl ?_
      refine ⟨false, rfl, ⟨fun h => by simp at h, fun h => ?_⟩, below_drewN WZ.out _⟩
      injection h with h
      exact absurd h HE.out
  · have HE : Hid (¬ k1 = k2) := hke
    rw [decide_eq_false hke]
    clear hke
    go_wp2
    refine bodyPost_ret (v := .bool false) (by simp [results, Tryz.results32, go_sem]) rfl ?_
    refine ⟨false, rfl, ⟨fun h => by simp at h, fun h => ?_⟩, below_drewN WZ.out _⟩
    injection h with _ _ h
    exact absurd h HE.out
end Go.Proofs.YtkgkkcefnonejaaGreat
/- Walks of layer 8: the document's Same. -/
namespace Go.Proofs.YtkgkkcefnonejaaGreat
open Go.RowKit

set_option maxHeartbeats 16000000 in
set_option maxRecDepth 100000 in
theorem same_any (c d : Ct) (us vs : List Value) (w : World) (hp : CtR w c us) (hq : CtR w d vs) (hZ : CtZ 1099511627776 c) :
    Calls Tryz.prog 16 #[.agg us.toArray, .agg vs.toArray] w (SamP c d w) := by
  obtain ⟨l1, m1⟩ := c
  obtain ⟨l2, m2⟩ := d
  obtain ⟨pa, ca, pb, cb, rfl, ra, rb⟩ := hp
  obtain ⟨qa, da, qb, db, rfl, sa, sb⟩ := hq
  have HZ := Lib.hid hZ
  have z1 := hZ.tbs
  have z2 := hZ.prs
  simp only at z1 z2 ra rb sa sb
  have HA := Lib.hid ra
  have HB := Lib.hid rb
  have GA := Lib.hid sa
  have GB := Lib.hid sb
  clear ra rb sa sb hZ
  obtain ⟨Z, hZ⟩ : ∃ Z, (w.alloc (.cells #[.slice pa l1.length ca, .slice pb m1.length cb] 25)).alloc (.cells #[.slice qa l2.length da, .slice qb m2.length db] 25) = Z := ⟨_, rfl⟩
  have hZs : Z.heap.size = w.heap.size + 1 + 1 := by rw [← hZ]; simp
  have HBX : Hid (∀ W, Below Z.heap.size Z W → W.heap[w.heap.size]? = some (.cells #[.slice pa l1.length ca, .slice pb m1.length cb] 25 (0, 0)) ∧ W.heap[w.heap.size + 1]? = some (.cells #[.slice qa l2.length da, .slice qb m2.length db] 25 (0, 0)) ∧ Below w.heap.size w W) := by
    intro W h
    rw [hZs] at h
    rw [← hZ] at h
    refine ⟨(h.block _ (by omega)).trans (heap_of (heap_alloc_new w _) ((Below.refl _ _).alloc (Nat.le_refl _) _)), (h.block _ (by omega)).trans ?_, (((Below.refl _ _).alloc (Nat.le_refl _) _).alloc (by simp) _).trans (h.mono (by omega))⟩
    have := heap_alloc_new (w.alloc (.cells #[.slice pa l1.length ca, .slice pb m1.length cb] 25)) (.cells #[.slice qa l2.length da, .slice qb m2.length db] 25 (0, 0))
    simpa using this
  obtain ⟨e0, e1, e2⟩ := HBX.out Z (Below.refl _ _)
  have WZ := Lib.hid e2
  obtain ⟨s0, s1⟩ := two_cells e0
  obtain ⟨t0, t1⟩ := two_cells e1
  clear e0 e1 e2
  go_enter Tryz.func16, Tryz.ntmps16
  by_cases hl : l1.length = l2.length
  · by_cases hm : m1.length = m2.length
    · have HL := Lib.hid hl
      have HM := Lib.hid hm
      rw [← hl] at t0
      rw [← hm] at t1
      rw [← hl, ← hm] at HBX
      rw [← hl, ← hm] at hZ
      rw [← hl, ← hm]
      clear hl hm
      go_wp2
      clear s0 s1 t0 t1 hZ
      go_loopw [5] (fun i wr => ∃ k : Nat, k ≤ l1.length ∧ i = .int .i64 k ∧ l1.take k = l2.take k ∧ Below Z.heap.size Z wr) (fun i _ => l1.length - (intOf i).toNat)
      case atStart => exact ⟨0, Nat.zero_le _, rfl, rfl, Below.refl _ _⟩
      case round =>
        obtain ⟨k, hk, rfl, hall, hbl⟩ := hrel
        have HT := Lib.hid hall
        have HBL := Lib.hid hbl
        have hzz := hbl.size
        obtain ⟨e0, e1, e2⟩ := HBX.out _ hbl
        have WK := Lib.hid e2
        obtain ⟨s0, s1⟩ := two_cells e0
        obtain ⟨t0, t1⟩ := two_cells e1
        clear hall hbl e0 e1 e2
        by_cases hlt : k < l1.length
        · have hlti : (k : Int) < (l1.length : Int) := by omega
          have hlt2 : k < l2.length := by have := HL.out; omega
          obtain ⟨b1, o1, u0, u1, u2, u3, u4, rfl, hR1, g0, g1, g2, g3, g4⟩ := HA.out.at5 hlt
          obtain ⟨b2, o2, v0, v1, v2, v3, v4, rfl, hR2, f0, f1, f2, f3, f4⟩ := GA.out.at5 hlt2
          have HR1 : Hid (∀ W, Below w.heap.size w W → TbR W l1[k] [u0, u1, u2, u3, u4]) := fun W h => TbR.later h _ _ hR1
          have HR2 : Hid (∀ W, Below w.heap.size w W → TbR W l2[k] [v0, v1, v2, v3, v4]) := fun W h => TbR.later h _ _ hR2
          obtain ⟨ac, bc, ak, bk, ax, bx, hR1, -, -, -⟩ := hR1
          obtain ⟨cc, dc, ek, dk, cx, dx, hR2, -, -, -⟩ := hR2
          simp only [List.cons.injEq, and_true] at hR1 hR2
          obtain ⟨rfl, rfl, rfl, rfl, rfl⟩ := hR1
          obtain ⟨rfl, rfl, rfl, rfl, rfl⟩ := hR2
          have dg0 := cell_later WK.out g0
          have dg1 := cell_later WK.out g1
          have dg2 := cell_later WK.out g2
          have dg3 := cell_later WK.out g3
          have dg4 := cell_later WK.out g4
          have df0 := cell_later WK.out f0
          have df1 := cell_later WK.out f1
          have df2 := cell_later WK.out f2
          have df3 := cell_later WK.out f3
          have df4 := cell_later WK.out f4
          clear g0 g1 g2 g3 g4 f0 f1 f2 f3 f4
          have HQ := HZ.out.tb l1[k] (List.getElem_mem hlt)
          go_wp2
          go_region_law (go_simp; go_at_call 32; refine (sameTable_any l1[k] l2[k] _ _ _ (HR1.out _ (by have h0 := WK.out; (repeat (first | exact Below.refl _ _ | assumption | refine Below.drew ?_ | refine below_drewN ?_ _ | refine Below.alloc ?_ (by first | omega | (simp; done) | (simp; omega)) _ | refine Below.setCell ?_ (by first | omega | (simp; done) | (simp; omega)) _ | refine Below.trans ?_ (Below.mono (by assumption) (by first | omega | (simp; done) | (simp; omega))))))) (HR2.out _ (by have h0 := WK.out; (repeat (first | exact Below.refl _ _ | assumption | refine Below.drew ?_ | refine below_drewN ?_ _ | refine Below.alloc ?_ (by first | omega | (simp; done) | (simp; omega)) _ | refine Below.setCell ?_ (by first | omega | (simp; done) | (simp; omega)) _ | refine Below.trans ?_ (Below.mono (by assumption) (by first | omega | (simp; done) | (simp; omega))))))) HQ.cols HQ.key HQ.ixs (fun x hx => (HQ.ix x hx).2)).mono ?_; rintro e w2 ⟨b, rfl, hiff, hb2⟩; (have HI := Lib.hid hiff); (have B2 : Hid (Below Z.heap.size Z w2) := (by first | exact HBL.out.trans (hb2.mono hzz) | exact HBL.out.drew.trans (hb2.mono hzz))); clear hb2 hiff s0 s1 t0 t1 dg0 dg1 dg2 dg3 dg4 df0 df1 df2 df3 df4)
          all_goals
            obtain ⟨e0, e1, e2⟩ := HBX.out _ B2.out
            have W2 := Lib.hid e2
            obtain ⟨s0, s1⟩ := two_cells e0
            obtain ⟨t0, t1⟩ := two_cells e1
            clear e0 e1 e2
            cases b with
            | false =>
              have HE : Hid (¬ l1 = l2) := fun e => absurd (HI.out.2 (by simp only [e])) (by decide)
              go_wp2
              refine bodyPost_ret (v := .bool false) (by simp [results, Tryz.results16, go_sem]) rfl ?_
              refine ⟨false, rfl, ⟨fun h => by simp at h, fun h => ?_⟩, W2.out⟩
              injection h with h
              exact absurd h HE.out
            | true =>
              have HT2 : Hid (l1.take (k + 1) = l2.take (k + 1)) := by
                show l1.take (k + 1) = l2.take (k + 1)
                rw [List.take_succ_eq_append_getElem hlt, List.take_succ_eq_append_getElem hlt2, HT.out, HI.out.1 rfl]
              go_wp2
              go_roundw
              case rel => exact ⟨k + 1, by omega, by go_num, HT2.out, B2.out⟩
              case measure => simp [intOf]; omega
        · have hlti : ¬ (k : Int) < (l1.length : Int) := by omega
          have HEHL : Hid (l1 = l2) := by
            have h := HT.out
            have hl := HL.out
            rwa [List.take_of_length_le (by omega), List.take_of_length_le (by omega)] at h
          go_wp2
          clear s0 s1 t0 t1
          go_loopw [7] (fun i wr => ∃ k : Nat, k ≤ m1.length ∧ i = .int .i64 k ∧ m1.take k = m2.take k ∧ Below Z.heap.size Z wr) (fun i _ => m1.length - (intOf i).toNat)
          case atStart => exact ⟨0, Nat.zero_le _, rfl, rfl, HBL.out⟩
          case round =>
            clear WK HBL
            obtain ⟨k, hk, rfl, hall, hbl⟩ := hrel
            have HT := Lib.hid hall
            have HBL := Lib.hid hbl
            have hzz := hbl.size
            obtain ⟨e0, e1, e2⟩ := HBX.out _ hbl
            have WK := Lib.hid e2
            obtain ⟨s0, s1⟩ := two_cells e0
            obtain ⟨t0, t1⟩ := two_cells e1
            clear hall hbl e0 e1 e2
            by_cases hlt : k < m1.length
            · have hlti : (k : Int) < (m1.length : Int) := by omega
              have hlt2 : k < m2.length := by have := HM.out; omega
              obtain ⟨b1, o1, u0, u1, u2, u3, u4, rfl, hR1, g0, g1, g2, g3, g4⟩ := HB.out.at5 hlt
              obtain ⟨b2, o2, v0, v1, v2, v3, v4, rfl, hR2, f0, f1, f2, f3, f4⟩ := GB.out.at5 hlt2
              have HR1 : Hid (∀ W, Below w.heap.size w W → PcR W m1[k] [u0, u1, u2, u3, u4]) := fun W h => PcR.later h _ _ hR1
              have HR2 : Hid (∀ W, Below w.heap.size w W → PcR W m2[k] [v0, v1, v2, v3, v4]) := fun W h => PcR.later h _ _ hR2
              obtain ⟨ac, bc, ak, bk, hR1, -, -⟩ := hR1
              obtain ⟨cc, dc, ek, dk, hR2, -, -⟩ := hR2
              simp only [List.cons.injEq, and_true] at hR1 hR2
              obtain ⟨rfl, rfl, rfl, rfl, rfl⟩ := hR1
              obtain ⟨rfl, rfl, rfl, rfl, rfl⟩ := hR2
              have dg0 := cell_later WK.out g0
              have dg1 := cell_later WK.out g1
              have dg2 := cell_later WK.out g2
              have dg3 := cell_later WK.out g3
              have dg4 := cell_later WK.out g4
              have df0 := cell_later WK.out f0
              have df1 := cell_later WK.out f1
              have df2 := cell_later WK.out f2
              have df3 := cell_later WK.out f3
              have df4 := cell_later WK.out f4
              clear g0 g1 g2 g3 g4 f0 f1 f2 f3 f4
              have HQ := HZ.out.pc m1[k] (List.getElem_mem hlt)
              go_wp2
              go_region_law (go_simp; go_at_call 33; refine (sameProc_any m1[k] m2[k] _ _ _ (HR1.out _ (by have h0 := WK.out; (repeat (first | exact Below.refl _ _ | assumption | refine Below.drew ?_ | refine below_drewN ?_ _ | refine Below.alloc ?_ (by first | omega | (simp; done) | (simp; omega)) _ | refine Below.setCell ?_ (by first | omega | (simp; done) | (simp; omega)) _ | refine Below.trans ?_ (Below.mono (by assumption) (by first | omega | (simp; done) | (simp; omega))))))) (HR2.out _ (by have h0 := WK.out; (repeat (first | exact Below.refl _ _ | assumption | refine Below.drew ?_ | refine below_drewN ?_ _ | refine Below.alloc ?_ (by first | omega | (simp; done) | (simp; omega)) _ | refine Below.setCell ?_ (by first | omega | (simp; done) | (simp; omega)) _ | refine Below.trans ?_ (Below.mono (by assumption) (by first | omega | (simp; done) | (simp; omega))))))) HQ.prms HQ.body).mono ?_; rintro e w2 ⟨b, rfl, hiff, hb2⟩; (have HI := Lib.hid hiff); (have B2 : Hid (Below Z.heap.size Z w2) := (by first | exact HBL.out.trans (hb2.mono hzz) | exact HBL.out.drew.trans (hb2.mono hzz))); clear hb2 hiff s0 s1 t0 t1 dg0 dg1 dg2 dg3 dg4 df0 df1 df2 df3 df4)
              all_goals
                obtain ⟨e0, e1, e2⟩ := HBX.out _ B2.out
                have W2 := Lib.hid e2
                obtain ⟨s0, s1⟩ := two_cells e0
                obtain ⟨t0, t1⟩ := two_cells e1
                clear e0 e1 e2
                cases b with
                | false =>
                  have HE : Hid (¬ m1 = m2) := fun e => absurd (HI.out.2 (by simp only [e])) (by decide)
                  go_wp2
                  refine bodyPost_ret (v := .bool false) (by simp [results, Tryz.results16, go_sem]) rfl ?_
                  refine ⟨false, rfl, ⟨fun h => by simp at h, fun h => ?_⟩, W2.out⟩
                  injection h with _ h
                  exact absurd h HE.out
                | true =>
                  have HT2 : Hid (m1.take (k + 1) = m2.take (k + 1)) := by
                    show m1.take (k + 1) = m2.take (k + 1)
                    rw [List.take_succ_eq_append_getElem hlt, List.take_succ_eq_append_getElem hlt2, HT.out, HI.out.1 rfl]
                  go_wp2
                  go_roundw
                  case rel => exact ⟨k + 1, by omega, by go_num, HT2.out, B2.out⟩
                  case measure => simp [intOf]; omega
            · have hlti : ¬ (k : Int) < (m1.length : Int) := by omega
              have HEHM : Hid (m1 = m2) := by
                have h := HT.out
                have hl := HM.out
                rwa [List.take_of_length_le (by omega), List.take_of_length_le (by omega)] at h
              go_wp2
              refine bodyPost_ret (v := .bool true) (by simp [results, Tryz.results16, go_sem]) rfl ?_
              exact ⟨true, rfl, ⟨fun _ => by rw [HEHL.out, HEHM.out], fun _ => rfl⟩, WK.out⟩
    · have hmi : ¬ (m1.length : Int) = (m2.length : Int) := by omega
      have hli : (l1.length : Int) = (l2.length : Int) := by omega
      have HE : Hid (¬ m1 = m2) := fun e => hm (by rw [e])
      clear hm hl
      go_wp2
      refine bodyPost_ret (v := .bool false) (by simp [results, Tryz.results16, go_sem]) rfl ?_
      refine ⟨false, rfl, ⟨fun h => by simp at h, fun h => ?_⟩, WZ.out⟩
      injection h with _ h
      exact absurd h HE.out
  · have hli : ¬ (l1.length : Int) = (l2.length : Int) := by omega
    have HE : Hid (¬ l1 = l2) := fun e => hl (by rw [e])
    clear hl
    go_wp2
    refine bodyPost_ret (v := .bool false) (by simp [results, Tryz.results16, go_sem]) rfl ?_
    refine ⟨false, rfl, ⟨fun h => by simp at h, fun h => ?_⟩, WZ.out⟩
    injection h with h
    exact absurd h HE.out
end Go.Proofs.YtkgkkcefnonejaaGreat
/- Walks of layer 8: CatalogBack. -/
namespace Go.Proofs.YtkgkkcefnonejaaGreat
open Go.RowKit

theorem CtZ.mono {K K' : Nat} {c : Ct} (h : CtZ K c) (hK : K ≤ K') : CtZ K' c :=
  ⟨Nat.le_trans h.tbs hK, Nat.le_trans h.prs hK, fun t ht => ⟨Nat.le_trans (h.tb t ht).nm hK, Nat.le_trans (h.tb t ht).cols hK, Nat.le_trans (h.tb t ht).key hK, Nat.le_trans (h.tb t ht).ixs hK, fun x hx => Nat.le_trans ((h.tb t ht).col x hx) hK, fun x hx => ⟨Nat.le_trans ((h.tb t ht).ix x hx).1 hK, Nat.le_trans ((h.tb t ht).ix x hx).2 hK⟩⟩,
    fun p hp => ⟨Nat.le_trans (h.pc p hp).nm hK, Nat.le_trans (h.pc p hp).prms hK, Nat.le_trans (h.pc p hp).body hK, fun x hx => Nat.le_trans ((h.pc p hp).prm x hx) hK, fun x hx => Nat.le_trans ((h.pc p hp).src x hx) hK⟩⟩
theorem CtZ.fits {K : Nat} {c : Ct} (h : CtZ K c) (hK : K ≤ 1099511627776) : Fits c := fun t ht => Nat.le_trans (h.tb t ht).cols hK
theorem enc_le {c : Ct} (h : rightC c = true) : (encS c).size ≤ 2147483647 := by
  rw [encS_yes h]
  have := encC_len h
  show (encC c).toArray.size ≤ _
  simp
  omega
theorem enc_iff {c d : Ct} (hd : rightC d = true) (k : Int) (hk : DecIs (encS c) c k) : bs (encS c) = bs (encS d) ↔ c = d := by
  refine ⟨fun e => ?_, fun e => by rw [e]⟩
  rw [bs_inj e] at hk
  exact (dec_enc hd hk).1

set_option maxHeartbeats 32000000 in
set_option maxRecDepth 100000 in
theorem catalogBack_law (c : Ct) (us : List Value) (d : Ct) (vs : List Value) (w : World) (hR : CtR w c us) (hZ1 : CtZ 140737488355328 c) (hR' : CtR w d vs) (hZ2 : CtZ 140737488355328 d) :
    Calls Tryz.prog 7 #[.agg us.toArray, .agg vs.toArray] w fun e w' => e = .returned (.bool true) ∧ Below w.heap.size w w' := by
  have HC : Hid (∀ W, Below w.heap.size w W → CtR W c us) := fun W h => CtR.later h c us hR
  have HD : Hid (∀ W, Below w.heap.size w W → CtR W d vs) := fun W h => CtR.later h d vs hR'
  obtain ⟨pa, ca, pb, cb, rfl, -, -⟩ := hR
  obtain ⟨qa, da, qb, db, rfl, -, -⟩ := hR'
  have HY1 := Lib.hid hZ1
  have HY2 := Lib.hid hZ2
  clear hZ1 hZ2
  obtain ⟨Z, hZ⟩ : ∃ Z, (w.alloc (.cells #[.slice pa c.tbs.length ca, .slice pb c.prs.length cb] 25)).alloc (.cells #[.slice qa d.tbs.length da, .slice qb d.prs.length db] 25) = Z := ⟨_, rfl⟩
  have hZs : Z.heap.size = w.heap.size + 1 + 1 := by rw [← hZ]; simp
  have HBX : Hid (∀ W, Below Z.heap.size Z W → W.heap[w.heap.size]? = some (.cells #[.slice pa c.tbs.length ca, .slice pb c.prs.length cb] 25 (0, 0)) ∧ W.heap[w.heap.size + 1]? = some (.cells #[.slice qa d.tbs.length da, .slice qb d.prs.length db] 25 (0, 0)) ∧ Below w.heap.size w W) := by
    intro W h
    rw [hZs] at h
    rw [← hZ] at h
    refine ⟨(h.block _ (by omega)).trans (heap_of (heap_alloc_new w _) ((Below.refl _ _).alloc (Nat.le_refl _) _)), (h.block _ (by omega)).trans ?_, (((Below.refl _ _).alloc (Nat.le_refl _) _).alloc (by simp) _).trans (h.mono (by omega))⟩
    have := heap_alloc_new (w.alloc (.cells #[.slice pa c.tbs.length ca, .slice pb c.prs.length cb] 25)) (.cells #[.slice qa d.tbs.length da, .slice qb d.prs.length db] 25 (0, 0))
    simpa using this
  obtain ⟨e0, e1, e2⟩ := HBX.out Z (Below.refl _ _)
  have W0 := Lib.hid e2
  have B0 : Hid (Below Z.heap.size Z Z) := Below.refl _ _
  obtain ⟨s0, s1⟩ := two_cells e0
  obtain ⟨t0, t1⟩ := two_cells e1
  clear e0 e1 e2
  go_enter Tryz.func7, Tryz.ntmps7
  go_wp2_with fail
  refine (weighs_any c _ Z (HC.out _ W0.out) HY1.out).mono ?_
  rintro e w1 ⟨N, rfl, hN, hb⟩
  have B1 := Lib.hid (B0.out.trans (hb.mono B0.out.size))
  have HN := Lib.hid hN
  clear hN hZ
  clear hb s0 s1 t0 t1
  obtain ⟨e0, e1, e2⟩ := HBX.out w1 B1.out
  have W1 := Lib.hid e2
  obtain ⟨s0, s1⟩ := two_cells e0
  obtain ⟨t0, t1⟩ := two_cells e1
  have z1 := B1.out.size
  clear e0 e1 e2
  go_wp2_with fail
  refine (weighs_any d _ _ (HD.out _ W1.out) HY2.out).mono ?_
  rintro e w2 ⟨M, rfl, hM, hb⟩
  have B2 := Lib.hid (B1.out.trans (hb.mono B1.out.size))
  have HM := Lib.hid hM
  clear hM
  clear hb s0 s1 t0 t1
  obtain ⟨e0, e1, e2⟩ := HBX.out w2 B2.out
  have W2 := Lib.hid e2
  obtain ⟨s0, s1⟩ := two_cells e0
  obtain ⟨t0, t1⟩ := two_cells e1
  have z2 := B2.out.size
  clear e0 e1 e2
  by_cases hNb : N ≤ 2147483647
  · have hNi : ¬ (2147483647 : Int) < (N : Int) := by omega
    by_cases hMb : M ≤ 2147483647
    · have hMi : ¬ (2147483647 : Int) < (M : Int) := by omega
      have HS1 := Lib.hid (HN.out hNb)
      have HS2 := Lib.hid (HM.out hMb)
      go_wp2_with fail
      refine (awake8_any rtext_any _).mono ?_
      rintro e w3 ⟨rfl, hb⟩
      have B3 := Lib.hid (B2.out.trans (hb.mono B2.out.size))
      clear hb s0 s1 t0 t1
      obtain ⟨e0, e1, e2⟩ := HBX.out w3 B3.out
      have W3 := Lib.hid e2
      obtain ⟨s0, s1⟩ := two_cells e0
      obtain ⟨t0, t1⟩ := two_cells e1
      have z3 := B3.out.size
      clear e0 e1 e2
      go_wp2_with fail
      refine (dRight_any c _ _ (HC.out _ W3.out)).mono ?_
      rintro e w4 ⟨rfl, hb⟩
      have B4 := Lib.hid (B3.out.trans (hb.mono B3.out.size))
      clear hb s0 s1 t0 t1
      obtain ⟨e0, e1, e2⟩ := HBX.out w4 B4.out
      have W4 := Lib.hid e2
      obtain ⟨s0, s1⟩ := two_cells e0
      obtain ⟨t0, t1⟩ := two_cells e1
      have z4 := B4.out.size
      clear e0 e1 e2
      go_wp2_with fail
      refine (dRight_any d _ _ (HD.out _ W4.out)).mono ?_
      rintro e w5 ⟨rfl, hb⟩
      have B5 := Lib.hid (B4.out.trans (hb.mono B4.out.size))
      clear hb s0 s1 t0 t1
      obtain ⟨e0, e1, e2⟩ := HBX.out w5 B5.out
      have W5 := Lib.hid e2
      obtain ⟨s0, s1⟩ := two_cells e0
      obtain ⟨t0, t1⟩ := two_cells e1
      have z5 := B5.out.size
      clear e0 e1 e2
      go_wp2_with fail
      refine (encode_any c _ _ (HC.out _ W5.out) (HS1.out.fits (by omega))).mono ?_
      rintro e w6 ⟨rfl, hb⟩
      have B6 := Lib.hid (B5.out.trans (hb.mono B5.out.size))
      clear hb s0 s1 t0 t1
      obtain ⟨e0, e1, e2⟩ := HBX.out w6 B6.out
      have W6 := Lib.hid e2
      obtain ⟨s0, s1⟩ := two_cells e0
      obtain ⟨t0, t1⟩ := two_cells e1
      have z6 := B6.out.size
      clear e0 e1 e2
      go_wp2_with fail
      refine (encode_any d _ _ (HD.out _ W6.out) (HS2.out.fits (by omega))).mono ?_
      rintro e w7 ⟨rfl, hb⟩
      have B7 := Lib.hid (B6.out.trans (hb.mono B6.out.size))
      clear hb s0 s1 t0 t1
      obtain ⟨e0, e1, e2⟩ := HBX.out w7 B7.out
      have W7 := Lib.hid e2
      obtain ⟨s0, s1⟩ := two_cells e0
      obtain ⟨t0, t1⟩ := two_cells e1
      have z7 := B7.out.size
      clear e0 e1 e2
      cases hc : rightC c with
      | false =>
        rw [encE_no hc]
        cases hd : rightC d with
        | false =>
          rw [encE_no hd]
          go_wp2
          go_ret
          exact ⟨rfl, W7.out⟩
        | true =>
          rw [encE_yes hd]
          go_wp2
          go_ret
          exact ⟨rfl, W7.out⟩
      | true =>
        rw [encE_yes hc]
        cases hd : rightC d with
        | false =>
          rw [encE_no hd]
          go_wp2
          go_ret
          exact ⟨rfl, W7.out⟩
        | true =>
          rw [encE_yes hd]
          have HRC := Lib.hid hc
          have HRD := Lib.hid hd
          have hEs : (encS c).size ≤ 2147483647 := enc_le hc
          have hse := str_eq (encS c) (encS d)
          go_wp2_with fail
          refine (decode_any rtext_any (encS c) _ hEs).mono ?_
          rintro e w8 ⟨c8, rs8, k8, rfl, hO8, hd8, hb8⟩
          obtain ⟨rfl, rfl⟩ := dec_enc HRC.out hd8
          have HEQ := Lib.hid (enc_iff HRD.out 0 hd8)
          have B8 := Lib.hid (B7.out.trans (hb8.mono B7.out.size))
          have HO8 := Lib.hid hO8
          obtain ⟨vt8, vp8, rfl, o1, o2⟩ := hO8
          obtain ⟨p8, m8, rfl, -⟩ := o1.form
          obtain ⟨q8, n8, rfl, -⟩ := o2.form
          have HR8 : Hid (∀ W, Below w8.heap.size w8 W → CtR W c8 [.slice p8 c8.tbs.length m8, .slice q8 c8.prs.length n8]) := fun W h => CtR.later h _ _ (CtO.reads _ _ HO8.out)
          clear o1 o2 hd8 hb8 hc hd hEs s0 s1 t0 t1
          obtain ⟨e0, e1, e2⟩ := HBX.out w8 B8.out
          obtain ⟨s0, s1⟩ := two_cells e0
          obtain ⟨t0, t1⟩ := two_cells e1
          have z8 := B8.out.size
          have y0 : w.heap.size < w8.heap.size := by omega
          have y1 : w.heap.size + 1 < w8.heap.size := by omega
          clear e0 e1 e2
          go_wp2_with fail
          generalize hW9 : w8.alloc (.cells #[.slice p8 c8.tbs.length m8, .slice q8 c8.prs.length n8] 25) = W9
          have hb9 : Below w8.heap.size w8 W9 := by
            rw [← hW9]
            (repeat (first | exact Below.refl _ _ | assumption | refine Below.drew ?_ | refine below_drewN ?_ _ | refine Below.alloc ?_ (by first | omega | (simp; done) | (simp; omega)) _ | refine Below.setCell ?_ (by first | omega | (simp; done) | (simp; omega)) _ | refine Below.trans ?_ (Below.mono (by assumption) (by first | omega | (simp; done) | (simp; omega)))))
          have B9 := Lib.hid (B8.out.trans (hb9.mono B8.out.size))
          have HQ9 := Lib.hid hb9
          clear hW9 hb9 s0 s1 t0 t1
          obtain ⟨e0, e1, e2⟩ := HBX.out W9 B9.out
          have W9' := Lib.hid e2
          obtain ⟨s0, s1⟩ := two_cells e0
          obtain ⟨t0, t1⟩ := two_cells e1
          clear e0 e1 e2
          refine (same_any c8 c8 _ _ W9 (HR8.out _ HQ9.out) (HC.out _ W9'.out) (HS1.out.mono (by omega))).mono ?_
          rintro e w10 ⟨b, rfl, hiff, hb10⟩
          obtain rfl : b = true := hiff.2 rfl
          have B10 := Lib.hid (B9.out.trans (hb10.mono B9.out.size))
          clear hiff hb10 s0 s1 t0 t1
          obtain ⟨e0, e1, e2⟩ := HBX.out w10 B10.out
          have W10 := Lib.hid e2
          obtain ⟨s0, s1⟩ := two_cells e0
          obtain ⟨t0, t1⟩ := two_cells e1
          clear e0 e1 e2
          go_wp2_with fail
          refine (same_any c8 d _ _ w10 (HC.out _ W10.out) (HD.out _ W10.out) (HS1.out.mono (by omega))).mono ?_
          rintro e w11 ⟨b, rfl, hiff, hb11⟩
          have hsb : decide (bs (encS c8) = bs (encS d)) = b := by
            cases b
            · exact decide_eq_false fun e => absurd (hiff.2 (HEQ.out.1 e)) (by decide)
            · exact decide_eq_true (HEQ.out.2 (hiff.1 rfl))
          have WX := Lib.hid (below_two W10.out hb11)
          rw [hsb] at hse
          clear hsb hiff hb11
          go_wp2
          go_ret
          exact ⟨ret_bool (by simp), WX.out⟩
    · have hMi : (2147483647 : Int) < (M : Int) := by omega
      go_wp2
      go_ret
      exact ⟨rfl, W2.out⟩
  · have hNi : (2147483647 : Int) < (N : Int) := by omega
    go_wp2
    go_ret
    exact ⟨rfl, W2.out⟩
end Go.Proofs.YtkgkkcefnonejaaGreat
