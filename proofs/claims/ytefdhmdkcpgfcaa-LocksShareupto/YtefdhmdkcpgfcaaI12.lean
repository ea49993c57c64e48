/- Walks of layer 19: the law's same; scripts; weighs. -/
import Derived.Test.YtefdhmdkcpgfcaaI10
namespace Go.Proofs.Ytefdhmdkcpgfcaa
open Go.RowKit
set_option maxHeartbeats 8000000 in
set_option maxRecDepth 100000 in
theorem same19_any (pa pb : Option Addr) (ca cb : Nat) (la lb : List Lk) (w : World) (ra : RowR 4 LkR w pa la) (rb : RowR 4 LkR w pb lb) (ha : la.length ≤ 1099511627776) :
    Calls Try.prog 32 #[.slice pa la.length ca, .slice pb lb.length cb] w fun e w' => e = .returned (.bool (decide (la = lb))) ∧ ∃ n, w' = w.drewN n := by
  have HA := Lib.hid ra
  have HB := Lib.hid rb
  clear ra rb
  go_enter Try.func32, Try.ntmps32
  by_cases hl : la.length = lb.length
  · have hli : (la.length : Int) = (lb.length : Int) := by omega
    go_wp2
    go_loopw [5] (fun i wr => ∃ k : Nat, k ≤ la.length ∧ i = .int .i64 k ∧ la.take k = lb.take k ∧ ∃ n, wr = w.drewN n) (fun i _ => la.length - (intOf i).toNat)
    case atStart => exact ⟨0, Nat.zero_le _, rfl, rfl, 0, rfl⟩
    case round =>
      obtain ⟨k, hk, rfl, hall, hbl⟩ := hrel
      have HT := Lib.hid hall
      have QW := Lib.hid hbl
      have HBL := Lib.hid (quiet_below hbl)
      clear hall hbl
      by_cases hlt : k < la.length
      · have hlti : (k : Int) < (la.length : Int) := by omega
        have hlt2 : k < lb.length := by omega
        have hlti2 : (k : Int) < (lb.length : Int) := by omega
        have h1 := lock_at HA.out hlt
        have h2 := lock_at HB.out hlt2
        obtain ⟨x, hx⟩ : ∃ x, la[k] = x := ⟨_, rfl⟩
        obtain ⟨y, hy⟩ : ∃ y, lb[k] = y := ⟨_, rfl⟩
        rw [hx] at h1
        rw [hy] at h2
        obtain ⟨b1, o1, rfl, a0, a1, a2, a3⟩ := h1
        obtain ⟨b2, o2, rfl, c0, c1, c2, c3⟩ := h2
        have p0 := cell_later HBL.out a0
        have p1 := cell_later HBL.out a1
        have p2 := cell_later HBL.out a2
        have p3 := cell_later HBL.out a3
        have q0 := cell_later HBL.out c0
        have q1 := cell_later HBL.out c1
        have q2 := cell_later HBL.out c2
        have q3 := cell_later HBL.out c3
        have HXY : Hid (la[k] = x ∧ lb[k] = y) := Lib.hid ⟨hx, hy⟩
        clear a0 a1 a2 a3 c0 c1 c2 c3 hx hy
        have hnq := fun W => neq_lock x y W
        have hgp := guard_lock
        simp only [lkC] at hnq
        by_cases he : x = y
        · have HT2 : Hid (la.take (k + 1) = lb.take (k + 1)) := Lib.hid (by
            rw [List.take_succ_eq_append_getElem hlt, List.take_succ_eq_append_getElem hlt2, HT.out, HXY.out.1, HXY.out.2, he])
          rw [decide_eq_true he] at hnq
          simp only [Bool.not_true] at hnq
          clear he
          go_wp2
          go_quiet (fail)
          go_wp2
          go_roundw
          case rel => exact ⟨k + 1, by omega, by go_num, HT2.out, quiet_more QW.out _⟩
          case measure => simp [intOf]; omega
        · have HE : Hid (¬ la = lb) := Lib.hid fun e => he (by rw [← HXY.out.1, ← HXY.out.2]; simp only [e])
          rw [decide_eq_false he] at hnq
          simp only [Bool.not_false] at hnq
          clear he
          go_wp2
          go_quiet (fail)
          go_wp2
          go_ret
          exact ⟨congrArg (fun b => Ending.returned (.bool b)) (decide_eq_false HE.out).symm, quiet_more QW.out _⟩
      · have hlti : ¬ (k : Int) < (la.length : Int) := by omega
        have HE : Hid (la = lb) := Lib.hid (by
          have h := HT.out
          rwa [List.take_of_length_le (by omega), List.take_of_length_le (by omega)] at h)
        go_wp2
        go_ret
        exact ⟨congrArg (fun b => Ending.returned (.bool b)) (decide_eq_true HE.out).symm, QW.out⟩
  · have hli : ¬ (la.length : Int) = (lb.length : Int) := by omega
    have HE : Hid (¬ la = lb) := Lib.hid fun e => hl (by rw [e])
    go_wp2
    go_ret
    exact ⟨congrArg (fun b => Ending.returned (.bool b)) (decide_eq_false HE.out).symm, 0, rfl⟩
/-- One of a script. -/
structure Op9 where
  what : Int
  pos : Int
  ls : List Lk
/-- Lengths and sizes as a memory may hold them. -/
def fitL (l : List Lk) : Prop := l.length ≤ 140737488351232 ∧ ∀ x ∈ l, x.lo.size ≤ 140737488351232 ∧ x.hi.size ≤ 140737488351232
def Op9R (w : World) (x : Op9) (vs : List Value) : Prop := ∃ p cap, vs = [.int .i64 x.what, .int .i64 x.pos, .slice p x.ls.length cap] ∧ RowR 4 LkR w p x.ls ∧ fitL x.ls ∧ (-9223372036854775808 ≤ x.pos ∧ x.pos ≤ 9223372036854775807)
theorem op_at {w : World} {a : Option Addr} {l : List Op9} (h : RowR 3 (Op9R w) w a l) {i : Nat} (hi : i < l.length) : ∃ b off p cap, a = some ⟨b, off, none⟩ ∧ w.cell? ⟨b, off + i * 3, none⟩ = some (.int .i64 l[i].what) ∧ w.cell? ⟨b, off + i * 3 + 1, none⟩ = some (.int .i64 l[i].pos) ∧ w.cell? ⟨b, off + i * 3 + 2, none⟩ = some (.slice p l[i].ls.length cap) ∧ RowR 4 LkR w p l[i].ls ∧ fitL l[i].ls ∧ (-9223372036854775808 ≤ l[i].pos ∧ l[i].pos ≤ 9223372036854775807) := by
  obtain ⟨b, off, v0, v1, v2, e, ⟨p, cap, hv, hr, hf, hp⟩, c0, c1, c2⟩ := h.at3 hi
  simp only [List.cons.injEq, and_true] at hv
  obtain ⟨rfl, rfl, rfl⟩ := hv
  exact ⟨b, off, p, cap, e, c0, c1, c2, hr, hf, hp⟩
/-- How much some locks weigh. -/
def wgL (l : List Lk) : Nat := (l.map fun x => x.lo.size + x.hi.size).sum
/-- How much a script weighs. -/
def wgS (s : List Op9) : Nat := s.length + (s.map fun x => x.ls.length + wgL x.ls).sum
theorem sum_take1 {α : Type} (f : α → Nat) (l : List α) (k : Nat) (h : k < l.length) : ((l.take (k + 1)).map f).sum = ((l.take k).map f).sum + f l[k] := by
  rw [List.take_succ_eq_append_getElem h, List.map_append, List.sum_append]
  simp
theorem sum_take_le {α : Type} (f : α → Nat) (l : List α) (k : Nat) : ((l.take k).map f).sum ≤ (l.map f).sum := by
  conv => rhs; rw [← List.take_append_drop k l, List.map_append, List.sum_append]
  exact Nat.le_add_right _ _

set_option maxHeartbeats 8000000 in
set_option maxRecDepth 100000 in
theorem weighs19_any (p : Option Addr) (cap : Nat) (s : List Op9) (w : World) (hr : RowR 3 (Op9R w) w p s) (hl : s.length ≤ 140737488351232) :
    Calls Try.prog 12 #[.slice p s.length cap] w fun e w' => ∃ m : Nat, e = .returned (.int .i64 (m : Int)) ∧ (m ≤ 2147483647 → wgS s ≤ 2147483647) ∧ ∃ n, w' = w.drewN n := by
  have HR := Lib.hid hr
  clear hr
  go_enter Try.func12, Try.ntmps12
  go_wp2
  go_loopw [3, 4, 5] (fun z i _ wr => ∃ k m : Nat, k ≤ s.length ∧ i = .int .i64 k ∧ z = .int .i64 (m : Int) ∧ m ≤ 9007199254740992 ∧ (m ≤ 2147483647 → m = s.length + ((s.take k).map fun x => x.ls.length + wgL x.ls).sum) ∧ ∃ n, wr = w.drewN n) (fun _ i _ _ => s.length - (intOf i).toNat)
  case atStart => exact ⟨0, s.length, Nat.zero_le _, rfl, rfl, by omega, fun _ => by simp, 0, rfl⟩
  case round =>
    obtain ⟨k, m, hk, rfl, rfl, hm, hall, hbl⟩ := hrel
    have HM := Lib.hid hall
    have QW := Lib.hid hbl
    have HBL := Lib.hid (quiet_below hbl)
    clear hall hbl
    by_cases hlt : k < s.length
    · have hlti : (k : Int) < (s.length : Int) := by omega
      by_cases hmb : m ≤ 2147483647
      · have hmi : (m : Int) ≤ 2147483647 := by omega
        have h1 := op_at HR.out hlt
        obtain ⟨x, hx⟩ : ∃ x, s[k] = x := ⟨_, rfl⟩
        rw [hx] at h1
        obtain ⟨b, o, p1, cp1, rfl, _, _, c2, hr1, hf, _⟩ := h1
        have HX := Lib.hid hx
        have HF := Lib.hid hf
        have HR1 := Lib.hid hr1
        have C2 := Lib.hid c2
        have hfl := hf.1
        have e2 := cell_later HBL.out c2
        clear c2 hr1 hf hx
        go_wp2
        go_loopw [3, 5] (fun z i wr => ∃ j m : Nat, j ≤ x.ls.length ∧ i = .int .i64 j ∧ z = .int .i64 (m : Int) ∧ m ≤ 9007199254740992 ∧ (m ≤ 2147483647 → m = s.length + ((s.take k).map fun x => x.ls.length + wgL x.ls).sum + x.ls.length + ((x.ls.take j).map fun x => x.lo.size + x.hi.size).sum) ∧ ∃ n, wr = w.drewN n) (fun _ i _ => x.ls.length - (intOf i).toNat)
        case atStart => exact ⟨0, m + x.ls.length, Nat.zero_le _, rfl, by go_num, by omega, fun _ => by rw [← HM.out hmb]; simp, QW.out⟩
        case round =>
          obtain ⟨j, m', hj, rfl, rfl, hm', hall, hbl⟩ := hrel
          have HM' := Lib.hid hall
          have QW' := Lib.hid hbl
          have HBL' := Lib.hid (quiet_below hbl)
          have e2 := cell_later HBL'.out C2.out
          clear hall hbl
          by_cases hlj : j < x.ls.length
          · have hlji : (j : Int) < (x.ls.length : Int) := by omega
            by_cases hmb' : m' ≤ 2147483647
            · have hmi' : (m' : Int) ≤ 2147483647 := by omega
              have h3 := lock_at HR1.out hlj
              have hz := HF.out.2 _ (List.getElem_mem hlj)
              obtain ⟨y, hy⟩ : ∃ y, x.ls[j] = y := ⟨_, rfl⟩
              rw [hy] at h3 hz
              obtain ⟨b1, o1, rfl, a0, a1, a2, a3⟩ := h3
              have p1 := cell_later HBL'.out a1
              have p2 := cell_later HBL'.out a2
              have HY := Lib.hid hy
              obtain ⟨D, hD⟩ : ∃ D, y.lo = D := ⟨_, rfl⟩
              obtain ⟨E, hE⟩ : ∃ E, y.hi = E := ⟨_, rfl⟩
              rw [hD] at p1
              rw [hE] at p2
              rw [hD, hE] at hz
              have hz1 := hz.1
              have hz2 := hz.2
              have HDE : Hid (y.lo.size + y.hi.size = D.size + E.size) := Lib.hid (by rw [hD, hE])
              clear a0 a1 a2 a3 hy hz hD hE
              go_wp2
              go_quiet (fail)
              go_wp2
              go_roundw
              case rel =>
                refine ⟨j + 1, m' + D.size + E.size, by omega, by go_num, by go_num, by omega, fun h => ?_, quiet_more QW'.out _⟩
                rw [sum_take1 _ _ _ hlj, HY.out, HDE.out]
                have := HM'.out hmb'
                omega
              case measure => simp [intOf]; omega
            · have hmi' : ¬ (m' : Int) ≤ 2147483647 := by omega
              go_wp2
              go_roundw
              case rel => exact ⟨k + 1, m', by omega, by go_num, rfl, hm', fun h => absurd h hmb', QW'.out⟩
              case measure => simp [intOf]; omega
          · have hlji : ¬ (j : Int) < (x.ls.length : Int) := by omega
            go_wp2
            go_roundw
            case rel =>
              refine ⟨k + 1, m', by omega, by go_num, rfl, hm', fun h => ?_, QW'.out⟩
              rw [sum_take1 _ _ _ hlt, HX.out]
              have h9 := HM'.out h
              rw [List.take_of_length_le (Nat.not_lt.1 hlj)] at h9
              have hw : wgL x.ls = (x.ls.map fun x => x.lo.size + x.hi.size).sum := rfl
              omega
            case measure => simp [intOf]; omega
      · have hmi : ¬ (m : Int) ≤ 2147483647 := by omega
        go_wp2
        go_ret
        exact ⟨m, rfl, fun h => absurd h hmb, QW.out⟩
    · have hlti : ¬ (k : Int) < (s.length : Int) := by omega
      go_wp2
      go_ret
      refine ⟨m, rfl, fun h => ?_, QW.out⟩
      have h9 := HM.out h
      rw [List.take_of_length_le (Nat.not_lt.1 hlt)] at h9
      unfold wgS
      omega
end Go.Proofs.Ytefdhmdkcpgfcaa
