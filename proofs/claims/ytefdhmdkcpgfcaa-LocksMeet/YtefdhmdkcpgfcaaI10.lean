/- Walks of layer 19: what is asked of the program's locks; the law's ints, same, has. -/
import Derived.Test.YtefdhmdkcpgfcaaI9
namespace Go.Proofs.Ytefdhmdkcpgfcaa
open Go.RowKit
/-- Of a table not too much. -/
structure Sz9 (T : Tb9) : Prop where
  ps : T.ps.length ≤ 2147483647
  last : -1 ≤ T.last ∧ T.last ≤ 9223372036854775807
  pos : ∀ p ∈ T.ps, 0 ≤ p.pos ∧ p.pos ≤ T.last
  ls : ∀ p ∈ T.ps, p.ls.length ≤ 2147483647
  size : ∀ p ∈ T.ps, ∀ x ∈ p.ls, x.lo.size ≤ 2147483647 ∧ x.hi.size ≤ 2147483647
  rise : ∀ i j (hi : i < T.ps.length) (hj : j < T.ps.length), i < j → T.ps[i].pos < T.ps[j].pos
theorem Sz9.sm {T : Tb9} (h : Sz9 T) : Sm9 T := ⟨by have := h.ps; omega, fun p hp => by have := h.ls p hp; omega⟩
/-- Of some locks not too much. -/
structure Sl9 (l : List Lk) : Prop where
  len : l.length ≤ 2147483647
  size : ∀ x ∈ l, x.lo.size ≤ 2147483647 ∧ x.hi.size ≤ 2147483647
abbrev Tm9 := World → Nat → (Nat → Prop) → Nat → Tb9 → Prop
/-- What is told by one who may turn a table. -/
def PP9 (PT : Tm9) (w : World) (B : Nat) (Z : Nat → Prop) (t : Nat) (T' : Tb9) (w' : World) : Prop := Only Z w w' ∧ ∃ Z', PT w' B Z' t T' ∧ ∀ k, Z' k → Z k ∨ (w.heap.size ≤ k ∧ k < w'.heap.size)
/-- What is told by one who tells some numbers. -/
def IV9 (w : World) (l : List Int) (v : Value) (w' : World) : Prop := OwnR 1 3 IntR w' w.heap.size v l ∧ Below w.heap.size w w'
/-- What is asked of the program's locks, whatever its tables are in memory. -/
structure LocksIs (PT : Tm9) : Prop where
  kept : ∀ {w w' : World} {B : Nat} {Z : Nat → Prop} {t : Nat} {T : Tb9}, PT w B Z t T → ∀ {Y : Nat → Prop}, Only Y w w' → (∀ k, Z k → ¬ Y k) → PT w' B Z t T
  lies : ∀ {w : World} {B : Nat} {Z : Nat → Prop} {t : Nat} {T : Tb9}, PT w B Z t T → ∀ k, Z k → B ≤ k ∧ k < w.heap.size
  right : ∀ (l : Lk) (w : World), l.lo.size ≤ 2147483647 → l.hi.size ≤ 2147483647 → Calls Try.prog 8 #[.agg (lkC l).toArray] w fun e w' => e = .returned (.bool (lkR l)) ∧ Below w.heap.size w w'
  conflict : ∀ (a b : Lk) (w : World), a.lo.size ≤ 2147483647 → a.hi.size ≤ 2147483647 → b.lo.size ≤ 2147483647 → b.hi.size ≤ 2147483647 → Calls Try.prog 10 #[.agg (lkC a).toArray, .agg (lkC b).toArray] w fun e w' => e = .returned (.bool (lkM a b)) ∧ Below w.heap.size w w'
  new : ∀ w : World, Calls Try.prog 13 #[] w fun e w' => ∃ t, e = .returned (.pointer (some ⟨t, 0, none⟩)) ∧ PT w' w.heap.size (fun k => w.heap.size ≤ k ∧ k < w'.heap.size) t t90 ∧ Below w.heap.size w w'
  ask : ∀ (T : Tb9) (t B : Nat) (Z : Nat → Prop) (pos : Int) (p : Option Addr) (cap : Nat) (l : List Lk) (w : World), PT w B Z t T → Sz9 T → T.ps.length < 2147483647 → -9223372036854775808 ≤ pos → pos ≤ 9223372036854775807 → RowR 4 LkR w p l → Sl9 l → Calls Try.prog 26 #[.pointer (some ⟨t, 0, none⟩), .int .i64 pos, .slice p l.length cap] w fun e w' => e = .returned (.int .i64 (askE T pos l)) ∧ PP9 PT w B Z t (askT T pos l) w'
  held : ∀ (T : Tb9) (t B : Nat) (Z : Nat → Prop) (w : World), PT w B Z t T → Sz9 T → Calls Try.prog 16 #[.pointer (some ⟨t, 0, none⟩)] w fun e w' => ∃ v, e = .returned v ∧ IV9 w (openL T) v w'
  ready : ∀ (T : Tb9) (t B : Nat) (Z : Nat → Prop) (w : World), PT w B Z t T → Sz9 T → Calls Try.prog 18 #[.pointer (some ⟨t, 0, none⟩)] w fun e w' => ∃ v, e = .returned v ∧ IV9 w (grntL T) v w'
  granted : ∀ (T : Tb9) (t B : Nat) (Z : Nat → Prop) (pos : Int) (w : World), PT w B Z t T → Sz9 T → -9223372036854775808 ≤ pos → pos ≤ 9223372036854775807 → Calls Try.prog 37 #[.pointer (some ⟨t, 0, none⟩), .int .i64 pos] w fun e w' => e = .returned (.bool (isGr T pos)) ∧ Below w.heap.size w w'
  waits : ∀ (T : Tb9) (t B : Nat) (Z : Nat → Prop) (pos : Int) (w : World), PT w B Z t T → Sz9 T → -9223372036854775808 ≤ pos → pos ≤ 9223372036854775807 → Calls Try.prog 27 #[.pointer (some ⟨t, 0, none⟩), .int .i64 pos] w fun e w' => ∃ v, e = .returned (.tuple #[v, .int .i64 (waitR T pos).2]) ∧ IV9 w (waitR T pos).1 v w'
  locks : ∀ (T : Tb9) (t B : Nat) (Z : Nat → Prop) (pos : Int) (w : World), PT w B Z t T → Sz9 T → -9223372036854775808 ≤ pos → pos ≤ 9223372036854775807 → Calls Try.prog 35 #[.pointer (some ⟨t, 0, none⟩), .int .i64 pos] w fun e w' => ∃ v, e = .returned (.tuple #[v, .int .i64 (lockR T pos).2]) ∧ OwnR 4 23 LkR w' w.heap.size v (lockR T pos).1 ∧ Below w.heap.size w w'
  release : ∀ (T : Tb9) (t B : Nat) (Z : Nat → Prop) (pos : Int) (w : World), PT w B Z t T → Sz9 T → -9223372036854775808 ≤ pos → pos ≤ 9223372036854775807 → Calls Try.prog 25 #[.pointer (some ⟨t, 0, none⟩), .int .i64 pos] w fun e w' => e = .returned (.int .i64 (freeE T pos)) ∧ PP9 PT w B Z t (freeT T pos) w'
theorem LocksIs.later {PT : Tm9} (h : LocksIs PT) {w w' : World} {B : Nat} {Z : Nat → Prop} {t : Nat} {T : Tb9} (hp : PT w B Z t T) (hb : Below w.heap.size w w') : PT w' B Z t T := h.kept hp (Y := fun _ => False) (Only.of hb) fun _ _ h => h
theorem LocksIs.below {PT : Tm9} (h : LocksIs PT) {w w' : World} {B C : Nat} {Z : Nat → Prop} {t : Nat} {T : Tb9} (hp : PT w B Z t T) (hC : C ≤ B) (hB : B ≤ w.heap.size) (ho : Only Z w w') : Below C w w' := ho.below (Nat.le_trans hC hB) fun k hk hz => by have := (h.lies hp k hz).1; omega
theorem quiet_below {w w' : World} (h : ∃ n, w' = w.drewN n) : Below w.heap.size w w' := by
  obtain ⟨n, rfl⟩ := h
  exact below_drewN (Below.refl _ _) n
theorem quiet_more {w w' : World} (h : ∃ n, w' = w.drewN n) (m : Nat) : ∃ n, w'.drewN m = w.drewN n := by
  obtain ⟨n, rfl⟩ := h
  exact ⟨n + m, World.drewN_drewN _ _ _⟩

set_option maxHeartbeats 4000000 in
set_option maxRecDepth 100000 in
theorem ints19_any (pa pb : Option Addr) (ca cb : Nat) (la lb : List Int) (w : World) (ra : RowR 1 IntR w pa la) (rb : RowR 1 IntR w pb lb) (ha : la.length ≤ 1099511627776) :
    Calls Try.prog 20 #[.slice pa la.length ca, .slice pb lb.length cb] w fun e w' => e = .returned (.bool (decide (la = lb))) ∧ Below w.heap.size w w' := by
  have HA := Lib.hid ra
  have HB := Lib.hid rb
  clear ra rb
  go_enter Try.func20, Try.ntmps20
  by_cases hl : la.length = lb.length
  · have hli : (la.length : Int) = (lb.length : Int) := by omega
    go_wp2
    go_loopw [5] (fun i wr => ∃ k : Nat, k ≤ la.length ∧ i = .int .i64 k ∧ la.take k = lb.take k ∧ ∃ n, wr = w.drewN n) (fun i _ => la.length - (intOf i).toNat)
    case atStart => exact ⟨0, Nat.zero_le _, rfl, rfl, 0, rfl⟩
    case round =>
      obtain ⟨k, hk, rfl, hall, hbl⟩ := hrel
      have HT := Lib.hid hall
      have QW := Lib.hid hbl
      have HBL := Lib.hid (quiet_below hbl)
      clear hall hbl
      by_cases hlt : k < la.length
      · have hlti : (k : Int) < (la.length : Int) := by omega
        have hlt2 : k < lb.length := by omega
        have hlti2 : (k : Int) < (lb.length : Int) := by omega
        obtain ⟨b1, o1, v1, rfl, hR1, e1⟩ := HA.out.at1 hlt
        obtain ⟨b2, o2, v2, rfl, hR2, e2⟩ := HB.out.at1 hlt2
        simp only [IntR, List.cons.injEq, and_true] at hR1 hR2
        subst hR1 hR2
        have d1 := cell_later HBL.out e1
        have d2 := cell_later HBL.out e2
        clear e1 e2
        obtain ⟨x, hx⟩ : ∃ x, la[k] = x := ⟨_, rfl⟩
        obtain ⟨y, hy⟩ : ∃ y, lb[k] = y := ⟨_, rfl⟩
        rw [hx] at d1
        rw [hy] at d2
        by_cases he : x = y
        · have HT2 : Hid (la.take (k + 1) = lb.take (k + 1)) := by
            show la.take (k + 1) = lb.take (k + 1)
            rw [List.take_succ_eq_append_getElem hlt, List.take_succ_eq_append_getElem hlt2, HT.out, hx, hy, he]
          subst he
          clear hx hy
          go_wp2
          go_quiet (fail)
          go_wp2
          go_roundw
          case rel => exact ⟨k + 1, by omega, by go_num, HT2.out, quiet_more QW.out _⟩
          case measure => simp [intOf]; omega
        · have HE : Hid (¬ la = lb) := fun e => he (by rw [← hx, ← hy]; simp only [e])
          clear hx hy
          go_wp2
          go_quiet (fail)
          go_wp2
          go_ret
          exact ⟨congrArg (fun b => Ending.returned (.bool b)) (decide_eq_false HE.out).symm, quiet_below (quiet_more QW.out _)⟩
      · have hlti : ¬ (k : Int) < (la.length : Int) := by omega
        have HE : Hid (la = lb) := by
          have h := HT.out
          rwa [List.take_of_length_le (by omega), List.take_of_length_le (by omega)] at h
        go_wp2
        go_ret
        exact ⟨congrArg (fun b => Ending.returned (.bool b)) (decide_eq_true HE.out).symm, HBL.out⟩
  · have hli : ¬ (la.length : Int) = (lb.length : Int) := by omega
    have HE : Hid (¬ la = lb) := fun e => hl (by rw [e])
    go_wp2
    go_ret
    exact ⟨congrArg (fun b => Ending.returned (.bool b)) (decide_eq_false HE.out).symm, Below.refl _ _⟩

set_option maxHeartbeats 4000000 in
set_option maxRecDepth 100000 in
theorem has19_any (p : Option Addr) (cap : Nat) (l : List Int) (n : Int) (w : World) (r : RowR 1 IntR w p l) (hl : l.length ≤ 1099511627776) : Calls Try.prog 22 #[.slice p l.length cap, .int .i64 n] w fun e w' => e = .returned (.bool (decide (n ∈ l))) ∧ w' = w := by
  have HR := Lib.hid r
  clear r
  go_enter Try.func22, Try.ntmps22
  go_wp2
  go_loop [5] (fun j => ∃ k : Nat, k ≤ l.length ∧ j = .int .i64 k ∧ ∀ j (h : j < l.length), j < k → l[j] ≠ n) (fun j => l.length - (intOf j).toNat)
  case atStart => exact ⟨0, Nat.zero_le _, rfl, fun j _ g => absurd g (Nat.not_lt_zero _)⟩
  case round =>
    obtain ⟨k, hk, rfl, hall⟩ := hrel
    have HA := Lib.hid hall
    clear hall
    by_cases hkl : k < l.length
    · have hkli : (k : Int) < (l.length : Int) := by omega
      obtain ⟨x, hx⟩ : ∃ x, l[k] = x := ⟨_, rfl⟩
      obtain ⟨b, o, v, rfl, hR1, e1⟩ := HR.out.at1 hkl
      simp only [IntR, List.cons.injEq, and_true] at hR1
      subst hR1
      rw [hx] at e1
      by_cases hp : x = n
      · have HE : Hid (decide (n ∈ l) = true) := Lib.hid (decide_eq_true (hp ▸ hx ▸ List.getElem_mem hkl))
        subst hp
        clear hx
        go_wp2
        go_ret
        exact ⟨ret_bool HE.out.symm, rfl⟩
      · have HN : Hid (l[k] ≠ n) := Lib.hid (by rw [hx]; exact hp)
        clear hx
        go_wp2
        go_roundw
        case rel => exact ⟨k + 1, by omega, by go_num, upto1 HA.out hkl HN.out⟩
        case measure => simp [intOf]; omega
    · have hkli : ¬ (k : Int) < (l.length : Int) := by omega
      have HE : Hid (decide (n ∈ l) = false) := Lib.hid (decide_eq_false fun h => by
        obtain ⟨j, hj, e⟩ := List.getElem_of_mem h
        exact HA.out j hj (by omega) e)
      go_wp2
      go_ret
      exact ⟨ret_bool HE.out.symm, rfl⟩
end Go.Proofs.Ytefdhmdkcpgfcaa
