/- Walks of layer 19: the document's MeetAny, Conflict. -/
import Derived.Test.YtefdhmdkcpgfcaaI2
namespace Go.Proofs.Ytefdhmdkcpgfcaa
open Go.RowKit
theorem rconflict_any (a b : Lk) (w : World) : Calls Try.prog 11 #[.agg (lkC a).toArray, .agg (lkC b).toArray] w fun e w' => e = .returned (.bool (lkM a b)) ∧ Below w.heap.size w w' := by
  have H := Lib.hid (fun W => rmeet_any a b W)
  obtain ⟨t, l, h, x⟩ := a
  obtain ⟨u, m, g, y⟩ := b
  simp only [lkC] at H ⊢
  go_enter Try.func11, Try.ntmps11
  go_wp2_with fail
  refine (H.out _).mono ?_
  rintro e w1 ⟨rfl, hb⟩
  go_wp2
  go_ret
  exact ⟨rfl, by (repeat (first | exact Below.refl _ _ | assumption | refine Below.drew ?_ | refine below_drewN ?_ _ | refine Below.alloc ?_ (by first | omega | (simp; done) | (simp; omega)) _ | refine Below.setCell ?_ (by first | omega | (simp; done) | (simp; omega)) _ | refine Below.trans ?_ (Below.mono (by assumption) (by first | omega | (simp; done) | (simp; omega)))))⟩
theorem anyM_no {la lb : List Lk} {k : Nat} (h : k = la.length) (ha : ∀ i (g : i < la.length), i < k → lb.any (fun y => lkM la[i] y) = false) : anyM la lb = false := by
  unfold anyM
  rw [List.any_eq_false]
  intro x hx
  obtain ⟨i, hi, rfl⟩ := List.getElem_of_mem hx
  rw [ha i hi (by omega)]
  simp
theorem any_upto {α : Type} {l : List α} {p : α → Bool} (h : ∀ i (g : i < l.length), p l[i] = false) : l.any p = false := by
  rw [List.any_eq_false]
  intro x hx
  obtain ⟨i, hi, rfl⟩ := List.getElem_of_mem hx
  rw [h i hi]
  simp
theorem upto1 {n k : Nat} {P : ∀ i, i < n → Prop} (h : ∀ i (g : i < n), i < k → P i g) (hk : k < n) (e : P k hk) : ∀ i (g : i < n), i < k + 1 → P i g := fun i g hi => by
  rcases Nat.lt_or_ge i k with c | c
  · exact h i g c
  · obtain rfl : i = k := by omega
    exact e

set_option maxHeartbeats 8000000 in
set_option maxRecDepth 100000 in
theorem rmeetAny_any (pa pb : Option Addr) (ca cb : Nat) (la lb : List Lk) (w : World) (ra : RowR 4 LkR w pa la) (rb : RowR 4 LkR w pb lb) (ha : la.length ≤ 1099511627776) (hb : lb.length ≤ 1099511627776) : Calls Try.prog 28 #[.slice pa la.length ca, .slice pb lb.length cb] w fun e w' => e = .returned (.bool (anyM la lb)) ∧ Below w.heap.size w w' := by
  have HA := Lib.hid ra
  have HB := Lib.hid rb
  clear ra rb
  go_enter Try.func28, Try.ntmps28
  go_wp2
  go_loopw [5, 6] (fun i _ wr => ∃ k : Nat, k ≤ la.length ∧ i = .int .i64 k ∧ (∀ i (g : i < la.length), i < k → lb.any (fun y => lkM la[i] y) = false) ∧ Below w.heap.size w wr) (fun i _ _ => la.length - (intOf i).toNat)
  case atStart => exact ⟨0, Nat.zero_le _, rfl, fun j _ g => absurd g (Nat.not_lt_zero _), Below.refl _ _⟩
  case round =>
    obtain ⟨i, hi, rfl, hall, hb0⟩ := hrel
    have HL := Lib.hid hall
    have HB0 := Lib.hid hb0
    clear hall hb0
    by_cases hlt : i < la.length
    · have hlti : (i : Int) < (la.length : Int) := by omega
      obtain ⟨x, hx⟩ : ∃ x, la[i] = x := ⟨_, rfl⟩
      have hat := lock_at HA.out hlt
      rw [hx] at hat
      obtain ⟨b1, o1, rfl, c0, c1, c2, c3⟩ := hat
      have hz1 := World.block_lt_of_cell? _ _ c0
      have C1 := Lib.hid (And.intro c0 (And.intro c1 (And.intro c2 c3)))
      have HX := Lib.hid hx
      clear c0 c1 c2 c3 hx
      go_wp2
      rename World => wq
      go_loopw [6] (fun i' wr => ∃ k : Nat, k ≤ lb.length ∧ i' = .int .i64 k ∧ (∀ j (g : j < lb.length), j < k → lkM x lb[j] = false) ∧ Below w.heap.size w wr) (fun i' _ => lb.length - (intOf i').toNat)
      case atStart => exact ⟨0, Nat.zero_le _, rfl, fun j _ g => absurd g (Nat.not_lt_zero _), HB0.out⟩
      case round =>
        obtain ⟨k, hk, rfl, hall, hb1⟩ := hrel
        have HK := Lib.hid hall
        have hsz := hb1.size
        clear hall
        by_cases hlk : k < lb.length
        · have hlki : (k : Int) < (lb.length : Int) := by omega
          obtain ⟨y, hy⟩ : ∃ y, lb[k] = y := ⟨_, rfl⟩
          have hat := lock_at HB.out hlk
          rw [hy] at hat
          obtain ⟨b2, o2, rfl, p0, p1, p2, p3⟩ := hat
          have hz2 := World.block_lt_of_cell? _ _ p0
          have hy1 : b1 < wr.heap.size := Nat.lt_of_lt_of_le hz1 hsz
          have hy2 : b2 < wr.heap.size := Nat.lt_of_lt_of_le hz2 hsz
          have d0 := cell_later hb1 C1.out.1
          have d1 := cell_later hb1 C1.out.2.1
          have d2 := cell_later hb1 C1.out.2.2.1
          have d3 := cell_later hb1 C1.out.2.2.2
          have q0 := cell_later hb1 p0
          have q1 := cell_later hb1 p1
          have q2 := cell_later hb1 p2
          have q3 := cell_later hb1 p3
          have HY := Lib.hid hy
          clear p0 p1 p2 p3 hy
          obtain ⟨m, hm⟩ : ∃ m, lkM x y = m := ⟨_, rfl⟩
          have HM := Lib.hid hm
          clear hm
          go_wp2
          go_region_held3 (fun w' => w'.cell? ⟨b1, o1 + i * 4, none⟩ = some (.int .i64 x.tb) ∧ w'.cell? ⟨b1, o1 + i * 4 + 1, none⟩ = some (.string x.lo) ∧ w'.cell? ⟨b1, o1 + i * 4 + 2, none⟩ = some (.string x.hi) ∧ w'.cell? ⟨b1, o1 + i * 4 + 3, none⟩ = some (.bool x.wr) ∧ w'.cell? ⟨b2, o2 + k * 4, none⟩ = some (.int .i64 y.tb) ∧ w'.cell? ⟨b2, o2 + k * 4 + 1, none⟩ = some (.string y.lo) ∧ w'.cell? ⟨b2, o2 + k * 4 + 2, none⟩ = some (.string y.hi) ∧ w'.cell? ⟨b2, o2 + k * 4 + 3, none⟩ = some (.bool y.wr)) (go_simp)
            (first | (go_at_call 30; refine (rmeet_any x y _).mono ?_; rintro e wv ⟨rfl, hbv⟩; rw [HM.out]; (have hcv : ∀ b o, b < wr.heap.size → wv.cell? ⟨b, o, none⟩ = wr.cell? ⟨b, o, none⟩ := fun b o h => hbv.cell (p := ⟨b, o, none⟩) h); have hzv := hbv.size; (try simp at hzv); (have x1 : b1 < wv.heap.size := by omega); (have x2 : b2 < wv.heap.size := by omega)))
          cases m with
          | false =>
            go_wp2
            go_roundw
            case rel => exact ⟨k + 1, by omega, by go_num, upto1 HK.out hlk (by rw [HY.out]; exact HM.out), by (repeat (first | exact Below.refl _ _ | assumption | refine Below.drew ?_ | refine below_drewN ?_ _ | refine Below.alloc ?_ (by first | omega | (simp; done) | (simp; omega)) _ | refine Below.setCell ?_ (by first | omega | (simp; done) | (simp; omega)) _ | refine Below.trans ?_ (Below.mono (by assumption) (by first | omega | (simp; done) | (simp; omega)))))⟩
            case measure => simp [intOf]; omega
          | true =>
            have HE : Hid (anyM la lb = true) := Lib.hid (anyM_iff.2 ⟨x, HX.out ▸ List.getElem_mem hlt, y, HY.out ▸ List.getElem_mem hlk, HM.out⟩)
            go_wp2
            go_ret
            exact ⟨ret_bool HE.out.symm, by (repeat (first | exact Below.refl _ _ | assumption | refine Below.drew ?_ | refine below_drewN ?_ _ | refine Below.alloc ?_ (by first | omega | (simp; done) | (simp; omega)) _ | refine Below.setCell ?_ (by first | omega | (simp; done) | (simp; omega)) _ | refine Below.trans ?_ (Below.mono (by assumption) (by first | omega | (simp; done) | (simp; omega)))))⟩
        · have hlki : ¬ (k : Int) < (lb.length : Int) := by omega
          have HN : Hid (lb.any (fun y => lkM x y) = false) := Lib.hid (any_upto fun j g => HK.out j g (by omega))
          go_wp2
          go_roundw
          case rel => exact ⟨i + 1, by omega, by go_num, upto1 HL.out hlt (by rw [HX.out]; exact HN.out), by (repeat (first | exact Below.refl _ _ | assumption | refine Below.drew ?_ | refine below_drewN ?_ _ | refine Below.alloc ?_ (by first | omega | (simp; done) | (simp; omega)) _ | refine Below.setCell ?_ (by first | omega | (simp; done) | (simp; omega)) _ | refine Below.trans ?_ (Below.mono (by assumption) (by first | omega | (simp; done) | (simp; omega)))))⟩
          case measure => simp [intOf]; omega
    · have hlti : ¬ (i : Int) < (la.length : Int) := by omega
      have HE : Hid (anyM la lb = false) := Lib.hid (anyM_no (by omega : i = la.length) HL.out)
      have hb0 := HB0.out
      go_wp2
      go_ret
      exact ⟨ret_bool HE.out.symm, by (repeat (first | exact Below.refl _ _ | assumption | refine Below.drew ?_ | refine below_drewN ?_ _ | refine Below.alloc ?_ (by first | omega | (simp; done) | (simp; omega)) _ | refine Below.setCell ?_ (by first | omega | (simp; done) | (simp; omega)) _ | refine Below.trans ?_ (Below.mono (by assumption) (by first | omega | (simp; done) | (simp; omega)))))⟩
end Go.Proofs.Ytefdhmdkcpgfcaa
