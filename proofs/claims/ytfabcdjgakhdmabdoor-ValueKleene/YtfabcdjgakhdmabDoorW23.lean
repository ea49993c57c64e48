/- Walks of layer 1: values from the last to the first. -/
import Derived.Test.YtfabcdjgakhdmabDoorC2
import Derived.Test.YtfabcdjgakhdmabDoorM9
namespace Go.Proofs.YtfabcdjgakhdmabDoor
open Go.RowKit

theorem Row.of_own {w : World} {B n : Nat} {v : Value} {vs : List V3} (h : w.ownsRow B 25 3 v n (vc vs)) : ∃ a cap, v = .slice a vs.length cap ∧ Row w a vs := by
  have hc := fun g => h.cells (g := g)
  obtain ⟨hl, ⟨h0, hn⟩ | ⟨g, cap, cur, rfl, _⟩⟩ := h
  · rw [vc_length] at hl
    have e : vs.length = 0 := by omega
    obtain rfl : vs = [] := List.eq_nil_of_length_eq_zero e
    exact ⟨none, 0, h0, fun i hi => absurd hi (Nat.not_lt_zero _)⟩
  · rw [vc_length] at hl
    have e : n = vs.length := by omega
    subst e
    refine ⟨some ⟨g, 0, none⟩, cap, rfl, Row.of_cells ?_⟩
    intro j u hj
    have := hc g rfl j u hj
    have hadd : (⟨g, 0, none⟩ : Addr).add j = ⟨g, 0 + j, none⟩ := by unfold Addr.add; split <;> simp_all
    rwa [hadd] at this

theorem cells_new (w : World) (v : V3) (t : TypeId) : ∀ j u, (vc [v])[j]? = some u → (w.alloc (.cells #[.int .i64 v.1, .int .i64 v.2.1, .string v.2.2] t)).cell? ((⟨w.heap.size, 0, none⟩ : Addr).add j) = some u := by
  intro j u hj
  match j, hj with
  | 0, hj => simp [vc] at hj; subst hj; simp [Addr.add]
  | 1, hj => simp [vc] at hj; subst hj; simp [Addr.add]
  | 2, hj => simp [vc] at hj; subst hj; simp [Addr.add]

theorem rev_take {vs : List V3} {r : Nat} (h : r < vs.length) : vs.reverse.take (vs.length - r) = vs.reverse.take (vs.length - (r + 1)) ++ [vs[r]] := by
  have e : vs.length - r = (vs.length - (r + 1)) + 1 := by omega
  rw [e, List.take_succ_eq_append_getElem (by simp; omega), List.getElem_reverse]
  congr 2
  congr 1
  omega

set_option maxHeartbeats 1000000 in
set_option maxRecDepth 100000 in
theorem turned_any (a : Option Addr) (cap : Nat) (vs : List V3) (w : World) (hlen : vs.length ≤ 2147483647) (hrow : Row w a vs) :
    Calls Tryd.prog 8 #[.slice a vs.length cap] w fun e w' => ∃ a' cap', e = .returned (.slice a' (turnedL vs).length cap') ∧ Row w' a' (turnedL vs) ∧ Below w.heap.size w w' := by
  obtain ⟨i0, hi, hz0, hz1, hz2⟩ := info_parts Tryd.info23
  have HR : Hid (Row w a vs) := hrow
  clear hrow
  go_enter Tryd.func8, Tryd.ntmps8
  go_wp2
  go_loopw [3, 4] (fun v i wr => ∃ r : Nat, r ≤ vs.length ∧ i = .int .i64 ((r : Int) - 1) ∧ wr.ownsRow w.heap.size 25 3 v (vs.length - r) (vc (vs.reverse.take (vs.length - r))) ∧ Below w.heap.size w wr) (fun _ i _ => (intOf i + 1).toNat)
  case atStart => exact ⟨vs.length, Nat.le_refl _, rfl, by simpa [vc] using World.ownsRow_nil w w.heap.size 25 3, Below.refl _ _⟩
  case round =>
    obtain ⟨r, hr, rfl, hown, hb⟩ := hrel
    have hsz := hb.size
    match r, hr, hown with
    | r + 1, hr, hown =>
      have e1 : (((r + 1 : Nat) : Int) - 1) = (r : Int) := by omega
      rw [e1]
      obtain ⟨b, off, rfl, c0, c1, c2⟩ := HR.out r (by omega)
      have d0 := cell_later hb c0
      have d1 := cell_later hb c1
      have d2 := cell_later hb c2
      clear c0 c1 c2 e1
      have hlt := hown.lt
      have j1 : (0 : Int) ≤ (r : Int) := by omega
      have j2 : (r : Int) < (vs.length : Int) := by omega
      go_wp2_with (first | (at_builtin; refine wpList_append_own _ rfl _ _ 22 rfl w.heap.size 25 i0 _ 3 32 Tryd.underlying22 hi hz0 hz1 hz2 rfl (by decide) _ _ _ rfl (hown.alloc _) ⟨wr.heap.size, 0, none⟩ 1 1 (vc [vs[r]]) rfl rfl ?c1 ?c2 ?c3 ?c4 ?c5 ?_))
      case c1 => exact cells_new wr (vs[r]) _
      case c2 => exact vc_one _
      case c3 => unfold maxLen; omega
      case c4 => omega
      case c5 => simp; omega
      · intro v' w1 hown' hgrow _
        have hbb : Below w.heap.size w w1 := (hb.alloc (by omega) _).grown hgrow (by simp; omega) fun k hk => (hlt k hk).1
        have ho2 : w1.ownsRow w.heap.size 25 3 v' (vs.length - r) (vc (vs.reverse.take (vs.length - r))) := by
          rw [rev_take (by omega), vc_append, show vs.length - r = vs.length - (r + 1) + 1 by omega]
          exact hown'
        clear hown' hgrow hown hlt
        go_wp2
        go_roundw
        case rel => exact ⟨r, by omega, by go_num, ho2, hbb⟩
        case measure => first | (simp [intOf]; done) | (simp [intOf]; omega)
    | 0, hr, hown =>
      have e2 : vs.reverse.take (vs.length - 0) = vs.reverse := List.take_of_length_le (by simp)
      rw [e2] at hown
      simp only [Nat.sub_zero] at hown
      by_cases h0 : 0 < vs.length
      · obtain ⟨b, off, rfl, c0, c1, c2⟩ := HR.out 0 h0
        have d0 := cell_later hb c0
        have d1 := cell_later hb c1
        have d2 := cell_later hb c2
        simp only [Nat.zero_mul, Nat.add_zero] at d0 d1 d2
        have hlt := hown.lt
        have h0' : (0 : Int) < (vs.length : Int) := by omega
        have e3 : turnedL vs = vs.reverse ++ [vs[0]] := by
          unfold turnedL
          match vs, h0 with
          | v :: l, _ => rfl
        clear c0 c1 c2
        go_wp2_with (first | (at_builtin; refine wpList_append_own _ rfl _ _ 22 rfl w.heap.size 25 i0 _ 3 32 Tryd.underlying22 hi hz0 hz1 hz2 rfl (by decide) _ _ _ rfl (hown.alloc _) ⟨wr.heap.size, 0, none⟩ 1 1 (vc [vs[0]]) rfl rfl ?c1 ?c2 ?c3 ?c4 ?c5 ?_))
        case c1 => exact cells_new wr (vs[0]) _
        case c2 => exact vc_one _
        case c3 => unfold maxLen; omega
        case c4 => omega
        case c5 => simp; omega
        · intro v' w1 hown' hgrow _
          have hbb : Below w.heap.size w w1 := (hb.alloc (by omega) _).grown hgrow (by simp; omega) fun k hk => (hlt k hk).1
          rw [← vc_append, ← e3] at hown'
          obtain ⟨a', cap', rfl, hr'⟩ := Row.of_own hown'
          clear hown' hgrow hown hlt e3
          go_wp2
          go_ret
          exact ⟨a', cap', rfl, hr', hbb⟩
      · have e0 : vs = [] := List.eq_nil_of_length_eq_zero (by omega)
        subst e0
        obtain ⟨a', cap', e4, hr'⟩ := Row.of_own hown
        have e5 : turnedL [] = ([] : List V3).reverse := rfl
        go_wp2
        go_ret
        refine ⟨a', cap', ?_, by rw [e5]; exact hr', hb⟩
        rw [e5]
        exact congrArg Ending.returned e4
end Go.Proofs.YtfabcdjgakhdmabDoor
