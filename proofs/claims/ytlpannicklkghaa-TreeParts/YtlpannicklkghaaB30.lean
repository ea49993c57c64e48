/- Walks of layer 7: same. -/
import Derived.Test.YtlpannicklkghaaB29
namespace Go.Proofs.Ytlpannicklkghaa
open Go.RowKit

noncomputable def sameB (l s : List Pr) : Bool := @decide (l = s) (Classical.propDecidable _)
theorem sameB_iff (l s : List Pr) : sameB l s = true ↔ l = s := by
  unfold sameB
  exact @decide_eq_true_iff _ (Classical.propDecidable _)
theorem sameB_no {l s : List Pr} (h : l ≠ s) : sameB l s = false := by
  cases e : sameB l s with
  | false => rfl
  | true => exact absurd ((sameB_iff l s).1 e) h
set_option maxHeartbeats 16000000 in
set_option maxRecDepth 100000 in
theorem same7_any (w : World) (p q : Option Addr) (c d : Nat) (l s : List Pr) (hl : l.length ≤ 281474976710656) (hs : s.length ≤ 281474976710656) (hp : PRow w p l) (hq : PRow w q s) :
    Calls Try.prog 13 #[.slice p l.length c, .slice q s.length d] w fun e w' => e = .returned (.bool (sameB l s)) ∧ Below w.heap.size w w' := by
  have HP : Hid (PRow w p l) := hp
  have HQ : Hid (PRow w q s) := hq
  clear hp hq
  go_enter Try.func13, Try.ntmps13
  by_cases hne : l.length = s.length
  · have hnei : (l.length : Int) = (s.length : Int) := by omega
    go_wp2
    go_loopw [5] (fun i wr => ∃ (k : Nat), k ≤ l.length ∧ i = .int .i64 (k : Int) ∧ (∀ j (h : j < l.length) (h' : j < s.length), j < k → l[j] = s[j]) ∧ Below w.heap.size w wr) (fun i _ => l.length - (intOf i).toNat)
    case atStart => exact ⟨0, Nat.zero_le _, rfl, fun j _ _ h => absurd h (Nat.not_lt_zero _), Below.refl _ _⟩
    case round =>
      obtain ⟨k, hk, rfl, hall, hb⟩ := hrel
      have HA : Hid (∀ j (h : j < l.length) (h' : j < s.length), j < k → l[j] = s[j]) := hall
      have HB : Hid (Below w.heap.size w wr) := hb
      clear hall hb
      by_cases hlt : k < l.length
      · have hlti : (k : Int) < (l.length : Int) := by omega
        have hlti2 : (k : Int) < (s.length : Int) := by omega
        obtain ⟨b, off, rfl, d0, d1⟩ := (HP.out.later HB.out) k hlt
        obtain ⟨b2, off2, rfl, f0, f1⟩ := (HQ.out.later HB.out) k (by omega)
        obtain ⟨x, hx⟩ : ∃ x, l[k] = x := ⟨_, rfl⟩
        obtain ⟨y, hy⟩ : ∃ y, s[k]'(by omega) = y := ⟨_, rfl⟩
        rw [hx] at d0 d1
        rw [hy] at f0 f1
        have HXY : Hid (∀ (h : k < l.length) (h' : k < s.length), l[k]'h = x ∧ s[k]'h' = y) := fun _ _ => ⟨hx, hy⟩
        clear hx hy
        by_cases hxy : x = y
        · subst hxy
          go_wp2
          go_quiet (fail)
          go_wp2
          go_roundw
          case rel =>
            refine ⟨k + 1, by omega, by go_num, fun j h h' hj => ?_, below_drewN HB.out _⟩
            by_cases e : j = k
            · subst e
              rw [(HXY.out h h').1, (HXY.out h h').2]
            · exact HA.out j h h' (by omega)
          case measure => simp [intOf]; omega
        · have HE : Hid (sameB l s = false) := sameB_no fun e => by
            subst e
            exact hxy ((HXY.out hlt hlt).1.symm.trans (HXY.out hlt hlt).2)
          have hcs : (x.1.toList == y.1.toList) = false ∨ ((x.1.toList == y.1.toList) = true ∧ (x.2.toList == y.2.toList) = false) := by
            by_cases e1 : x.1 = y.1
            · by_cases e2 : x.2 = y.2
              · exact absurd (Prod.ext e1 e2) hxy
              · exact Or.inr ⟨by rw [e1]; simp, by rw [beq_eq_false_iff_ne]; exact fun h => e2 (ba_inj h)⟩
            · exact Or.inl (by rw [beq_eq_false_iff_ne]; exact fun h => e1 (ba_inj h))
          clear hxy HA
          rcases hcs with e1 | ⟨e1, e2⟩
          all_goals
            go_wp2
            go_quiet (fail)
            go_wp2
            go_ret
            exact ⟨ret_bool HE.out.symm, below_drewN HB.out _⟩
      · have hlti : ¬ (k : Int) < (l.length : Int) := by omega
        go_wp2
        go_ret
        exact ⟨ret_bool ((sameB_iff l s).2 (List.ext_getElem hne fun j h h' => HA.out j h h' (by omega))).symm, HB.out⟩
  · have hnei : ¬ (l.length : Int) = (s.length : Int) := by omega
    go_wp2
    go_ret
    exact ⟨ret_bool (sameB_no fun h => hne (congrArg List.length h)).symm, Below.refl _ _⟩
end Go.Proofs.Ytlpannicklkghaa
