/- A region within a round: walked as one that is in none. -/
import Derived.RangeFuncNested
import Derived.Shelf.RegionOpen
namespace Go.Proofs.Ytlpannicklkghaa
open Go.RowKit

def noDefer (ops : Array Oper) : Bool := ops.all fun o => match o.op with
  | .defer _ => false
  | _ => true
section
variable {F : Fence} {n : Nat} {P : Program} {md : Region.Mode} {ops : Array Oper} {Q : Exit → Act → World → Prop}
theorem noDefer_at (h : noDefer ops = true) {i : Nat} {o : Oper} (ho : ops[i]? = some o) (c : Call) : o.op ≠ .defer c := fun e => by
  unfold noDefer at h
  rw [Array.all_eq_true] at h
  obtain ⟨hi, rfl⟩ := Array.getElem?_eq_some_iff.1 ho
  have := h i hi
  rw [e] at this
  cases this
theorem op_round (l : Nat) (hro : F.round = none) (h : noDefer ops = true) {i : Nat} {K : Act → World → Prop} {a : Act} {w : World} (hh : wpOpIn F n P ops Q i K a w) : wpOpIn (F.inRound l) n P ops Q i K a w := by
  unfold wpOpIn at *
  split
  · rename_i he
    simpa [he] using hh
  · rename_i o ho
    simp only [ho] at hh
    split
    · rename_i hw
      simp only [hw, if_true] at hh
      obtain ⟨h1, h2⟩ := hh
      refine ⟨h1, ?_⟩
      rw [hro] at h2
      have e : o.semAt (F.inRound l).round a.eval = o.semAt none a.eval := (Oper.semAt_some l a.eval o (noDefer_at h ho)).trans (Oper.semAt_none a.eval o).symm
      rw [e]
      revert h2
      generalize Sem.run P (o.semAt none a.eval) w = r
      intro h2
      cases r with
      | ok x w' => cases x <;> exact h2
      | halt x w' => cases x <;> exact h2
    · rename_i hw
      simp only [hw] at hh
      exact hh
theorem any_round (l : Nat) (hro : F.round = none) (h : noDefer ops = true) : ∀ (fuel : Nat) (listed : Array Bool) (a : Act) (w : World), wpAnyIn F n P md ops Q fuel listed a w → wpAnyIn (F.inRound l) n P md ops Q fuel listed a w
  | 0, _, _, _, hh => hh
  | fuel + 1, listed, _, _, hh => ⟨hh.1, fun i hi => op_round l hro h (wpOpIn_mono (fun a w hk => any_round l hro h fuel (listed.setIfInBounds i true) a w hk) (hh.2 i hi))⟩
theorem region_round (l : Nat) (hro : F.round = none) (h : noDefer ops = true) {id : Nat} {a : Act} {w : World} (hm : P.follows .mixedOrders = true) (hh : wpAnyIn F n P .any ops Q ops.size (Array.replicate ops.size false) a w.drew) : (Code.region id ops true).wpIn (F.inRound l) n P Q a w := wpIn_region_any hm (any_round l hro h _ _ _ _ hh)
end
end Go.Proofs.Ytlpannicklkghaa
