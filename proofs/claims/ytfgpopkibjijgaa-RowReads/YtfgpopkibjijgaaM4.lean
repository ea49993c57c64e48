/- Plain mathematics of layer 1: sums. -/
import Derived.Test.YtfgpopkibjijgaaM3
namespace Go.Proofs.Ytfgpopkibjijgaa

/-- What all numbers are together. -/
def tot : List V3 → Int
  | [] => 0
  | v :: vs => (if v.1 = 1 then v.2.1 else 0) + tot vs
theorem tot_append (l m : List V3) : tot (l ++ m) = tot l + tot m := by
  induction l with
  | nil => simp [tot]
  | cons v l ih => simp only [List.cons_append, tot, ih]; omega
theorem tot_num {vs : List V3} {k : Nat} (h : k < vs.length) (g : (vs[k]).1 = 1) : tot (vs.take (k + 1)) = tot (vs.take k) + (vs[k]).2.1 := by
  rw [List.take_succ_eq_append_getElem h, tot_append]; simp [tot, g]
theorem tot_null {vs : List V3} {k : Nat} (h : k < vs.length) (g : (vs[k]).1 ≠ 1) : tot (vs.take (k + 1)) = tot (vs.take k) := by
  rw [List.take_succ_eq_append_getElem h, tot_append]; simp [tot, g]
theorem tot_bound {vs : List V3} (h : ∀ v ∈ vs, v.1 = 1 → -4611686018427387904 ≤ v.2.1 ∧ v.2.1 ≤ 4611686018427387904) : -(4611686018427387904 * (vs.length : Int)) ≤ tot vs ∧ tot vs ≤ 4611686018427387904 * (vs.length : Int) := by
  induction vs with
  | nil => simp [tot]
  | cons v vs ih =>
    have ih' := ih fun u hu => h u (List.mem_cons_of_mem _ hu)
    have hv := h v List.mem_cons_self
    simp only [tot, List.length_cons]
    split
    · rename_i e
      have := hv e
      omega
    · omega
/-- Is there a number among the first k? -/
def met (vs : List V3) : Bool := vs.any fun v => v.1 == 1
theorem met_num {vs : List V3} {k : Nat} (h : k < vs.length) (g : (vs[k]).1 = 1) : met (vs.take (k + 1)) = true := by
  unfold met
  rw [List.take_succ_eq_append_getElem h, List.any_append]; simp [g]
theorem met_null {vs : List V3} {k : Nat} (h : k < vs.length) (g : (vs[k]).1 ≠ 1) : met (vs.take (k + 1)) = met (vs.take k) := by
  unfold met
  have e : ((vs[k]).1 == 1) = false := by simpa using g
  rw [List.take_succ_eq_append_getElem h, List.any_append]
  simp only [List.any_cons, List.any_nil, e, Bool.or_false]

def sumR (vs : List V3) : Int × Int × Int :=
  if adm 1 vs ≠ 0 then (0, 0, adm 1 vs) else if met vs = false then (0, 0, 0) else if inR (tot vs) then (1, tot vs, 0) else (0, 0, 12)
section
variable {vs : List V3}
theorem sumR_adm (h : adm 1 vs ≠ 0) : sumR vs = (0, 0, adm 1 vs) := by unfold sumR; rw [if_pos h]
theorem sumR_none (h : adm 1 vs = 0) (g : met vs = false) : sumR vs = (0, 0, 0) := by unfold sumR; rw [if_neg (by simp [h]), if_pos g]
theorem sumR_ok (h : adm 1 vs = 0) (g : met vs = true) (r : inR (tot vs) = true) : sumR vs = (1, tot vs, 0) := by unfold sumR; rw [if_neg (by simp [h]), if_neg (by simp [g]), if_pos r]
theorem sumR_over (h : adm 1 vs = 0) (g : met vs = true) (r : inR (tot vs) = false) : sumR vs = (0, 0, 12) := by unfold sumR; rw [if_neg (by simp [h]), if_neg (by simp [g]), if_neg (by simp [r])]
end
end Go.Proofs.Ytfgpopkibjijgaa
