/- What comes in, as an argument, layer 8. -/
import Derived.Test.YtkgkkcefnonejaaGreatF50
namespace Go.Proofs.YtkgkkcefnonejaaGreat
open Go.ChangeShapes Go.WideShapes Go.ChangeAt Go.WideMaps Go.WideElems Go.RowKit

theorem sized_of8 {H : Type} {P : Program} {ts : List TypeId} {ds : List (DataW H)} (h : (DataW.weightsEach P ts ds).all (· ≤ reachBytes) = true) {j : Nat} {t : TypeId} {d : DataW H} (ht : ts[j]? = some t) (hd : ds[j]? = some d) : ∀ n ∈ d.weights P t, n ≤ reachBytes := fun n hn => by
  simpa using List.all_eq_true.1 h n (DataW.weights_mem_each ht hd n hn)
theorem open_agg8 {α : Type} {H : Type} {enc : TypeId × Value → H} {P : Program} {W : World} {base : Nat} {t : TypeId} {fs : Array Field} {v : Value} {d : DataW H} {p : List MemPlace} {R : α → List Value → Prop} {Z : α → Prop} (hu : P.underlying t = some (.struct fs)) (ho : Opens P W t R Z) (hv : Value.okWide P W .any base t v) (h : DataW.Trod enc P W 0 (fun _ => true) true t v d p) (hw : ∀ n ∈ d.weights P t, n ≤ reachBytes) :
    ∃ x vs, v = .agg (List.toArray vs) ∧ R x vs ∧ Z x := by
  obtain ⟨cs, rfl, _⟩ := okWide_struct hu hv
  obtain ⟨fuel, hf⟩ := h
  obtain ⟨x, hR, hZ⟩ := ho H enc fuel _ _ hf hw
  exact ⟨x, cs.toList, rfl, hR, hZ⟩
theorem open_row8 {α : Type} {H : Type} {enc : TypeId × Value → H} {P : Program} {W : World} {base : Nat} {t e : TypeId} {c : Nat} {v : Value} {d : DataW H} {p : List MemPlace} {R : α → List Value → Prop} {Z : α → Prop} (hu : P.underlying t = some (.slice e)) (hc : P.cellsOf e = c) (hpos : 0 < c) (hb : 0 < P.bytesOf e) (ho : Opens P W e R Z) (hv : Value.okWide P W .any base t v) (h : DataW.Trod enc P W 0 (fun _ => true) true t v d p) (hw : ∀ n ∈ d.weights P t, n ≤ reachBytes) :
    ∃ (l : List α) (a : Option Addr) (cap : Nat), v = .slice a l.length cap ∧ RowR c R W a l ∧ l.length ≤ cap ∧ cap ≤ maxLen ∧ l.length ≤ 140737488355328 ∧ ∀ x ∈ l, Z x := by
  obtain ⟨a0, len, cap, rfl⟩ := okWide_slice hu hv
  obtain ⟨fuel, hf⟩ := h
  obtain ⟨l, ⟨a, c', e1, r1, r2, r3⟩, z1, z2⟩ := opens_row hu hc hpos hb ho H enc fuel _ _ hf hw
  refine ⟨l, a, c', by simpa [Value.cells] using e1, r1, r2, r3, reach47 z1, z2⟩
end Go.Proofs.YtkgkkcefnonejaaGreat
