/- How what comes in is opened, layer 10: a list of numbers. -/
import Derived.Test.YtkigilgoolnaaaaDoorF0
import Derived.Test.YtkigilgoolnaaaaDoorA14
import Derived.Deep.Slices
import Derived.Stop.Joined
namespace Go.Proofs.YtkigilgoolnaaaaDoor
open Go.Shelf Go.ChangeShapes Go.WideShapes Go.ChangeAt Go.WideMaps Go.WideElems Go.RowKit
open Go.ChangeMaps (open_string shut_string)

theorem slice_one {α : Type} [Inhabited α] (mk : α → Value) {H : Type} {enc : TypeId × Value → H} {W : World} {fuel : Nat} {t e : TypeId} {cs : List Value} {x : DataW H × List MemPlace} (ht : Tryd.prog.underlying t = some (.slice e)) (hc : Tryd.prog.cellsOf e = 1)
    (h : DataW.trod enc Tryd.prog W 0 (fun _ => true) true fuel t cs = some x) (hmk : ∀ n v y, DataW.trod enc Tryd.prog W 0 (fun _ => true) true n e [v] = some y → ∃ z, v = mk z) :
    ∃ (p : Option Addr) (cap : Nat) (l : List α), cs = [.slice p l.length cap] ∧ (∀ i (h : i < l.length), ∃ b off, p = some ⟨b, off, none⟩ ∧ W.cell? ⟨b, off + i, none⟩ = some (mk l[i])) ∧ l.length ≤ cap ∧ cap ≤ maxLen := by
  rcases Deep.open_slice1 ht hc h with ⟨rfl, _⟩ | ⟨a, len, cap, m, n, V, D, Pl, rfl, _, hl, hm, hmm, _, hx⟩
  · exact ⟨none, 0, [], rfl, fun i hi => absurd hi (by simp), Nat.le_refl _, Nat.zero_le _⟩
  · simp at hmm
    subst hmm
    have hone : ∀ i, i < len → ∃ z, W.cell? (a.add i) = some (mk z) := fun i hi => by
      obtain ⟨h1, h2⟩ := hx i (by omega)
      obtain ⟨z, e⟩ := hmk _ _ _ h2
      exact ⟨z, by rw [h1, e]⟩
    obtain ⟨f, hf⟩ := Deep.choose_lt hone
    refine ⟨some a, m, (List.range len).map f, by simp, fun i hi => ?_, by simpa using hl, hm⟩
    have hi' : i < len := by simpa using hi
    obtain ⟨b, off, spot⟩ := a
    have h0 := hf 0 (by omega)
    have hspot : spot = none := by simpa [Addr.add] using World.cell?_spot h0
    subst hspot
    have hadd : (⟨b, off, none⟩ : Addr).add i = ⟨b, off + i, none⟩ := by unfold Addr.add; split <;> simp_all
    have := hf i hi'
    rw [hadd] at this
    exact ⟨b, off, rfl, by simpa using this⟩
theorem Tryd.cellsInt : Tryd.prog.cellsOf 3 = 1 := by kernel_rfl
set_option maxRecDepth 100000 in
theorem open_ints {H : Type} {enc : TypeId × Value → H} {W : World} {base : Nat} {v : Value} {d : DataW H} {p : List MemPlace} (hv : Value.okWide Tryd.prog W .any base 32 v) (h : DataW.Trod enc Tryd.prog W 0 (fun _ => true) true 32 v d p) :
    ∃ (a : Option Addr) (cap : Nat) (ks : List Int), v = .slice a ks.length cap ∧ IntsR W a ks ∧ ks.length ≤ maxLen := by
  obtain ⟨a0, len, cap, rfl⟩ := okWide_slice Tryd.underlying32 hv
  obtain ⟨fuel, hf⟩ := h
  obtain ⟨a, cap', l, e, r, le, ml⟩ := slice_one (Value.int .i64) Tryd.underlying32 Tryd.cellsInt hf fun n v y hy => by
    obtain ⟨k, e, _, _⟩ := DataW.trod_int Tryd.underlying3 hy
    simp at e
    exact ⟨k, e⟩
  exact ⟨a, cap', l, by simpa [Value.cells] using e, r, Nat.le_trans le ml⟩
end Go.Proofs.YtkigilgoolnaaaaDoor
