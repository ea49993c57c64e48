/- How a list of values that comes in is opened. -/
import Derived.Test.YtfgpopkibjijgaaF0
import Derived.Test.YtfgpopkibjijgaaW3
namespace Go.Proofs.Ytfgpopkibjijgaa
open Go.ChangeShapes Go.WideShapes Go.ChangeAt Go.WideMaps Go.WideElems Go.RowKit

theorem Try.cells3 : Try.prog.cellsOf 3 = 1 := by kernel_rfl
theorem Try.cells9 : Try.prog.cellsOf 9 = 1 := by kernel_rfl

set_option maxRecDepth 100000 in
theorem open_vals {H : Type} {enc : TypeId × Value → H} {W : World} {base : Nat} {v : Value} {d : DataW H} {p : List MemPlace}
    (hv : Value.okWide Try.prog W .any base 22 v) (h : DataW.Trod enc Try.prog W 0 (fun _ => true) true 22 v d p) :
    ∃ (a : Option Addr) (cap : Nat) (vs : List V3), v = .slice a vs.length cap ∧ Row W a vs ∧ vs.length ≤ cap ∧ cap ≤ maxLen := by
  obtain ⟨a0, len, cap, rfl⟩ := okWide_slice Try.underlying22 hv
  obtain ⟨fuel, hf⟩ := h
  rcases Deep.open_slice Try.underlying22 hf with ⟨hcs, _⟩ | ⟨x, l, c, m, n, D, Pl, hcs, _, hlc, hcm, hm, _, hel⟩
  · simp [Value.cells] at hcs
    obtain ⟨rfl, rfl, rfl⟩ := hcs
    exact ⟨none, 0, [], rfl, fun i hi => absurd hi (Nat.not_lt_zero _), Nat.le_refl _, Nat.zero_le _⟩
  · simp [Value.cells] at hcs
    obtain ⟨rfl, rfl, rfl⟩ := hcs
    simp at hm
    subst hm
    have hone : ∀ i, i < len → ∃ u : V3, W.cell? (x.add (i * 3)) = some (.int .i64 u.1) ∧ W.cell? (x.add (i * 3 + 1)) = some (.int .i64 u.2.1) ∧ W.cell? (x.add (i * 3 + 2)) = some (.string u.2.2) := by
      intro i hi
      obtain ⟨cs, hc, ht⟩ := hel i (by omega)
      rw [Try.cells23] at hc
      obtain ⟨y0, y1, y2, q, _, hl, t0, t1, t2⟩ := Deep.trod_struct3 Try.underlying25 ht
      rw [Try.cells23] at hl
      match cs, hl with
      | [c0, c1, c2], _ =>
        have hs := (World.cells?_some hc).2.2
        have t0' : DataW.trod enc Try.prog W 0 (fun _ => true) true q 3 [c0] = some y0 := by simpa [Try.cells3] using t0
        have t1' : DataW.trod enc Try.prog W 0 (fun _ => true) true q 3 [c1] = some y1 := by simpa [Try.cells3] using t1
        have t2' : DataW.trod enc Try.prog W 0 (fun _ => true) true q 9 [c2] = some y2 := by simpa [Try.cells9] using t2
        obtain ⟨k, e0, _, _⟩ := DataW.trod_int Try.underlying3 t0'
        obtain ⟨z, e1, _, _⟩ := DataW.trod_int Try.underlying3 t1'
        obtain ⟨s, e2, _, _⟩ := DataW.trod_string Try.underlying9 t2'
        simp at e0 e1 e2
        subst e0 e1 e2
        refine ⟨(k, z, s), ?_, ?_, ?_⟩
        · have := hs 0 (by omega)
          rw [Deep.add_add] at this
          simpa using this
        · have := hs 1 (by omega)
          rw [Deep.add_add] at this
          simpa using this
        · have := hs 2 (by omega)
          rw [Deep.add_add] at this
          simpa using this
    obtain ⟨f, hfs⟩ := Deep.choose_lt hone
    refine ⟨some x, _, (List.range len).map f, by simp, ?_, by simpa using hlc, hcm⟩
    intro i hi
    have hi' : i < len := by simpa using hi
    obtain ⟨b, off, spot⟩ := x
    have h0 := (hfs 0 (by omega)).1
    have hspot : spot = none := by simpa [Addr.add] using World.cell?_spot h0
    subst hspot
    have hadd : ∀ j, (⟨b, off, none⟩ : Addr).add j = ⟨b, off + j, none⟩ := fun j => by unfold Addr.add; split <;> simp_all
    obtain ⟨g0, g1, g2⟩ := hfs i hi'
    rw [hadd] at g0 g1 g2
    refine ⟨b, off, rfl, ?_, ?_, ?_⟩
    · simpa using g0
    · simpa [Nat.add_assoc] using g1
    · simpa [Nat.add_assoc] using g2
end Go.Proofs.Ytfgpopkibjijgaa
