/- How what comes in is opened, layer 4, third part: files whose names have a length; how long a slice is that came in. -/
import Derived.Test.YtejbelbfmchadaaF11
import Derived.SizedLaws
namespace Go.Proofs.Ytejbelbfmchadaa
open Go.ChangeShapes Go.WideShapes Go.ChangeAt Go.WideMaps Go.WideElems Go.RowKit
open Go.ChangeMaps (open_string shut_string)

theorem Try.bytesFile : Try.prog.bytesOf 27 = 40 := by kernel_rfl
theorem Try.bytesOp : Try.prog.bytesOf 39 = 88 := by kernel_rfl
theorem sized_len {H : Type} {P : Program} {ts : List TypeId} {ds : List (DataW H)} (h : (DataW.weightsEach P ts ds).all (· ≤ reachBytes) = true) {j : Nat} {t e : TypeId} {d : DataW H} (ht : ts[j]? = some t) (hd : ds[j]? = some d) (hu : P.underlying t = some (.slice e)) : Joins.sliceLen d * P.bytesOf e ≤ reachBytes := by
  cases d with
  | slice el sp =>
    have := sized_slice h ht hd hu
    refine Nat.le_trans (Nat.mul_le_mul_right _ ?_) this
    exact Nat.le_add_right _ _
  | _ => simp [Joins.sliceLen]

set_option maxRecDepth 100000 in
theorem open_files4n {H : Type} {enc : TypeId × Value → H} {W : World} {base : Nat} {v : Value} {d : DataW H} {p : List MemPlace} (hv : Value.okWide Try.prog W .any base 22 v) (h : DataW.Trod enc Try.prog W 0 (fun _ => true) true 22 v d p) :
    ∃ (a : Option Addr) (cap : Nat) (l : List FV), v = .slice a l.length cap ∧ FRow W a l ∧ l.length ≤ cap ∧ cap ≤ maxLen ∧ ∀ f ∈ l, f.1.size ≤ maxLen := by
  obtain ⟨a0, len, cap, rfl⟩ := okWide_slice Try.underlying22 hv
  obtain ⟨fuel, hf⟩ := h
  rcases Deep.open_slice Try.underlying22 hf with ⟨hcs, _⟩ | ⟨x, l, c, m, n, D, Pl, hcs, _, hlc, hcm, hm, _, hel⟩
  · simp [Value.cells] at hcs
    obtain ⟨rfl, rfl, rfl⟩ := hcs
    exact ⟨none, 0, [], rfl, FRow.nil _ _, Nat.le_refl _, Nat.zero_le _, fun f hf => by simp at hf⟩
  · simp [Value.cells] at hcs
    obtain ⟨rfl, rfl, rfl⟩ := hcs
    simp at hm
    subst hm
    have hone : ∀ i, i < len → ∃ u : FV, W.cell? (x.add (i * 3)) = some (.string u.1) ∧ W.cell? (x.add (i * 3 + 1)) = some (.string u.2.1) ∧ W.cell? (x.add (i * 3 + 2)) = some (.int .i64 u.2.2) ∧ u.1.size ≤ maxLen := by
      intro i hi
      obtain ⟨cs, hc, ht⟩ := hel i (by omega)
      rw [Try.cellsFile] at hc
      obtain ⟨y0, y1, y2, q, _, hl, t0, t1, t2⟩ := Deep.trod_struct3 Try.underlying27 ht
      rw [Try.cellsFile] at hl
      match cs, hl with
      | [c0, c1, c2], _ =>
        have hs := (World.cells?_some hc).2.2
        have t0' : DataW.trod enc Try.prog W 0 (fun _ => true) true q 9 [c0] = some y0 := by simpa [Try.cells9] using t0
        have t1' : DataW.trod enc Try.prog W 0 (fun _ => true) true q 9 [c1] = some y1 := by simpa [Try.cells9] using t1
        have t2' : DataW.trod enc Try.prog W 0 (fun _ => true) true q 3 [c2] = some y2 := by simpa [Try.cells3] using t2
        obtain ⟨k, e0, _, hk0⟩ := DataW.trod_string Try.underlying9 t0'
        obtain ⟨z, e1, _, _⟩ := DataW.trod_string Try.underlying9 t1'
        obtain ⟨s, e2, _, _⟩ := DataW.trod_int Try.underlying3 t2'
        simp at e0 e1 e2
        subst e0 e1 e2
        refine ⟨(k, z, s), ?_, ?_, ?_, hk0⟩
        · have := hs 0 (by omega)
          rw [Deep.add_add] at this
          simpa using this
        · have := hs 1 (by omega)
          rw [Deep.add_add] at this
          simpa using this
        · have := hs 2 (by omega)
          rw [Deep.add_add] at this
          simpa using this
    obtain ⟨f, hfs⟩ := Deep.choose_lt hone
    refine ⟨some x, _, (List.range len).map f, by simp, ?_, by simpa using hlc, hcm, ?_⟩
    rotate_left
    · intro g hg
      obtain ⟨i, hi, rfl⟩ := List.mem_map.1 hg
      exact (hfs i (by simpa using hi)).2.2.2
    intro i hi
    have hi' : i < len := by simpa using hi
    obtain ⟨b, off, spot⟩ := x
    have h0 := (hfs 0 (by omega)).1
    have hspot : spot = none := by simpa [Addr.add] using World.cell?_spot h0
    subst hspot
    obtain ⟨g0, g1, g2, _⟩ := hfs i hi'
    rw [add_lit4] at g0 g1 g2
    refine ⟨b, off, rfl, ?_, ?_, ?_⟩
    · simpa using g0
    · simpa [Nat.add_assoc] using g1
    · simpa [Nat.add_assoc] using g2

end Go.Proofs.Ytejbelbfmchadaa
