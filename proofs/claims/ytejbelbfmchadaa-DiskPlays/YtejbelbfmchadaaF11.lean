/- How what comes in is opened, layer 4, second part: files, a script. -/
import Derived.Test.YtejbelbfmchadaaF10
import Derived.Test.YtejbelbfmchadaaD17
namespace Go.Proofs.Ytejbelbfmchadaa
open Go.ChangeShapes Go.WideShapes Go.ChangeAt Go.WideMaps Go.WideElems Go.RowKit
open Go.ChangeMaps (open_string shut_string)

theorem add_lit4 (b off j : Nat) : (⟨b, off, none⟩ : Addr).add j = ⟨b, off + j, none⟩ := by unfold Addr.add; split <;> simp_all

set_option maxRecDepth 100000 in
theorem open_files4 {H : Type} {enc : TypeId × Value → H} {W : World} {base : Nat} {v : Value} {d : DataW H} {p : List MemPlace} (hv : Value.okWide Try.prog W .any base 22 v) (h : DataW.Trod enc Try.prog W 0 (fun _ => true) true 22 v d p) :
    ∃ (a : Option Addr) (cap : Nat) (l : List FV), v = .slice a l.length cap ∧ FRow W a l ∧ l.length ≤ cap ∧ cap ≤ maxLen := by
  obtain ⟨a0, len, cap, rfl⟩ := okWide_slice Try.underlying22 hv
  obtain ⟨fuel, hf⟩ := h
  rcases Deep.open_slice Try.underlying22 hf with ⟨hcs, _⟩ | ⟨x, l, c, m, n, D, Pl, hcs, _, hlc, hcm, hm, _, hel⟩
  · simp [Value.cells] at hcs
    obtain ⟨rfl, rfl, rfl⟩ := hcs
    exact ⟨none, 0, [], rfl, FRow.nil _ _, Nat.le_refl _, Nat.zero_le _⟩
  · simp [Value.cells] at hcs
    obtain ⟨rfl, rfl, rfl⟩ := hcs
    simp at hm
    subst hm
    have hone : ∀ i, i < len → ∃ u : FV, W.cell? (x.add (i * 3)) = some (.string u.1) ∧ W.cell? (x.add (i * 3 + 1)) = some (.string u.2.1) ∧ W.cell? (x.add (i * 3 + 2)) = some (.int .i64 u.2.2) := by
      intro i hi
      obtain ⟨cs, hc, ht⟩ := hel i (by omega)
      rw [Try.cellsFile] at hc
      obtain ⟨y0, y1, y2, q, _, hl, t0, t1, t2⟩ := Deep.trod_struct3 Try.underlying27 ht
      rw [Try.cellsFile] at hl
      match cs, hl with
      | [c0, c1, c2], _ =>
        have hs := (World.cells?_some hc).2.2
        have t0' : DataW.trod enc Try.prog W 0 (fun _ => true) true q 9 [c0] = some y0 := by simpa [Try.cells9] using t0
        have t1' : DataW.trod enc Try.prog W 0 (fun _ => true) true q 9 [c1] = some y1 := by simpa [Try.cells9] using t1
        have t2' : DataW.trod enc Try.prog W 0 (fun _ => true) true q 3 [c2] = some y2 := by simpa [Try.cells3] using t2
        obtain ⟨k, e0, _, _⟩ := DataW.trod_string Try.underlying9 t0'
        obtain ⟨z, e1, _, _⟩ := DataW.trod_string Try.underlying9 t1'
        obtain ⟨s, e2, _, _⟩ := DataW.trod_int Try.underlying3 t2'
        simp at e0 e1 e2
        subst e0 e1 e2
        refine ⟨(k, z, s), ?_, ?_, ?_⟩
        · have := hs 0 (by omega)
          rw [Deep.add_add] at this
          simpa using this
        · have := hs 1 (by omega)
          rw [Deep.add_add] at this
          simpa using this
        · have := hs 2 (by omega)
          rw [Deep.add_add] at this
          simpa using this
    obtain ⟨f, hfs⟩ := Deep.choose_lt hone
    refine ⟨some x, _, (List.range len).map f, by simp, ?_, by simpa using hlc, hcm⟩
    intro i hi
    have hi' : i < len := by simpa using hi
    obtain ⟨b, off, spot⟩ := x
    have h0 := (hfs 0 (by omega)).1
    have hspot : spot = none := by simpa [Addr.add] using World.cell?_spot h0
    subst hspot
    obtain ⟨g0, g1, g2⟩ := hfs i hi'
    rw [add_lit4] at g0 g1 g2
    refine ⟨b, off, rfl, ?_, ?_, ?_⟩
    · simpa using g0
    · simpa [Nat.add_assoc] using g1
    · simpa [Nat.add_assoc] using g2

instance : Inhabited OpV := ⟨⟨0, ⟨#[]⟩, ⟨#[]⟩, ⟨#[]⟩, 0, none, 0, []⟩⟩

set_option maxRecDepth 100000 in
theorem open_ops4 {H : Type} {enc : TypeId × Value → H} {W : World} {base : Nat} {v : Value} {d : DataW H} {p : List MemPlace} (hv : Value.okWide Try.prog W .any base 23 v) (h : DataW.Trod enc Try.prog W 0 (fun _ => true) true 23 v d p) :
    ∃ (a : Option Addr) (cap : Nat) (l : List OpV), v = .slice a l.length cap ∧ ORow W a l ∧ l.length ≤ cap ∧ cap ≤ maxLen := by
  obtain ⟨a0, len, cap, rfl⟩ := okWide_slice Try.underlying23 hv
  obtain ⟨fuel, hf⟩ := h
  rcases Deep.open_slice Try.underlying23 hf with ⟨hcs, _⟩ | ⟨x, l, c, m, n, D, Pl, hcs, _, hlc, hcm, hm, _, hel⟩
  · simp [Value.cells] at hcs
    obtain ⟨rfl, rfl, rfl⟩ := hcs
    exact ⟨none, 0, [], rfl, fun i hi => absurd hi (by simp), Nat.le_refl _, Nat.zero_le _⟩
  · simp [Value.cells] at hcs
    obtain ⟨rfl, rfl, rfl⟩ := hcs
    simp at hm
    subst hm
    have hone : ∀ i, i < len → ∃ u : OpV, W.cell? (x.add (i * 6)) = some (.int .i64 u.what) ∧ W.cell? (x.add (i * 6 + 1)) = some (.string u.a) ∧ W.cell? (x.add (i * 6 + 2)) = some (.string u.b) ∧ W.cell? (x.add (i * 6 + 3)) = some (.string u.data) ∧
        W.cell? (x.add (i * 6 + 4)) = some (.int .i64 u.n) ∧ W.cell? (x.add (i * 6 + 5)) = some (.slice u.kp u.ks.length u.kc) ∧ Ints W u.kp u.ks ∧ u.ks.length ≤ u.kc ∧ u.n ≤ 9223372036854775807 := by
      intro i hi
      obtain ⟨cs, hc, ht⟩ := hel i (by omega)
      rw [Try.cellsOp] at hc
      obtain ⟨xs, q, _, _, hl, hlen, hfd⟩ := DataW.trod_struct Try.underlying39 ht
      rw [Try.cellsOp] at hl
      match cs, hl, xs, hlen with
      | [c0, c1, c2, c3, c4, c5], _, [y0, y1, y2, y3, y4, y5], _ =>
        have hs := (World.cells?_some hc).2.2
        have t0 := hfd 0 _ rfl
        have t1 := hfd 1 _ rfl
        have t2 := hfd 2 _ rfl
        have t3 := hfd 3 _ rfl
        have t4 := hfd 4 _ rfl
        have t5 := hfd 5 _ rfl
        simp [Try.cells9, Try.cells3, Try.cells37] at t0 t1 t2 t3 t4 t5
        obtain ⟨k0, e0, _, _⟩ := DataW.trod_int Try.underlying3 t0
        obtain ⟨k1, e1, _, _⟩ := DataW.trod_string Try.underlying9 t1
        obtain ⟨k2, e2, _, _⟩ := DataW.trod_string Try.underlying9 t2
        obtain ⟨k3, e3, _, _⟩ := DataW.trod_string Try.underlying9 t3
        obtain ⟨k4, e4, _, w4⟩ := DataW.trod_int Try.underlying3 t4
        obtain ⟨ka, kc, ks, e5, hin, hkl, _⟩ := ints_at t5
        simp at e0 e1 e2 e3 e4 e5
        subst e0 e1 e2 e3 e4 e5
        have g : ∀ j, j < 6 → W.cell? (x.add (i * 6 + j)) = some ([Value.int .i64 k0, .string k1, .string k2, .string k3, .int .i64 k4, .slice ka ks.length kc][j]?.getD .nilFunc) := fun j hj => by
          have := hs j (by simpa using hj)
          rw [Deep.add_add] at this
          rw [this]
          match j, hj with
          | 0, _ => rfl
          | 1, _ => rfl
          | 2, _ => rfl
          | 3, _ => rfl
          | 4, _ => rfl
          | 5, _ => rfl
        exact ⟨⟨k0, k1, k2, k3, k4, ka, kc, ks⟩, g 0 (by omega), g 1 (by omega), g 2 (by omega), g 3 (by omega), g 4 (by omega), g 5 (by omega), hin, hkl, (bounds_i64 w4).2⟩
    obtain ⟨f, hfs⟩ := Deep.choose_lt hone
    refine ⟨some x, _, (List.range len).map f, by simp, ?_, by simpa using hlc, hcm⟩
    intro i hi
    have hi' : i < len := by simpa using hi
    obtain ⟨b, off, spot⟩ := x
    have h0 := (hfs 0 (by omega)).1
    have hspot : spot = none := by simpa [Addr.add] using World.cell?_spot h0
    subst hspot
    obtain ⟨g0, g1, g2, g3, g4, g5, g6, g7, g8⟩ := hfs i hi'
    rw [add_lit4] at g0 g1 g2 g3 g4 g5
    have e : ((List.range len).map f)[i] = f i := by simp
    rw [e]
    exact ⟨b, off, rfl, g0, g1, g2, g3, g4, g5, g6, g7, g8⟩
end Go.Proofs.Ytejbelbfmchadaa
