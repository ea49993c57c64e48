/- How what comes in is opened, layer 7: a list of pairs, parts, numbers. -/
import Derived.Test.YtlpannicklkghaaRows
import Derived.Test.YtlpannicklkghaaB29
import Derived.WalkKit
import Derived.ProofKit
import Derived.LaidMore
import Derived.OpenShut
import Derived.ShutString
import Derived.ChangeOld
import Derived.Below
import Derived.Lib.SmallJoins
import Derived.Deep.Slices
import Derived.Deep.Strs
import Derived.Stop.Joined
import Derived.SizedLaws
namespace Go.Proofs.Ytlpannicklkghaa
open Go.ChangeShapes Go.WideShapes Go.ChangeAt Go.WideMaps Go.WideElems Go.RowKit
open Go.ChangeMaps (open_string shut_string)

theorem Try.own : ownKnob Try.prog.godebug = none := by kernel_rfl
theorem Try.laidOut : laidOutB Try.prog = true := by kernel_rfl
theorem Try.cells9 : Try.prog.cellsOf 9 = 1 := by kernel_rfl
theorem Try.cells3 : Try.prog.cellsOf 3 = 1 := by kernel_rfl
theorem Try.cellsPair : Try.prog.cellsOf 27 = 2 := by kernel_rfl
theorem Try.cellsParts : Try.prog.cellsOf 63 = 4 := by kernel_rfl
theorem add_lit7 (b off j : Nat) : (⟨b, off, none⟩ : Addr).add j = ⟨b, off + j, none⟩ := by unfold Addr.add; split <;> simp_all

set_option maxRecDepth 100000 in
theorem pairs_at {H : Type} {enc : TypeId × Value → H} {W : World} {fuel : Nat} {a0 : Option Addr} {len cap : Nat} {d : DataW H × List MemPlace} (hf : DataW.trod enc Try.prog W 0 (fun _ => true) true fuel 22 [.slice a0 len cap] = some d) :
    ∃ (a : Option Addr) (c : Nat) (l : List Pr), (Value.slice a0 len cap) = .slice a l.length c ∧ PRow W a l ∧ l.length ≤ c ∧ c ≤ maxLen := by
  rcases Deep.open_slice Try.underlying22 hf with ⟨hcs, _⟩ | ⟨x, l, c, m, n, D, Pl, hcs, _, hlc, hcm, hm, hx, hel⟩
  · simp at hcs
    obtain ⟨rfl, rfl, rfl⟩ := hcs
    exact ⟨none, 0, [], rfl, fun i hi => absurd hi (by simp), Nat.le_refl _, Nat.zero_le _⟩
  · simp at hcs
    obtain ⟨rfl, rfl, rfl⟩ := hcs
    simp at hm
    subst hm
    have hone : ∀ i, i < len → ∃ u : Pr, W.cell? (x.add (i * 2)) = some (.string u.1) ∧ W.cell? (x.add (i * 2 + 1)) = some (.string u.2) := by
      intro i hi
      obtain ⟨cs, hc, ht⟩ := hel i (by omega)
      rw [Try.cellsPair] at hc
      obtain ⟨xs, q, _, hxe, hl, hlen, hfd⟩ := DataW.trod_struct Try.underlying27 ht
      rw [Try.cellsPair] at hl
      match cs, hl, xs, hlen with
      | [c0, c1], _, [y0, y1], _ =>
        have hs := (World.cells?_some hc).2.2
        have t0 := hfd 0 _ rfl
        have t1 := hfd 1 _ rfl
        simp [Try.cells9] at t0 t1
        obtain ⟨k0, e0, _, _⟩ := DataW.trod_string Try.underlying9 t0
        obtain ⟨k1, e1, _, _⟩ := DataW.trod_string Try.underlying9 t1
        simp at e0 e1
        subst e0 e1
        have g : ∀ j, j < 2 → W.cell? (x.add (i * 2 + j)) = some ([Value.string k0, .string k1][j]?.getD .nilFunc) := fun j hj => by
          have := hs j (by simpa using hj)
          rw [Deep.add_add] at this
          rw [this]
          match j, hj with
          | 0, _ => rfl
          | 1, _ => rfl
        exact ⟨(k0, k1), g 0 (by omega), g 1 (by omega)⟩
    obtain ⟨f, hfs⟩ := Deep.choose_lt hone
    refine ⟨some x, _, (List.range len).map f, by simp, ?_, by simpa using hlc, hcm⟩
    intro i hi
    have hi' : i < len := by simpa using hi
    obtain ⟨b, off, spot⟩ := x
    have h0 := (hfs 0 (by omega)).1
    have hspot : spot = none := by simpa [Addr.add] using World.cell?_spot h0
    subst hspot
    obtain ⟨g0, g1⟩ := hfs i hi'
    rw [add_lit7] at g0 g1
    have e : ((List.range len).map f)[i] = f i := by simp
    rw [e]
    exact ⟨b, off, rfl, g0, g1⟩
set_option maxRecDepth 100000 in
theorem open_pairs7 {H : Type} {enc : TypeId × Value → H} {W : World} {base : Nat} {v : Value} {d : DataW H} {p : List MemPlace} (hv : Value.okWide Try.prog W .any base 22 v) (h : DataW.Trod enc Try.prog W 0 (fun _ => true) true 22 v d p) :
    ∃ (a : Option Addr) (cap : Nat) (l : List Pr), v = .slice a l.length cap ∧ PRow W a l ∧ l.length ≤ cap ∧ cap ≤ maxLen := by
  obtain ⟨a0, len, cap, rfl⟩ := okWide_slice Try.underlying22 hv
  obtain ⟨fuel, hf⟩ := h
  exact pairs_at hf
set_option maxRecDepth 100000 in
theorem open_parts7 {H : Type} {enc : TypeId × Value → H} {W : World} {base : Nat} {v : Value} {d : DataW H} {p : List MemPlace} (hv : Value.okWide Try.prog W .any base 63 v) (h : DataW.Trod enc Try.prog W 0 (fun _ => true) true 63 v d p) :
    ∃ (a : Option Addr) (cap : Nat) (l : List Pr) (f m t : ByteArray), v = .agg #[.slice a l.length cap, .string f, .string m, .string t] ∧ PRow W a l ∧ l.length ≤ cap ∧ cap ≤ maxLen := by
  obtain ⟨v0, v1, v2, v3, y0, y1, y2, y3, m, rfl, rfl, rfl, t0, t1, t2, t3⟩ := Joins.open_agg4 Try.underlying63 (by kernel_rfl) Try.cellsParts hv h
  obtain ⟨o, e1, _, _⟩ := DataW.trod_string Try.underlying9 t1
  obtain ⟨f, e2, _, _⟩ := DataW.trod_string Try.underlying9 t2
  obtain ⟨k, e3, _, _⟩ := DataW.trod_string Try.underlying9 t3
  have hsl : ∃ a0 len cap, v0 = .slice a0 len cap := by
    rcases Deep.open_slice Try.underlying22 t0 with ⟨hcs, _⟩ | ⟨x, l, c, m, n, D, Pl, hcs, _⟩
    · exact ⟨_, _, _, by simpa using hcs⟩
    · exact ⟨_, _, _, by simpa using hcs⟩
  obtain ⟨a0, len, cap, rfl⟩ := hsl
  obtain ⟨a, c, l, e0, hr, hl, hc⟩ := pairs_at t0
  simp at e1 e2 e3
  subst e1 e2 e3
  rw [e0]
  exact ⟨a, c, l, o, f, k, rfl, hr, hl, hc⟩
end Go.Proofs.Ytlpannicklkghaa
/- How what comes in is opened, layer 7: a script; how long a slice is that came in. -/
namespace Go.Proofs.Ytlpannicklkghaa
open Go.ChangeShapes Go.WideShapes Go.ChangeAt Go.WideMaps Go.WideElems Go.RowKit
open Go.ChangeMaps (open_string shut_string)

theorem Try.bytesPair7 : Try.prog.bytesOf 27 = 32 := by kernel_rfl
theorem Try.bytesOp7 : Try.prog.bytesOf 43 = 48 := by kernel_rfl
theorem Try.cellsOp7 : Try.prog.cellsOf 43 = 4 := by kernel_rfl
theorem sized_len7 {H : Type} {P : Program} {ts : List TypeId} {ds : List (DataW H)} (h : (DataW.weightsEach P ts ds).all (· ≤ reachBytes) = true) {j : Nat} {t e : TypeId} {d : DataW H} (ht : ts[j]? = some t) (hd : ds[j]? = some d) (hu : P.underlying t = some (.slice e)) : Joins.sliceLen d * P.bytesOf e ≤ reachBytes := by
  cases d with
  | slice el sp =>
    have := sized_slice h ht hd hu
    refine Nat.le_trans (Nat.mul_le_mul_right _ ?_) this
    exact Nat.le_add_right _ _
  | _ => simp [Joins.sliceLen]
instance : Inhabited OpS := ⟨⟨0, ⟨#[]⟩, ⟨#[]⟩, 0⟩⟩

set_option maxRecDepth 100000 in
theorem open_ops7 {H : Type} {enc : TypeId × Value → H} {W : World} {base : Nat} {v : Value} {d : DataW H} {p : List MemPlace} (hv : Value.okWide Try.prog W .any base 23 v) (h : DataW.Trod enc Try.prog W 0 (fun _ => true) true 23 v d p) :
    ∃ (a : Option Addr) (cap : Nat) (l : List OpS), v = .slice a l.length cap ∧ ORow7 W a l ∧ l.length ≤ cap ∧ cap ≤ maxLen := by
  obtain ⟨a0, len, cap, rfl⟩ := okWide_slice Try.underlying23 hv
  obtain ⟨fuel, hf⟩ := h
  rcases Deep.open_slice Try.underlying23 hf with ⟨hcs, _⟩ | ⟨x, l, c, m, n, D, Pl, hcs, _, hlc, hcm, hm, hx, hel⟩
  · simp [Value.cells] at hcs
    obtain ⟨rfl, rfl, rfl⟩ := hcs
    exact ⟨none, 0, [], rfl, fun i hi => absurd hi (by simp), Nat.le_refl _, Nat.zero_le _⟩
  · simp [Value.cells] at hcs
    obtain ⟨rfl, rfl, rfl⟩ := hcs
    simp at hm
    subst hm
    have hone : ∀ i, i < len → ∃ u : OpS, W.cell? (x.add (i * 4)) = some (.int .i64 u.what) ∧ W.cell? (x.add (i * 4 + 1)) = some (.string u.key) ∧ W.cell? (x.add (i * 4 + 2)) = some (.string u.val) ∧ W.cell? (x.add (i * 4 + 3)) = some (.int .i64 u.n) := by
      intro i hi
      obtain ⟨cs, hc, ht⟩ := hel i (by omega)
      rw [Try.cellsOp7] at hc
      obtain ⟨xs, q, _, hxe, hl, hlen, hfd⟩ := DataW.trod_struct Try.underlying43 ht
      rw [Try.cellsOp7] at hl
      match cs, hl, xs, hlen with
      | [c0, c1, c2, c3], _, [y0, y1, y2, y3], _ =>
        have hs := (World.cells?_some hc).2.2
        have t0 := hfd 0 _ rfl
        have t1 := hfd 1 _ rfl
        have t2 := hfd 2 _ rfl
        have t3 := hfd 3 _ rfl
        simp [Try.cells9, Try.cells3] at t0 t1 t2 t3
        obtain ⟨k0, e0, _, _⟩ := DataW.trod_int Try.underlying3 t0
        obtain ⟨k1, e1, _, _⟩ := DataW.trod_string Try.underlying9 t1
        obtain ⟨k2, e2, _, _⟩ := DataW.trod_string Try.underlying9 t2
        obtain ⟨k3, e3, _, _⟩ := DataW.trod_int Try.underlying3 t3
        simp at e0 e1 e2 e3
        subst e0 e1 e2 e3
        have g : ∀ j, j < 4 → W.cell? (x.add (i * 4 + j)) = some ([Value.int .i64 k0, .string k1, .string k2, .int .i64 k3][j]?.getD .nilFunc) := fun j hj => by
          have := hs j (by simpa using hj)
          rw [Deep.add_add] at this
          rw [this]
          match j, hj with
          | 0, _ => rfl
          | 1, _ => rfl
          | 2, _ => rfl
          | 3, _ => rfl
        exact ⟨⟨k0, k1, k2, k3⟩, g 0 (by omega), g 1 (by omega), g 2 (by omega), g 3 (by omega)⟩
    obtain ⟨f, hfs⟩ := Deep.choose_lt hone
    refine ⟨some x, _, (List.range len).map f, by simp, ?_, by simpa using hlc, hcm⟩
    intro i hi
    have hi' : i < len := by simpa using hi
    obtain ⟨b, off, spot⟩ := x
    have h0 := (hfs 0 (by omega)).1
    have hspot : spot = none := by simpa [Addr.add] using World.cell?_spot h0
    subst hspot
    obtain ⟨g0, g1, g2, g3⟩ := hfs i hi'
    rw [add_lit7] at g0 g1 g2 g3
    have e : ((List.range len).map f)[i] = f i := by simp
    rw [e]
    exact ⟨b, off, rfl, ⟨g0, g1, g2, g3⟩⟩
end Go.Proofs.Ytlpannicklkghaa
