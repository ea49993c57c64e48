/- How what comes in is opened, layer 4: numbers, texts, truths, files, a swap, a script. -/
import Derived.Test.YtejbelbfmchadaaRows
import Derived.Test.YtejbelbfmchadaaD11
import Derived.Test.YtejbelbfmchadaaD12
import Derived.WalkKit
import Derived.ProofKit
import Derived.LaidMore
import Derived.OpenShut
import Derived.ShutString
import Derived.ChangeOld
import Derived.Below
import Derived.Lib.SmallJoins
import Derived.Deep.Slices
import Derived.Deep.Strs
import Derived.Stop.Joined
namespace Go.Proofs.Ytejbelbfmchadaa
open Go.ChangeShapes Go.WideShapes Go.ChangeAt Go.WideMaps Go.WideElems Go.RowKit
open Go.ChangeMaps (open_string shut_string)

theorem Try.own : ownKnob Try.prog.godebug = none := by kernel_rfl
theorem Try.laidOut : laidOutB Try.prog = true := by kernel_rfl
theorem Try.cells3 : Try.prog.cellsOf 3 = 1 := by kernel_rfl
theorem Try.cells4 : Try.prog.cellsOf 4 = 1 := by kernel_rfl
theorem Try.cells9 : Try.prog.cellsOf 9 = 1 := by kernel_rfl
theorem Try.cells37 : Try.prog.cellsOf 37 = 1 := by kernel_rfl
theorem Try.cellsFile : Try.prog.cellsOf 27 = 3 := by kernel_rfl
theorem Try.cellsSwap : Try.prog.cellsOf 58 = 4 := by kernel_rfl
theorem Try.cellsOp : Try.prog.cellsOf 39 = 6 := by kernel_rfl

/-- Texts, truths in a slice. -/
def Strs (w : World) (p : Option Addr) (l : List ByteArray) : Prop := ∀ i (h : i < l.length), ∃ b off, p = some ⟨b, off, none⟩ ∧ w.cell? ⟨b, off + i, none⟩ = some (.string l[i])
def Bools (w : World) (p : Option Addr) (l : List Bool) : Prop := ∀ i (h : i < l.length), ∃ b off, p = some ⟨b, off, none⟩ ∧ w.cell? ⟨b, off + i, none⟩ = some (.bool l[i])

theorem slice_one {α : Type} [Inhabited α] (mk : α → Value) {H : Type} {enc : TypeId × Value → H} {W : World} {fuel : Nat} {t e : TypeId} {cs : List Value} {x : DataW H × List MemPlace} (ht : Try.prog.underlying t = some (.slice e)) (hc : Try.prog.cellsOf e = 1)
    (h : DataW.trod enc Try.prog W 0 (fun _ => true) true fuel t cs = some x) (hmk : ∀ n v y, DataW.trod enc Try.prog W 0 (fun _ => true) true n e [v] = some y → ∃ z, v = mk z) :
    ∃ (p : Option Addr) (cap : Nat) (l : List α), cs = [.slice p l.length cap] ∧ (∀ i (h : i < l.length), ∃ b off, p = some ⟨b, off, none⟩ ∧ W.cell? ⟨b, off + i, none⟩ = some (mk l[i])) ∧ l.length ≤ cap ∧ cap ≤ maxLen := by
  rcases Deep.open_slice1 ht hc h with ⟨rfl, _⟩ | ⟨a, len, cap, m, n, V, D, Pl, rfl, _, hl, hm, hmm, _, hx⟩
  · exact ⟨none, 0, [], rfl, fun i hi => absurd hi (by simp), Nat.le_refl _, Nat.zero_le _⟩
  · simp at hmm
    subst hmm
    have hone : ∀ i, i < len → ∃ z, W.cell? (a.add i) = some (mk z) := fun i hi => by
      obtain ⟨h1, h2⟩ := hx i (by omega)
      obtain ⟨z, e⟩ := hmk _ _ _ h2
      exact ⟨z, by rw [h1, e]⟩
    obtain ⟨f, hf⟩ := Deep.choose_lt hone
    refine ⟨some a, m, (List.range len).map f, by simp, fun i hi => ?_, by simpa using hl, hm⟩
    have hi' : i < len := by simpa using hi
    obtain ⟨b, off, spot⟩ := a
    have h0 := hf 0 (by omega)
    have hspot : spot = none := by simpa [Addr.add] using World.cell?_spot h0
    subst hspot
    have hadd : (⟨b, off, none⟩ : Addr).add i = ⟨b, off + i, none⟩ := by unfold Addr.add; split <;> simp_all
    have := hf i hi'
    rw [hadd] at this
    exact ⟨b, off, rfl, by simpa using this⟩
set_option maxRecDepth 100000 in
theorem ints_at {H : Type} {enc : TypeId × Value → H} {W : World} {fuel : Nat} {cs : List Value} {x : DataW H × List MemPlace} (h : DataW.trod enc Try.prog W 0 (fun _ => true) true fuel 37 cs = some x) :
    ∃ (p : Option Addr) (cap : Nat) (l : List Int), cs = [.slice p l.length cap] ∧ Ints W p l ∧ l.length ≤ cap ∧ cap ≤ maxLen :=
  slice_one (Value.int .i64) Try.underlying37 Try.cells3 h fun n v y hy => by
    obtain ⟨k, e, _, _⟩ := DataW.trod_int Try.underlying3 hy
    simp at e
    exact ⟨k, e⟩
set_option maxRecDepth 100000 in
theorem open_ints4 {H : Type} {enc : TypeId × Value → H} {W : World} {base : Nat} {v : Value} {d : DataW H} {p : List MemPlace} (hv : Value.okWide Try.prog W .any base 37 v) (h : DataW.Trod enc Try.prog W 0 (fun _ => true) true 37 v d p) :
    ∃ (a : Option Addr) (cap : Nat) (l : List Int), v = .slice a l.length cap ∧ Ints W a l ∧ l.length ≤ cap ∧ cap ≤ maxLen := by
  obtain ⟨a0, len, cap, rfl⟩ := okWide_slice Try.underlying37 hv
  obtain ⟨fuel, hf⟩ := h
  obtain ⟨a, cap', l, e, r⟩ := ints_at hf
  exact ⟨a, cap', l, by simpa [Value.cells] using e, r⟩
set_option maxRecDepth 100000 in
theorem open_strs4 {H : Type} {enc : TypeId × Value → H} {W : World} {base : Nat} {v : Value} {d : DataW H} {p : List MemPlace} (hv : Value.okWide Try.prog W .any base 51 v) (h : DataW.Trod enc Try.prog W 0 (fun _ => true) true 51 v d p) :
    ∃ (a : Option Addr) (cap : Nat) (l : List ByteArray), v = .slice a l.length cap ∧ Strs W a l ∧ l.length ≤ cap ∧ cap ≤ maxLen := by
  obtain ⟨a0, len, cap, rfl⟩ := okWide_slice Try.underlying51 hv
  obtain ⟨fuel, hf⟩ := h
  obtain ⟨a, cap', l, e, r⟩ := slice_one Value.string Try.underlying51 Try.cells9 hf fun n v y hy => by
    obtain ⟨k, e, _, _⟩ := DataW.trod_string Try.underlying9 hy
    simp at e
    exact ⟨k, e⟩
  exact ⟨a, cap', l, by simpa [Value.cells] using e, r⟩
set_option maxRecDepth 100000 in
theorem open_bools4 {H : Type} {enc : TypeId × Value → H} {W : World} {base : Nat} {v : Value} {d : DataW H} {p : List MemPlace} (hv : Value.okWide Try.prog W .any base 52 v) (h : DataW.Trod enc Try.prog W 0 (fun _ => true) true 52 v d p) :
    ∃ (a : Option Addr) (cap : Nat) (l : List Bool), v = .slice a l.length cap ∧ Bools W a l ∧ l.length ≤ cap ∧ cap ≤ maxLen := by
  obtain ⟨a0, len, cap, rfl⟩ := okWide_slice Try.underlying52 hv
  obtain ⟨fuel, hf⟩ := h
  obtain ⟨a, cap', l, e, r⟩ := slice_one Value.bool Try.underlying52 Try.cells4 hf fun n v y hy => by
    obtain ⟨k, e, _⟩ := DataW.trod_bool Try.underlying4 hy
    simp at e
    exact ⟨k, e⟩
  exact ⟨a, cap', l, by simpa [Value.cells] using e, r⟩
set_option maxRecDepth 100000 in
theorem open_swap {H : Type} {enc : TypeId × Value → H} {W : World} {base : Nat} {v : Value} {d : DataW H} {p : List MemPlace} (hv : Value.okWide Try.prog W .any base 58 v) (h : DataW.Trod enc Try.prog W 0 (fun _ => true) true 58 v d p) :
    ∃ (o f : ByteArray) (fall : Int) (a : Option Addr) (cap : Nat) (ks : List Int), v = .agg #[.string o, .string f, .int .i64 fall, .slice a ks.length cap] ∧ fall ≤ 9223372036854775807 ∧ Ints W a ks ∧ ks.length ≤ cap := by
  obtain ⟨v0, v1, v2, v3, y0, y1, y2, y3, m, rfl, rfl, rfl, t0, t1, t2, t3⟩ := Joins.open_agg4 Try.underlying58 (by kernel_rfl) Try.cellsSwap hv h
  obtain ⟨o, e0, _, _⟩ := DataW.trod_string Try.underlying9 t0
  obtain ⟨f, e1, _, _⟩ := DataW.trod_string Try.underlying9 t1
  obtain ⟨k, e2, _, wk⟩ := DataW.trod_int Try.underlying3 t2
  obtain ⟨a, cap, ks, e3, hi, hl, _⟩ := ints_at t3
  simp at e0 e1 e2 e3
  subst e0 e1 e2 e3
  exact ⟨o, f, k, a, cap, ks, rfl, (bounds_i64 wk).2, hi, hl⟩
end Go.Proofs.Ytejbelbfmchadaa
