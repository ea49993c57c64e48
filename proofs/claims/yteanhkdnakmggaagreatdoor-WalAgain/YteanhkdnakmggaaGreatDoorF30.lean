/- How what comes in is opened, layer 6: a list of texts; what the library's variables hold, out of a row's own list. -/
import Derived.Test.YteanhkdnakmggaaGreatDoorRows
import Derived.Test.YteanhkdnakmggaaGreatDoorJ8
import Derived.Lib.LaidTab
import Derived.Stop.LaidErr
import Derived.WalkKit
import Derived.ProofKit
import Derived.LaidMore
import Derived.OpenShut
import Derived.ShutString
import Derived.ChangeOld
import Derived.Below
import Derived.Lib.SmallJoins
import Derived.Deep.Slices
import Derived.Deep.Strs
import Derived.Stop.Joined
namespace Go.Proofs.YteanhkdnakmggaaGreatDoor
open Go.Shelf Go.ChangeShapes Go.WideShapes Go.ChangeAt Go.WideMaps Go.WideElems Go.RowKit
open Go.ChangeMaps (open_string shut_string)

theorem Tryz.own : ownKnob Tryz.prog.godebug = none := by kernel_rfl
theorem Tryz.laidOut : laidOutB Tryz.prog = true := by kernel_rfl
theorem Tryz.cells9 : Tryz.prog.cellsOf 9 = 1 := by kernel_rfl

theorem slice_one {α : Type} [Inhabited α] (mk : α → Value) {H : Type} {enc : TypeId × Value → H} {W : World} {fuel : Nat} {t e : TypeId} {cs : List Value} {x : DataW H × List MemPlace} (ht : Tryz.prog.underlying t = some (.slice e)) (hc : Tryz.prog.cellsOf e = 1)
    (h : DataW.trod enc Tryz.prog W 0 (fun _ => true) true fuel t cs = some x) (hmk : ∀ n v y, DataW.trod enc Tryz.prog W 0 (fun _ => true) true n e [v] = some y → ∃ z, v = mk z) :
    ∃ (p : Option Addr) (cap : Nat) (l : List α), cs = [.slice p l.length cap] ∧ (∀ i (h : i < l.length), ∃ b off, p = some ⟨b, off, none⟩ ∧ W.cell? ⟨b, off + i, none⟩ = some (mk l[i])) ∧ l.length ≤ cap ∧ cap ≤ maxLen := by
  rcases Deep.open_slice1 ht hc h with ⟨rfl, _⟩ | ⟨a, len, cap, m, n, V, D, Pl, rfl, _, hl, hm, hmm, _, hx⟩
  · exact ⟨none, 0, [], rfl, fun i hi => absurd hi (by simp), Nat.le_refl _, Nat.zero_le _⟩
  · simp at hmm
    subst hmm
    have hone : ∀ i, i < len → ∃ z, W.cell? (a.add i) = some (mk z) := fun i hi => by
      obtain ⟨h1, h2⟩ := hx i (by omega)
      obtain ⟨z, e⟩ := hmk _ _ _ h2
      exact ⟨z, by rw [h1, e]⟩
    obtain ⟨f, hf⟩ := Deep.choose_lt hone
    refine ⟨some a, m, (List.range len).map f, by simp, fun i hi => ?_, by simpa using hl, hm⟩
    have hi' : i < len := by simpa using hi
    obtain ⟨b, off, spot⟩ := a
    have h0 := hf 0 (by omega)
    have hspot : spot = none := by simpa [Addr.add] using World.cell?_spot h0
    subst hspot
    have hadd : (⟨b, off, none⟩ : Addr).add i = ⟨b, off + i, none⟩ := by unfold Addr.add; split <;> simp_all
    have := hf i hi'
    rw [hadd] at this
    exact ⟨b, off, rfl, by simpa using this⟩
set_option maxRecDepth 100000 in
theorem open_strs4 {H : Type} {enc : TypeId × Value → H} {W : World} {base : Nat} {v : Value} {d : DataW H} {p : List MemPlace} (hv : Value.okWide Tryz.prog W .any base 44 v) (h : DataW.Trod enc Tryz.prog W 0 (fun _ => true) true 44 v d p) :
    ∃ (a : Option Addr) (cap : Nat) (l : List ByteArray), v = .slice a l.length cap ∧ Strs W a l ∧ l.length ≤ cap ∧ cap ≤ maxLen := by
  obtain ⟨a0, len, cap, rfl⟩ := okWide_slice Tryz.underlying44 hv
  obtain ⟨fuel, hf⟩ := h
  obtain ⟨a, cap', l, e, r⟩ := slice_one Value.string Tryz.underlying44 Tryz.cells9 hf fun n v y hy => by
    obtain ⟨k, e, _, _⟩ := DataW.trod_string Tryz.underlying9 hy
    simp at e
    exact ⟨k, e⟩
  exact ⟨a, cap', l, by simpa [Value.cells] using e, r⟩

theorem star_es : "*" ++ "errors.errorString" = "*errors.errorString" := by decide
theorem row_es (u : TypeId) (h : Tryz.prog.typeName? 3 u = some "*errors.errorString") : u = 184 :=
  typeName_ptr_named (nm := "errors.errorString") (by rw [star_es]; kernel_rfl) (by kernel_rfl) (by decide) u (by rw [star_es]; exact h)
theorem sv_of {W : World} (h : laidMet Tryz.prog Rows.walSegmentsRow.laid W) : SV W.heap.size W := by
  have h3 := h.tail.tail
  have h4 := h3.tail
  have h5 := h4.tail
  have h0 : SV0 W := by
    refine ⟨Lib.tabIs_of_head (g := 2) (t := 191) (e := 166) (n := 20) (by kernel_rfl) (by kernel_rfl) Tryz.underlying191 Tryz.underlying166 (by kernel_rfl) (by kernel_rfl) h3, ?_, ?_⟩
    · obtain ⟨a, s, hv, -⟩ := laid_sentinel (g := 0) (ti := 136) (tp := 184) (te := 186) (ts := 9) h5 (by kernel_rfl) (by kernel_rfl) Tryz.underlying136 row_es Tryz.underlying184 Tryz.underlying186 rfl rfl Tryz.underlying9 (by kernel_rfl) (by kernel_rfl)
      exact ⟨_, _, hv⟩
    · obtain ⟨a, s, hv, -⟩ := laid_sentinel (g := 1) (ti := 136) (tp := 184) (te := 186) (ts := 9) h4 (by kernel_rfl) (by kernel_rfl) Tryz.underlying136 row_es Tryz.underlying184 Tryz.underlying186 rfl rfl Tryz.underlying9 (by kernel_rfl) (by kernel_rfl)
      exact ⟨_, _, hv⟩
  exact fun w' hb => h0.later hb
end Go.Proofs.YteanhkdnakmggaaGreatDoor
