/- How a value, and a list of values, that comes in is opened. -/
import Derived.Test.YtmfplnodafodoaaGreatDoorRows
import Derived.Test.YtmfplnodafodoaaGreatDoorX1M
import Derived.WalkKit
import Derived.ProofKit
import Derived.LaidMore
import Derived.OpenShut
import Derived.ShutString
import Derived.ChangeOld
import Derived.Below
import Derived.Lib.SmallJoins
import Derived.Deep.Slices
import Derived.Deep.Strs
import Derived.Stop.Joined
import Derived.Test.YtmfplnodafodoaaGreatDoorX11V
import Derived.Lib.LaidTab
import Derived.Stop.LaidErr
namespace Go.Proofs.YtmfplnodafodoaaGreatDoor
open Go.ChangeShapes Go.WideShapes Go.ChangeAt Go.WideMaps Go.WideElems Go.RowKit
open Go.ChangeMaps (open_string shut_string)

theorem Tryz.own : ownKnob Tryz.prog.godebug = none := by kernel_rfl
theorem Tryz.laidOut : laidOutB Tryz.prog = true := by kernel_rfl
theorem Tryz.cells23 : Tryz.prog.cellsOf 46 = 3 := by kernel_rfl

set_option maxRecDepth 100000 in
theorem open_val {H : Type} {enc : TypeId × Value → H} {W : World} {base : Nat} {v : Value} {d : DataW H} {p : List MemPlace}
    (hv : Value.okWide Tryz.prog W .any base 46 v) (h : DataW.Trod enc Tryz.prog W 0 (fun _ => true) true 46 v d p) :
    ∃ (k n : Int) (s : ByteArray), v = .agg #[.int .i64 k, .int .i64 n, .string s] ∧ -9223372036854775808 ≤ k ∧ k ≤ 9223372036854775807 ∧ -9223372036854775808 ≤ n ∧ n ≤ 9223372036854775807 ∧ s.size ≤ maxLen := by
  obtain ⟨v0, v1, v2, y0, y1, y2, m, rfl, rfl, rfl, t0, t1, t2⟩ := Joins.open_agg3 Tryz.underlying46 (by kernel_rfl) Tryz.cells23 hv h
  obtain ⟨k, e0, _, wk⟩ := DataW.trod_int Tryz.underlying3 t0
  obtain ⟨n, e1, _, wn⟩ := DataW.trod_int Tryz.underlying3 t1
  obtain ⟨s, e2, _, hs⟩ := DataW.trod_string Tryz.underlying9 t2
  simp at e0 e1 e2
  subst e0 e1 e2
  have b0 := bounds_i64 wk
  have b1 := bounds_i64 wn
  exact ⟨k, n, s, rfl, b0.1, b0.2, b1.1, b1.2, hs⟩
end Go.Proofs.YtmfplnodafodoaaGreatDoor
/- What the library's variables hold, out of a row's own list. -/
namespace Go.Proofs.YtmfplnodafodoaaGreatDoor
open Go.Shelf Go.RowKit

theorem star_es : "*" ++ "errors.errorString" = "*errors.errorString" := by decide
theorem row_es (u : TypeId) (h : Tryz.prog.typeName? 3 u = some "*errors.errorString") : u = 189 :=
  typeName_ptr_named (nm := "errors.errorString") (by rw [star_es]; kernel_rfl) (by kernel_rfl) (by decide) u (by rw [star_es]; exact h)
theorem sv_of {W : World} (h : laidMet Tryz.prog Rows.syntaxTreesRow.laid W) : SV W := by
  have h3 := h.tail.tail
  have h4 := h3.tail
  have h5 := h4.tail
  refine ⟨Lib.tabIs_of_head (g := 3) (t := 194) (e := 175) (n := 20) (by kernel_rfl) (by kernel_rfl) Tryz.underlying194 Tryz.underlying175 (by kernel_rfl) (by kernel_rfl) h3, ?_, ?_⟩
  · obtain ⟨a, s, hv, -⟩ := laid_sentinel (g := 1) (ti := 155) (tp := 189) (te := 191) (ts := 9) h5 (by kernel_rfl) (by kernel_rfl) Tryz.underlying155 row_es Tryz.underlying189 Tryz.underlying191 rfl rfl Tryz.underlying9 (by kernel_rfl) (by kernel_rfl)
    exact ⟨_, _, hv⟩
  · obtain ⟨a, s, hv, -⟩ := laid_sentinel (g := 2) (ti := 155) (tp := 189) (te := 191) (ts := 9) h4 (by kernel_rfl) (by kernel_rfl) Tryz.underlying155 row_es Tryz.underlying189 Tryz.underlying191 rfl rfl Tryz.underlying9 (by kernel_rfl) (by kernel_rfl)
    exact ⟨_, _, hv⟩
end Go.Proofs.YtmfplnodafodoaaGreatDoor
