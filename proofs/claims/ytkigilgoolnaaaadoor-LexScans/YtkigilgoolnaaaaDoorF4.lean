/- What the library's variables hold, out of a row's own list. -/
import Derived.Test.YtkigilgoolnaaaaDoorV1
import Derived.Lib.LaidTab
import Derived.Stop.LaidErr
namespace Go.Proofs.YtkigilgoolnaaaaDoor
open Go.Shelf Go.RowKit

theorem star_es : "*" ++ "errors.errorString" = "*errors.errorString" := by decide
theorem row_es (u : TypeId) (h : Tryd.prog.typeName? 3 u = some "*errors.errorString") : u = 109 :=
  typeName_ptr_named (nm := "errors.errorString") (by rw [star_es]; kernel_rfl) (by kernel_rfl) (by decide) u (by rw [star_es]; exact h)
theorem sv_of {W : World} (h : laidMet Tryd.prog Rows.lexValuesRow.laid W) : SV W := by
  have h3 := h.tail.tail
  have h4 := h3.tail
  have h5 := h4.tail
  refine ⟨Lib.tabIs_of_head (g := 1) (t := 87) (e := 74) (n := 20) (by kernel_rfl) (by kernel_rfl) Tryd.underlying87 Tryd.underlying74 (by kernel_rfl) (by kernel_rfl) h3, ?_, ?_⟩
  · obtain ⟨a, s, hv, -⟩ := laid_sentinel (g := 4) (ti := 81) (tp := 109) (te := 111) (ts := 9) h5 (by kernel_rfl) (by kernel_rfl) Tryd.underlying81 row_es Tryd.underlying109 Tryd.underlying111 rfl rfl Tryd.underlying9 (by kernel_rfl) (by kernel_rfl)
    exact ⟨_, _, hv⟩
  · obtain ⟨a, s, hv, -⟩ := laid_sentinel (g := 5) (ti := 81) (tp := 109) (te := 111) (ts := 9) h4 (by kernel_rfl) (by kernel_rfl) Tryd.underlying81 row_es Tryd.underlying109 Tryd.underlying111 rfl rfl Tryd.underlying9 (by kernel_rfl) (by kernel_rfl)
    exact ⟨_, _, hv⟩
end Go.Proofs.YtkigilgoolnaaaaDoor
