/- F4 -/
import Derived.Test.YtffalonhkemieaaGreatDoorSV1
import Derived.Lib.LaidTab
import Derived.Stop.LaidErr
namespace Go.Proofs.YtffalonhkemieaaGreatDoor
open Go.Shelf Go.RowKit
theorem star_es : "*" ++ "errors.errorString" = "*errors.errorString" := by decide

theorem row_es (u : TypeId) (h : Tryz.prog.typeName? 3 u = some "*errors.errorString") : u = 189 :=
 typeName_ptr_named (nm := "errors.errorString") (by rw [star_es]; kernel_rfl) (by kernel_rfl) (by decide) u (by rw [star_es]; exact h)

theorem sv_of {W : World} (h : laidMet Tryz.prog Rows.syntaxTreesRow.laid W) : SV W:=by
 have h3:=h.tail.tail
 have h4:=h3.tail
 have h5:=h4.tail
 refine ⟨Lib.tabIs_of_head (g:=3) (t:=194) (e:=175) (n:=20) (by kernel_rfl) (by kernel_rfl) Tryz.underlying194 Tryz.underlying175 (by kernel_rfl) (by kernel_rfl) h3,?_,?_⟩
 ·obtain ⟨a,s,hv,-⟩:=laid_sentinel (g:=1) (ti:=155) (tp:=189) (te:=191) (ts:=9) h5 (by kernel_rfl) (by kernel_rfl) Tryz.underlying155 row_es Tryz.underlying189 Tryz.underlying191 rfl rfl Tryz.underlying9 (by kernel_rfl) (by kernel_rfl)
  exact ⟨_,_,hv⟩
 ·obtain ⟨a,s,hv,-⟩:=laid_sentinel (g:=2) (ti:=155) (tp:=189) (te:=191) (ts:=9) h4 (by kernel_rfl) (by kernel_rfl) Tryz.underlying155 row_es Tryz.underlying189 Tryz.underlying191 rfl rfl Tryz.underlying9 (by kernel_rfl) (by kernel_rfl)
  exact ⟨_,_,hv⟩
end Go.Proofs.YtffalonhkemieaaGreatDoor
