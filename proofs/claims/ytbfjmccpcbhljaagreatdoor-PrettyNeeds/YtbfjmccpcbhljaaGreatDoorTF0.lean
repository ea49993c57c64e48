/- F0 F4 -/
import Derived.Test.YtbfjmccpcbhljaaGreatDoorRows
import Derived.WalkKit
import Derived.ProofKit
import Derived.LaidMore
import Derived.OpenShut
import Derived.ShutString
import Derived.ChangeOld
import Derived.Below
import Derived.Lib.SmallJoins
import Derived.Deep.Slices
import Derived.Deep.Strs
import Derived.Stop.Joined
import Derived.Test.YtbfjmccpcbhljaaGreatDoorTV1
import Derived.Lib.LaidTab
import Derived.Stop.LaidErr
namespace Go.Proofs.YtbfjmccpcbhljaaGreatDoor
open Go.ChangeShapes Go.WideShapes Go.ChangeAt Go.WideMaps Go.WideElems Go.RowKit
open Go.ChangeMaps (open_string shut_string)
theorem Tryz.own : ownKnob Tryz.prog.godebug = none:=by kernel_rfl

theorem Tryz.laidOut : laidOutB Tryz.prog = true:=by kernel_rfl
end Go.Proofs.YtbfjmccpcbhljaaGreatDoor

namespace Go.Proofs.YtbfjmccpcbhljaaGreatDoor
open Go.Shelf Go.RowKit
theorem star_es : "*" ++ "errors.errorString" = "*errors.errorString" := by decide

theorem row_es (u : TypeId) (h : Tryz.prog.typeName? 3 u = some "*errors.errorString") : u = 201 :=
 typeName_ptr_named (nm := "errors.errorString") (by rw [star_es]; kernel_rfl) (by kernel_rfl) (by decide) u (by rw [star_es]; exact h)

theorem sv_of {W : World} (h : laidMet Tryz.prog Rows.prettyPrintsRow.laid W) : SV W:=by
 have h3:=h.tail.tail
 have h4:=h3.tail
 have h5:=h4.tail
 refine ⟨Lib.tabIs_of_head (g:=1) (t:=172) (e:=153) (n:=20) (by kernel_rfl) (by kernel_rfl) Tryz.underlying172 Tryz.underlying153 (by kernel_rfl) (by kernel_rfl) h3,?_,?_⟩
 ·obtain ⟨a,s,hv,-⟩:=laid_sentinel (g:=4) (ti:=163) (tp:=201) (te:=203) (ts:=9) h5 (by kernel_rfl) (by kernel_rfl) Tryz.underlying163 row_es Tryz.underlying201 Tryz.underlying203 rfl rfl Tryz.underlying9 (by kernel_rfl) (by kernel_rfl)
  exact ⟨_,_,hv⟩
 ·obtain ⟨a,s,hv,-⟩:=laid_sentinel (g:=5) (ti:=163) (tp:=201) (te:=203) (ts:=9) h4 (by kernel_rfl) (by kernel_rfl) Tryz.underlying163 row_es Tryz.underlying201 Tryz.underlying203 rfl rfl Tryz.underlying9 (by kernel_rfl) (by kernel_rfl)
  exact ⟨_,_,hv⟩
end Go.Proofs.YtbfjmccpcbhljaaGreatDoor
