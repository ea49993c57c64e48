/- The law ValueKleene out of its cases. -/
import Derived.Test.YtfabcdjgakhdmabDoorL8E
import Derived.Test.YtfabcdjgakhdmabDoorL8N
namespace Go.Proofs.YtfabcdjgakhdmabDoor
open Go.RowKit

set_option maxHeartbeats 1000000 in
set_option maxRecDepth 100000 in
theorem lkleene_any (a : Option Addr) (cap : Nat) (vs : List V3) (b : Option Addr) (capm : Nat) (us : List V3) (w : World) (hrow : Row w a vs) (hrowm : Row w b us) :
    Calls Tryd.prog 3 #[.slice a vs.length cap, .slice b us.length capm] w fun e w' => e = .returned (.bool true) ∧ Below w.heap.size w w' := by
  by_cases hbig : (536870911 : Int) < (vs.length : Int)
  · go_enter Tryd.func3, Tryd.ntmps3
    go_wp2
    go_ret
    exact ⟨rfl, Below.refl _ _⟩
  by_cases hbig2 : (536870911 : Int) < (us.length : Int)
  · go_enter Tryd.func3, Tryd.ntmps3
    go_wp2
    go_ret
    exact ⟨rfl, Below.refl _ _⟩
  have hl : vs.length ≤ 536870911 := by omega
  have hm : us.length ≤ 536870911 := by omega
  have ht : ∀ c : Bool, sett c (turnedL vs) = sett c vs := fun c => sett_set fun v => mem_turned
  by_cases had : adm 2 vs = 0
  · have tri : ∀ c : Bool, sett c vs = ((sett c vs).1, (sett c vs).2.1, 0) := fun c => by
      have := sett_e (b := c) had
      exact Prod.ext rfl (Prod.ext rfl this)
    have trn : ∀ c : Bool, sett c (vs.map notV) = ((sett c (vs.map notV)).1, (sett c (vs.map notV)).2.1, 0) := fun c => by
      have := sett_e (b := c) (adm_not had)
      exact Prod.ext rfl (Prod.ext rfl this)
    have hx := sett_not (b := true) had
    have hz := sett_not (b := false) had
    refine kleene_N a cap vs b capm us w hl hm hrow hrowm _ _ _ _ _ _ _ _ (sett false us).1 (sett false us).2.1 (sett false us).2.2 had (tri false) ((ht false).trans (tri false)) (tri true) ((ht true).trans (tri true)) (trn true) (hx.symm.trans (trn true)) (trn false) (hz.symm.trans (trn false)) rfl ?_
    by_cases hu : adm 2 us = 0
    · have hb := sett_both had hu
      refine Or.inr ⟨sett_e hu, (sett false (vs ++ us)).1, (sett false (vs ++ us)).2.1, Prod.ext rfl (Prod.ext rfl hb.2), ?_⟩
      rw [← hb.1]
      exact Prod.ext rfl (Prod.ext rfl hb.2)
    · refine Or.inl ?_
      rw [sett_err hu]
      simpa using hu
  · have he : (adm 2 vs != 0) = true := by simpa using had
    exact kleene_E a cap vs b capm us w hl hm hrow hrowm (adm 2 vs) he (sett_err had) ((ht false).trans (sett_err had)) (sett_err had) ((ht true).trans (sett_err had))
end Go.Proofs.YtfabcdjgakhdmabDoor
