/- Walks of layer 10: cut. -/
import Derived.Test.YtmfplnodafodoaaGreatDoorY50
import Derived.Test.YtmfplnodafodoaaGreatDoorY51
import Derived.Test.YtmfplnodafodoaaGreatDoorY52
import Derived.Test.YtmfplnodafodoaaGreatDoorY53
import Derived.Test.YtmfplnodafodoaaGreatDoorY54
import Derived.Test.YtmfplnodafodoaaGreatDoorY55
namespace Go.Proofs.YtmfplnodafodoaaGreatDoor
open Go.RowKit
set_option maxHeartbeats 64000000 in
set_option maxRecDepth 100000 in
theorem cut_any (s : ByteArray) (e0 : Nat) (w : World) (h0 : e0 ≤ s.size) (hs : s.size ≤ 2147483647) : Calls Tryz.prog 47 #[.string s, .int .i64 (e0 : Int)] w (CutP s e0 w) := by
  go_enter Tryz.func47, Tryz.ntmps47
  go_wp2
  refine wp_scope6 (AtL s e0 w) (muL s) rfl rfl rfl rfl rfl rfl (fun _ _ _ h => h.1) rfl ?_ ?_ ?_ ?_ ?_ ?_ ?_
  · go_wp2
    exact ⟨by decide, rfl, 0, e0, _, _, _, _, _, _, _, _, _, _, _, _, _, _, _, _, _, _, _, _, _, _, _, _, _, _, _, _, _, _, _, _, _, _, _, _, _, _, _, _, _, _, _, _, _, _, _, _, _, _, _, _, _, _, _, _, _, _, _, _, _, _, _, _, _, _, _, _, _, _, _, _, _, _, _, _, _, _, _, _, _, _, _, _, rfl, h0, fun h => by omega, fun h => by omega, fun _ h => h⟩
  · exact cut_pass0 s e0 w hs rfl
  · exact cut_pass1 s e0 w hs rfl
  · exact cut_pass2 s e0 w hs rfl
  · exact cut_pass3 s e0 w hs rfl
  · exact cut_pass4 s e0 w hs rfl
  · exact cut_pass5 s e0 w hs rfl
end Go.Proofs.YtmfplnodafodoaaGreatDoor
