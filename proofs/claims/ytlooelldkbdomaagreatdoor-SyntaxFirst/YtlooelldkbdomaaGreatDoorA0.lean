/- Walks of layer 10: what they lean on; texts compared. -/
import Derived.Test.YtlooelldkbdomaaGreatDoorChecked
import Derived.Test.YtlooelldkbdomaaGreatDoorSh
import Derived.Test.YtlooelldkbdomaaGreatDoorW1
import Derived.Test.YtlooelldkbdomaaGreatDoorC7
import Derived.Test.YtlooelldkbdomaaGreatDoorM110
import Derived.WalkKit
import Derived.WalkSpells
import Derived.WalkMore
import Derived.WalkLawsBesides
import Derived.Lib.Hide
import Derived.Deep.QuietTactic
import Derived.BigQuiet
namespace Go.Proofs.YtlooelldkbdomaaGreatDoor
open Go.RowKit
end Go.Proofs.YtlooelldkbdomaaGreatDoor
