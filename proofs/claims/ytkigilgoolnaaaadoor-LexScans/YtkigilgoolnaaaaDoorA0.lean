/- Walks of layer 10: what they lean on; texts compared. -/
import Derived.Test.YtkigilgoolnaaaaDoorChecked
import Derived.Test.YtkigilgoolnaaaaDoorSh
import Derived.Test.YtkigilgoolnaaaaDoorW1
import Derived.Test.YtkigilgoolnaaaaDoorC7
import Derived.Test.YtkigilgoolnaaaaDoorM110
import Derived.WalkKit
import Derived.WalkSpells
import Derived.WalkMore
import Derived.WalkLawsBesides
import Derived.Lib.Hide
import Derived.Deep.QuietTactic
import Derived.BigQuiet
namespace Go.Proofs.YtkigilgoolnaaaaDoor
open Go.RowKit
end Go.Proofs.YtkigilgoolnaaaaDoor
