/- Walks of layer 1: the document's And and Or; Not. -/
import Derived.Test.YtfabcdjgakhdmabDoorW5
import Derived.Test.YtfabcdjgakhdmabDoorW3b
import Derived.Test.YtfabcdjgakhdmabDoorM8
namespace Go.Proofs.YtfabcdjgakhdmabDoor
open Go.RowKit



end Go.Proofs.YtfabcdjgakhdmabDoor
