/- Walks of layer 2, fifteenth part: the document's own reading of a key. -/
import Derived.Test.YtbmgcibclmbelabDoorK14
import Derived.Test.YtbmgcibclmbelabDoorM24
namespace Go.Proofs.YtbmgcibclmbelabDoor
open Go.RowKit

end Go.Proofs.YtbmgcibclmbelabDoor
