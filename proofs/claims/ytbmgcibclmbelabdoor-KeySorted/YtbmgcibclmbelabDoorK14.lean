/- Walks of layer 2, fourteenth part: a text, as the document reads it; the document's own reading of a key. -/
import Derived.Test.YtbmgcibclmbelabDoorK13
namespace Go.Proofs.YtbmgcibclmbelabDoor
open Go.RowKit



end Go.Proofs.YtbmgcibclmbelabDoor
