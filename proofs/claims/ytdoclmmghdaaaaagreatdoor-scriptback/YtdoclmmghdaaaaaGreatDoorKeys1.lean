import Derived.Test.YtdoclmmghdaaaaaGreatDoorBase
import Derived.Test.YtdoclmmghdaaaaaGreatDoorKeysM
import Derived.Lib.SliceRun
namespace Go.Proofs.YtdoclmmghdaaaaaGreatDoor
open Go.RowKit

end Go.Proofs.YtdoclmmghdaaaaaGreatDoor
