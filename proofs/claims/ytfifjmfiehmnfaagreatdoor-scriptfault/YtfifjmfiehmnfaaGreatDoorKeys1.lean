import Derived.Test.YtfifjmfiehmnfaaGreatDoorBase
import Derived.Test.YtfifjmfiehmnfaaGreatDoorKeysM
import Derived.Lib.SliceRun
namespace Go.Proofs.YtfifjmfiehmnfaaGreatDoor
open Go.RowKit

end Go.Proofs.YtfifjmfiehmnfaaGreatDoor
