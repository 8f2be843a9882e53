import Derived.Test.YtcjgmiilfjjbcaaGreatDoorBase
import Derived.Test.YtcjgmiilfjjbcaaGreatDoorKeysM
import Derived.Lib.SliceRun
namespace Go.Proofs.YtcjgmiilfjjbcaaGreatDoor
open Go.RowKit

end Go.Proofs.YtcjgmiilfjjbcaaGreatDoor
