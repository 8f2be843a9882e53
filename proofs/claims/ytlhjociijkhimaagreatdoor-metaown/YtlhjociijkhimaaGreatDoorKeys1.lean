import Derived.Test.YtlhjociijkhimaaGreatDoorBase
import Derived.Test.YtlhjociijkhimaaGreatDoorKeysM
import Derived.Lib.SliceRun
namespace Go.Proofs.YtlhjociijkhimaaGreatDoor
open Go.RowKit

end Go.Proofs.YtlhjociijkhimaaGreatDoor
