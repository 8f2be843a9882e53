import Derived.Test.YtbedmgjcfejdaaaGreatDoorBase
import Derived.Test.YtbedmgjcfejdaaaGreatDoorKeysM
import Derived.Lib.SliceRun
namespace Go.Proofs.YtbedmgjcfejdaaaGreatDoor
open Go.RowKit

end Go.Proofs.YtbedmgjcfejdaaaGreatDoor
