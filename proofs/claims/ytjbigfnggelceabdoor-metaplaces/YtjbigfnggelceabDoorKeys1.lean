import Derived.Test.YtjbigfnggelceabDoorBase
import Derived.Test.YtjbigfnggelceabDoorKeysM
import Derived.Lib.SliceRun
namespace Go.Proofs.YtjbigfnggelceabDoor
open Go.RowKit

end Go.Proofs.YtjbigfnggelceabDoor
