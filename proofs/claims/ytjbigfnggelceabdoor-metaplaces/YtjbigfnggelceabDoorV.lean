import Derived.Test.YtjbigfnggelceabDoorLeast
namespace Go.Proofs.YtjbigfnggelceabDoor
open Go.RowKit

end Go.Proofs.YtjbigfnggelceabDoor
