import Derived.Test.YtjbigfnggelceaaDoorBase
import Derived.Test.YtjbigfnggelceaaDoorKeysM
import Derived.Lib.SliceRun
namespace Go.Proofs.YtjbigfnggelceaaDoor
open Go.RowKit

end Go.Proofs.YtjbigfnggelceaaDoor
