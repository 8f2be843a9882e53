import Derived.Test.YtjbigfnggelceaaDoorLeast
namespace Go.Proofs.YtjbigfnggelceaaDoor
open Go.RowKit

end Go.Proofs.YtjbigfnggelceaaDoor
