import Derived.Test.YtjbigfnggelceaaDoorApp
import Derived.Test.YtjbigfnggelceaaDoorGet2
namespace Go.Proofs.YtjbigfnggelceaaDoor
open Go.RowKit
theorem hid_intro {p : Prop} (h : p) : Hid p := h
end Go.Proofs.YtjbigfnggelceaaDoor
