import Derived.Test.YtjbigfnggelceabDoorApp
import Derived.Test.YtjbigfnggelceabDoorGet2
namespace Go.Proofs.YtjbigfnggelceabDoor
open Go.RowKit
theorem hid_intro {p : Prop} (h : p) : Hid p := h
end Go.Proofs.YtjbigfnggelceabDoor
