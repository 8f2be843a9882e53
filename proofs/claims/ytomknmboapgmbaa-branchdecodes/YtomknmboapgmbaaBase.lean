import Derived.Test.YtomknmboapgmbaaApp
import Derived.Test.YtomknmboapgmbaaGet2
namespace Go.Proofs.Ytomknmboapgmbaa
open Go.RowKit
theorem hid_intro {p : Prop} (h : p) : Hid p := h
end Go.Proofs.Ytomknmboapgmbaa
