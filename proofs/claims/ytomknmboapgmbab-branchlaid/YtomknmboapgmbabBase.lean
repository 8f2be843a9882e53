import Derived.Test.YtomknmboapgmbabApp
import Derived.Test.YtomknmboapgmbabGet2
namespace Go.Proofs.Ytomknmboapgmbab
open Go.RowKit
theorem hid_intro {p : Prop} (h : p) : Hid p := h
end Go.Proofs.Ytomknmboapgmbab
