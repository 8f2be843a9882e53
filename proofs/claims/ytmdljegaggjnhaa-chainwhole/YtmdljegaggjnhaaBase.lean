import Derived.Test.YtmdljegaggjnhaaApp
import Derived.Test.YtmdljegaggjnhaaGet2
namespace Go.Proofs.Ytmdljegaggjnhaa
open Go.RowKit
theorem hid_intro {p : Prop} (h : p) : Hid p := h
end Go.Proofs.Ytmdljegaggjnhaa
