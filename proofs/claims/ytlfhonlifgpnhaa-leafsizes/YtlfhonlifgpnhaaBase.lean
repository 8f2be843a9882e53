import Derived.Test.YtlfhonlifgpnhaaApp
import Derived.Test.YtlfhonlifgpnhaaGet2
namespace Go.Proofs.Ytlfhonlifgpnhaa
open Go.RowKit
theorem hid_intro {p : Prop} (h : p) : Hid p := h
end Go.Proofs.Ytlfhonlifgpnhaa
