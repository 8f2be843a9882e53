import Derived.Test.YtphmgnjfjmailabApp
import Derived.Test.YtphmgnjfjmailabGet2
namespace Go.Proofs.Ytphmgnjfjmailab
open Go.RowKit
theorem hid_intro {p : Prop} (h : p) : Hid p := h
end Go.Proofs.Ytphmgnjfjmailab
