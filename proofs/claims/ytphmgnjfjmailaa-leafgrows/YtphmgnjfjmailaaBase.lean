import Derived.Test.YtphmgnjfjmailaaApp
import Derived.Test.YtphmgnjfjmailaaGet2
namespace Go.Proofs.Ytphmgnjfjmailaa
open Go.RowKit
theorem hid_intro {p : Prop} (h : p) : Hid p := h
end Go.Proofs.Ytphmgnjfjmailaa
