import Derived.Test.YtlhjociijkhimaaGreatDoorApp
import Derived.Test.YtlhjociijkhimaaGreatDoorGet2
namespace Go.Proofs.YtlhjociijkhimaaGreatDoor
open Go.RowKit
theorem hid_intro {p : Prop} (h : p) : Hid p := h
end Go.Proofs.YtlhjociijkhimaaGreatDoor
