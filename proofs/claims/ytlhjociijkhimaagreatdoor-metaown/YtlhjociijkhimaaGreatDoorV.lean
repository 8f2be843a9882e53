import Derived.Test.YtlhjociijkhimaaGreatDoorLeast
namespace Go.Proofs.YtlhjociijkhimaaGreatDoor
open Go.RowKit

end Go.Proofs.YtlhjociijkhimaaGreatDoor
