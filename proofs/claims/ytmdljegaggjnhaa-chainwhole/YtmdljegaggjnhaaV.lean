import Derived.Test.YtmdljegaggjnhaaLeast
namespace Go.Proofs.Ytmdljegaggjnhaa
open Go.RowKit

end Go.Proofs.Ytmdljegaggjnhaa
