import Derived.Test.YtmdljegaggjnhaaBase
import Derived.Test.YtmdljegaggjnhaaKeysM
import Derived.Lib.SliceRun
namespace Go.Proofs.Ytmdljegaggjnhaa
open Go.RowKit

end Go.Proofs.Ytmdljegaggjnhaa
