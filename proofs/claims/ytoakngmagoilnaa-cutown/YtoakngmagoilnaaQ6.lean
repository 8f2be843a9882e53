import Derived.Test.YtoakngmagoilnaaQ2
import Derived.Test.YtoakngmagoilnaaRows
namespace Go.Proofs.Ytoakngmagoilnaa
open Go.RowKit
theorem info_u8 : (Try.prog.info? 5).map (fun i => (i.zero, i.size, i.bytes)) = some (some (.int .u8 0), 1, 1) := by kernel_rfl
end Go.Proofs.Ytoakngmagoilnaa
