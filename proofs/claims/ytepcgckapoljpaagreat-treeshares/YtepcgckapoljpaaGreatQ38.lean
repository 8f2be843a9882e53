import Derived.Test.YtepcgckapoljpaaGreatQ35
import Derived.Deep.QuietTactic
import Derived.Laws.ResultCell
namespace Go.Proofs.YtepcgckapoljpaaGreat
open Go.RowKit
theorem size_pair10:(Tryz.prog.info? 40).map (fun i=>i.size)=some 2:=by kernel_rfl
end Go.Proofs.YtepcgckapoljpaaGreat
