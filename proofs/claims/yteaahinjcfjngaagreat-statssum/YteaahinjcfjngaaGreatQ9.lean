import Derived.Test.YteaahinjcfjngaaGreatQ7
import Derived.Test.YteaahinjcfjngaaGreatQ8
namespace Go.Proofs.YteaahinjcfjngaaGreat
open Go.RowKit
theorem grown_new {a b c:World}{R:Nat}(h:a.grownBy b none)(k:b.grownBy c (some R))(hR:a.heap.size<=R):a.grownBy c none :=
 ⟨k.os.trans h.os,k.tape.trans h.tape,k.output.trans h.output,Nat.le_trans h.size k.size,
  fun i hi _=>(k.block i (Nat.lt_of_lt_of_le hi h.size) (by intro e;have:=Option.some.inj e;omega)).trans (h.block i hi (by simp))⟩
end Go.Proofs.YteaahinjcfjngaaGreat
