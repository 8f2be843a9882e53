import Derived.RangeFuncMany
import Derived.RangeFuncKeeps
import Derived.RangeFuncNested
import Derived.Below
import Derived.Test.YteaahinjcfjngaaGreatRows
namespace Go.Proofs.YteaahinjcfjngaaGreat
open Go Go.RowKit
def KpW (n0 m:Nat)(B:Nat->Prop)(W W':World):Prop:=∀ b,n0<=b->b<m->¬ B b->W'.heap[b]?=W.heap[b]?
theorem KpW.trans {n0 m:Nat}{B:Nat->Prop}{X Y Z:World}(h:KpW n0 m B X Y)(k:KpW n0 m B Y Z):KpW n0 m B X Z:=fun b h1 h2 h3=>(k b h1 h2 h3).trans (h b h1 h2 h3)
theorem KpW.put {n0 m:Nat}{B:Nat->Prop}{W:World}{l:Nat}{o:Obj}(h:l<n0):KpW n0 m B W (W.putObj l o):=fun b h1 _ _=>World.putObj_heap_other (by omega)
end Go.Proofs.YteaahinjcfjngaaGreat
