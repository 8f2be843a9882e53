import Derived.Test.YteaahinjcfjngaaGreatQ50
import Derived.Test.YteaahinjcfjngaaGreatQ42
set_option maxRecDepth 100000
set_option maxHeartbeats 4000000
namespace Go.Proofs.YteaahinjcfjngaaGreat
open Go.RowKit
def MdP (w:World)(xs:List RnT)(en:Ending)(w':World):Prop:=((∃ p t,en=.returned (.pointer (some ⟨p,0,none⟩))/\TreeT w' p t/\BkR xs t/\xs.length<=3000)∨en=.returned (.pointer none))/\w.grownBy w' none
theorem made_any (a:Option Addr)(n c:Nat)(xs:List RnT)(w:World)(hx:RnU w a xs)(hn:xs.length=n)(hb:∀ x∈xs,RnB x) :
  Calls Tryz.prog 10 #[.slice a n c] w fun en w'=>MdP w xs en w':=by
 by_cases hlt:n<=3000
 ·have BU:=hZq (build_u a n c xs w hx hn (by omega) hb)
  have h1:¬ (3000:Int)<(n:Int):=by omega
  have HN:=hZq hn;have HLT:=hZq hlt;clear hx hb hn;go_enter Tryz.func10,Tryz.ntmps10
  go_wp2_with fail
  refine BU.out.mono ?_;rintro en w1 ⟨⟨p,t,rfl,ht,hbk⟩ | ⟨rfl,_⟩,hg⟩
  ·have HT:=hZq ht
   have HB:=hZq hbk;have G:=hZq hg;clear ht hbk hg BU;go_wp2;go_ret;exact ⟨.inl ⟨p,t,rfl,HT.out,HB.out,by have:=HN.out;have:=HLT.out;omega⟩,G.out⟩
  ·have G:=hZq hg
   clear hg BU;go_wp2;go_ret;exact ⟨.inr rfl,G.out⟩
 ·have h1:(3000:Int)<(n:Int):=by omega
  clear hx hb hn hlt;go_enter Tryz.func10,Tryz.ntmps10;go_wp2;go_ret;exact ⟨.inr rfl,World.grownBy.refl _ _⟩
end Go.Proofs.YteaahinjcfjngaaGreat
