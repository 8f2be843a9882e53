import Derived.Test.YteaahinjcfjngaaGreatQ27
import Derived.Test.YteaahinjcfjngaaGreatQ28
import Derived.RangeFuncNested
import Derived.RangeFuncBound
import Derived.RangeFuncCalls
import Derived.RangeFuncLeaves
import Derived.Shelf.Abstract
import Derived.Shelf.RegionOpen
import Derived.WalkKit
import Derived.OwnWalkIn
import Derived.TacticsInMore
import Derived.LoopNIn
import Derived.LoopIn
namespace Go.Proofs.YteaahinjcfjngaaGreat
open Go.RowKit Go.Shelf
attribute [local go_sem] Oper.semAt_some
abbrev PgT:=Value × Value × PrT
def blkP (x:PgT)(b:Nat):Prop:=x.1.ownBlock=some b∨x.2.1.ownBlock=some b
def PxP (n0 m:Nat)(x:PgT)(W:World):Prop:=∃ lo hi,n0<=lo/\hi<=m/\PvT W lo hi [x.1,x.2.1] x.2.2
structure RgT (n0 m:Nat)(W:World)(a:Option Addr)(N c:Nat)(es:List (List Value))(ps:List PrT)(k:Nat):Prop where
 e:EsT W 64 a N c 2 es
 p:∃ lk,n0<=lk/\PvL W (es.drop k) (ps.drop k) lk m
 b:∀ ad,a=some ad->0<N->n0<=ad.block/\ad.block<m
theorem RgT.grown {n0 m:Nat}{W W':World}{a:Option Addr}{N c:Nat}{es:List (List Value)}{ps:List PrT}{k:Nat}(h:RgT n0 m W a N c es ps k)(hg:W.grownBy W' none):RgT n0 m W' a N c es ps k:=by
 obtain ⟨lk,q1,q2⟩:=h.p;exact ⟨h.e.kept (by decide) (FrT.of hg),⟨lk,q1,q2.kept (FrT.of hg)⟩,h.b⟩
theorem RgT.next {n0 m:Nat}{W:World}{a:Option Addr}{N c:Nat}{es:List (List Value)}{ps:List PrT}{k:Nat}(h:RgT n0 m W a N c es ps k)(hl:ps.length=N){p:PrT}(hp:ps[k]?=some p) :
  ∃ b off ka kc va vc,a=some ⟨b,off,none⟩/\W.cell? ⟨b,off+k*2,none⟩=some (.slice ka p.key.length kc)/\W.cell? ⟨b,off+k*2+1,none⟩=some (.slice va p.val.length vc)/\PxP n0 m (.slice ka p.key.length kc,.slice va p.val.length vc,p) W /\
   ∀ W1 W',W.grownBy W1 none->KpW n0 m (blkP (.slice ka p.key.length kc,.slice va p.val.length vc,p)) W1 W'->RgT n0 m W' a N c es ps (k+1):=by
 obtain ⟨lk,q1,q2⟩:=h.p;have hk:k<ps.length:=(List.getElem?_eq_some_iff.1 hp).1;have hel:=h.e.len
 have dp:ps.drop k=p::ps.drop (k+1):=by
  rw [List.drop_eq_getElem_cons hk];rw [List.getElem?_eq_getElem hk] at hp;rw [Option.some.inj hp]
 have hek:k<es.length:=by omega
 have de:es.drop k=es[k]::es.drop (k+1):=List.drop_eq_getElem_cons hek;rw [dp,de] at q2;obtain ⟨mm,m1,m2,m3,m4⟩:=q2;have hee:es[k]?=some es[k]:=List.getElem?_eq_getElem hek
 revert m3 hee
 generalize es[k]=e5;intro m3 hee;have m3':=m3;obtain ⟨kv,vv,mid,rfl,i1,i2,o1,o2⟩:=m3;obtain ⟨ka,kc,rfl⟩:=own_shape10 o1.1;obtain ⟨va,vc,rfl⟩:=own_shape10 o2.1;obtain ⟨b,off,rfl,tb,cl⟩:=h.e.cell k _ hee;have hb:=h.b _ rfl (by omega);refine ⟨b,off,ka,kc,va,vc,rfl,cl 0 _ rfl,cl 1 _ rfl,⟨lk,mm,q1,by have:=m4.le;omega,m3'⟩,fun W1 W' hg hkp=>?_⟩;have t1:TgT W1 b 64:=(FrT.of hg).tg (by decide) tb
 have nb:∀ g,blkP (.slice ka p.key.length kc,.slice va p.val.length vc,p) g->g<mm/\TgT W1 g 5:=fun g hg'=>by
  rcases hg' with e | e
  ·exact ⟨Nat.lt_of_lt_of_le (o1.2 g e) i2,(FrT.of hg).tg (by decide) (own_lt10 o1.1 e).2.2⟩
  ·exact ⟨o2.2 g e,(FrT.of hg).tg (by decide) (own_lt10 o2.1 e).2.2⟩
 have e1:=h.e.kept (by decide) (FrT.of hg);refine ⟨⟨e1.len,e1.cap,e1.c2,e1.nil,e1.pl,e1.sz,e1.one,fun i e he=>?_⟩,⟨mm,by omega,?_⟩,h.b⟩
 ·obtain ⟨b',off',x1,x2,x3⟩:=e1.cell i e he
  cases x1;have hs:W'.heap[b]?=W1.heap[b]?:=hkp b hb.1 hb.2 (fun hx=>tg_ne x2 (nb b hx).2 (by decide) rfl);refine ⟨b,off,rfl,?_,fun f v hv=>(World.cell?_of_block hs).trans (x3 f v hv)⟩;obtain ⟨cur,z,q⟩:=x2;exact ⟨cur,z,hs.trans q⟩
 ·refine (m4.kept (FrT.of hg)).same fun g a1 a2 _=>hkp g (by omega) a2 (fun hx=>by have:=(nb g hx).1;omega)
end Go.Proofs.YteaahinjcfjngaaGreat
