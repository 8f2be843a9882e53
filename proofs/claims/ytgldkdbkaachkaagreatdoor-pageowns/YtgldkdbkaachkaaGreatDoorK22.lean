import Derived.Test.YtgldkdbkaachkaaGreatDoorK21
import Derived.Deep.RegionLawGrows
import Derived.Deep.CutRange
import Derived.Deep.RegionHeld3
import Derived.Deep.AppendLies
namespace Go.Proofs.YtgldkdbkaachkaaGreatDoor
open Go.RowKit
variable {ps:Int}{B base c ag j q r:Nat}{S:Nat->Prop}{vb vg:Value}{w w':World}{I:World->Prop}
def cH (t i k:Nat):Nat:=if k<i then t+1 else t
theorem dY (t i:Nat):(fun k=>if k=i then cH t i k+1 else cH t i k)=cH t (i+1):=by
 funext k
 unfold cH
 by_cases h1:k=i
 ·subst h1;simp
 ·by_cases h2:k<i
  ·simp [h1,h2,show k<i+1 by omega]
  ·simp [h1,h2,show ¬ k<i+1 by omega]
theorem bS {P:Program}{ops:Array Oper}{o:Oper}{a:Act}{K:Act->World->Prop}{Q:Exit->Act->World->Prop}{E:Prop}
  (hg:o.guard=none) (s x:Operand) (t:TypeId) (hop:o.op=Op.call { callee:=Callee.builtin Builtin.append,args:=#[s,x],argTypes:=#[t,t] })
  (e:TypeId) (i:TypeInfo) (size:Nat) (h1:P.underlying t=some (.slice e)) (h2:P.info? e=some i) (h4:i.size=size)
  (b off n cap:Nat) (hs:a.eval s=.slice (some ⟨b,off,none⟩) n cap)
  (ad:Addr) (m c:Nat) (news:List Value) (hx:a.eval x=.slice (some ad) m c) (hn:news.length=m*size) (hc:∀ j u,news[j]?=some u->w.cell? (ad.add j)=some u) (h1c:∀ u∈news,u.oneCell'=true)
  (hroom:n+m<=cap) (hspare:∀ j,j<news.length->(w.cell? ⟨b,off+n*size+j,none⟩).isSome=true/\w.frozen? ⟨b,off+n*size+j,none⟩=false)
  (hK:∀ X,X=w.setCells b (off+n*size) news->K (a.put o.dst (.slice (some ⟨b,off,none⟩) (n+m) cap)) X) :
  if Region.wanted o (yielded ops a.tmps)=true then Oper.wp P o a w K Q else E :=
 step_append_room hg s x t hop e i size h1 h2 h4 b off n cap hs ad m c news hx hn hc h1c hroom hspare (hK _ rfl)
theorem Ff:(Tryz.prog.info? 25).map (fun i=>(i.zero,i.size,i.bytes))=some (some (.slice none 0 0),1,24):=by kernel_rfl
theorem CC:(Tryz.prog.info? 22).map (fun i=>(i.zero,i.size,i.bytes))=some (some (.slice none 0 0),1,24):=by kernel_rfl
theorem Ov:(Tryz.prog.info? 5).map (fun i=>(i.zero,i.size,i.bytes))=some (some (.int .u8 0),1,1):=by kernel_rfl
theorem Fg:(Tryz.prog.info? 63).map (fun i=>(i.zero,i.size,i.bytes))=some (some (.agg #[.slice none 0 0,.slice none 0 0,.int .i64 0,.int .i64 0]),4,64):=by kernel_rfl
structure Ks (K:eP)(w:World)(B:Nat)(ps:Int)(vb:Value)(r c:Nat)(L:List au)(ag:Nat):Prop where
 bc:Kc K w B ps vb r c L
 marks:∀ (k:Nat) (s:au),L[k]?=some s->s.cK w (K.f ps (ag+k+1))
theorem Ks.kept {K:eP}{L:List au}{row:Option Nat}(h:Ks K w B ps vb r c L ag)(hg:w.grownBy w' row)(h1:some B≠row)(h2:some r≠row)(h3:∀ s∈L,some s.g≠row):Ks K w' B ps vb r c L ag :=
 ⟨h.bc.kept hg h1 h2 h3,fun k s hk=>(h.marks k s hk).kept hg (h3 s (List.mem_of_getElem? hk))⟩
structure xH (K:eP)(S:Nat->Prop)(w:World)(B:Nat)(ps:Int)(vb vg:Value)(r c base ag:Nat)(L M:List au)(tn:Nat->Nat):Prop where
 gs:Gs K (fun _=>True) 0 (fun _=>True) w B ps vb vg r c base ag L M tn
 qv:∀ i,vg.ownBlock=some i->S i
 qm:∀ (k:Nat) (m:au),M[k]?=some m->base<=m.g->S m.g
 sb:∀ i,S i->base<=i/\i<w.heap.size
theorem xH.use {K:eP}{L M:List au}{tn:Nat->Nat}(h:xH K S w B ps vb vg r c base ag L M tn)(I:World->Prop)(hI:I w) :
  Gs K (fun i=>S i∨w.heap.size<=i) w.heap.size I w B ps vb vg r c base ag L M tn:=by
 have g:=h.gs;have hr:=g.rB;exact ⟨hI,g.bc,g.gl,g.gz,g.own,g.old,⟨hr.1,hr.2.1,hr.2.2.1,hr.2.2.2.1,Nat.le_refl _⟩,fun i hi=>Or.inr hi,fun i hi=>Or.inl (h.qv i hi),fun k m hm hb=>Or.inl (h.qm k m hm hb),g.each,g.He,g.lm,g.mm⟩
theorem xH.of {K:eP}{H:Nat}{B:Nat}{base:Nat}{L M:List au}{tn:Nat->Nat}(h:Gs K (fun i=>S i∨H<=i) H I w B ps vb vg r c base ag L M tn)(hS:∀ i,S i->base<=i)(hH:base<=H) :
  xH K (fun i=>(S i∨H<=i)/\i<w.heap.size) w B ps vb vg r c base ag L M tn:=by
 have hr:=h.rB;refine ⟨⟨trivial,h.bc,h.gl,h.gz,h.own,h.old,⟨hr.1,hr.2.1,hr.2.2.1,hr.2.2.2.1,Nat.zero_le _⟩,fun _ _=>trivial,fun _ _=>trivial,fun _ _ _ _=>trivial,h.each,h.He,h.lm,h.mm⟩,fun i hi=>⟨h.qv i hi,(h.Cy i hi).2⟩,fun k m hm hb=>⟨h.qm k m hm hb,?_⟩,fun i hi=>⟨?_,hi.2⟩⟩
 ·obtain ⟨_,_,_,s,hs,_,hc⟩:=h.each k m hm
  rcases hc with hc | hc
  ·exact hc.2
  ·have:=h.old s (List.mem_of_getElem? hs);omega
 ·rcases hi.1 with h1 | h1
  ·exact hS i h1
  ·omega
theorem xH.kept {K:eP}{L M:List au}{tn:Nat->Nat}{row:Option Nat}(h:xH K S w B ps vb vg r c base ag L M tn)(hg:w.grownBy w' row)(hr:∀ i,row=some i->i≠B/\i≠r/\(∀ s∈L,s.g≠i)/\¬ S i) :
  xH K S w' B ps vb vg r c base ag L M tn:=by
 have g:=h.gs;have hrb:=g.rB;have hsz:=hg.size;have nB:some B≠row:=fun e=>(hr B e.symm).1 rfl
 have nr:some r≠row:=fun e=>(hr r e.symm).2.1 rfl
 have ns:∀ s∈L,some s.g≠row:=fun s hs e=>(hr _ e.symm).2.2.1 s hs rfl
 have nm:∀ (k:Nat) (m:au),M[k]?=some m->some m.g≠row:=fun k m hm e=>by
  obtain ⟨_,_,_,s,hs,_,hc⟩:=g.each k m hm;rcases hc with hc | hc
  ·exact (hr _ e.symm).2.2.2 (h.qm k m hm hc.1)
  ·exact (hr _ e.symm).2.2.1 s (List.mem_of_getElem? hs) hc.1.symm
 refine ⟨⟨trivial,g.bc.kept hg nB nr ns,hg.cell g.gl nB,(World.frozen?_of_block (hg.block B (by omega) nB)).trans g.gz,g.own.kept hg ?_,g.old,⟨hrb.1,hrb.2.1,by omega,hrb.2.2.2.1,Nat.zero_le _⟩,fun _ _=>trivial,fun _ _=>trivial,fun _ _ _ _=>trivial,fun k m hm=>?_,g.He,fun k t hk=>(g.lm k t hk).kept hg (ns t (List.mem_of_getElem? hk)),fun k m hm=>(g.mm k m hm).kept hg (nm k m hm)⟩,h.qv,h.qm,fun i hi=>?_⟩
 ·cases hv:vg.ownBlock with
  | none=>exact Or.inl rfl
  | some i=>exact Or.inr (fun e=>(hr i e.symm).2.2.2 (h.qv i hv))
 ·obtain ⟨a1,a2,a3,t,a4,a5,a6⟩:=g.each k m hm
  refine ⟨a1,a2.kept hg (nm k m hm),a3,t,a4,a5,?_⟩;rcases a6 with a6 | a6
  ·left;omega
  ·exact Or.inr a6
 ·have:=h.sb i hi
  omega
theorem xH.Ou {K:eP}{L M:List au}{tn:Nat->Nat}(h:xH K S w B ps vb vg r c base ag L M tn)(i:Nat)(v:Value)(h1:i≠1)(h2:i≠K.q)(h3:i≠K.q+2)(Ah:r≠B) :
  xH K S (w.setCell ⟨B,i,none⟩ v) B ps vb vg r c base ag L M tn:=by
 have g:=h.gs;have hrb:=g.rB;have hg:=aA w B i v;have hsz:=hg.size;have ns:∀ s∈L,some s.g≠some B:=fun s hs e=>(g.bc.ok s hs).2.2.1 (Option.some.inj e)
 have nm:∀ (k:Nat) (m:au),M[k]?=some m->some m.g≠some B:=fun k m hm e=>(g.gB hm).1 (Option.some.inj e)
 refine ⟨⟨trivial,g.bc.Ou i v h1 h2 Ah,?_,by simpa using g.gz,g.own.kept hg ?_,g.old,⟨hrb.1,hrb.2.1,by omega,hrb.2.2.2.1,Nat.zero_le _⟩,fun _ _=>trivial,fun _ _=>trivial,fun _ _ _ _=>trivial,fun k m hm=>?_,g.He,fun k t hk=>(g.lm k t hk).kept hg (ns t (List.mem_of_getElem? hk)),fun k m hm=>(g.mm k m hm).kept hg (nm k m hm)⟩,h.qv,h.qm,fun i hi=>?_⟩
 ·rw [World.cell?_setCell_other _ _ _ _ (eG h3)];exact g.gl
 ·cases hv:vg.ownBlock with
  | none=>exact Or.inl rfl
  | some j=>exact Or.inr (fun e=>by have:=(g.Cy j hv).1;have:=Option.some.inj e;omega)
 ·obtain ⟨a1,a2,a3,t,a4,a5,a6⟩:=g.each k m hm
  refine ⟨a1,a2.set _ _,a3,t,a4,a5,?_⟩;rcases a6 with a6 | a6
  ·left;omega
  ·exact Or.inr a6
 ·have:=h.sb i hi
  omega
theorem xH.tn {K:eP}{L M:List au}{tn tn':Nat->Nat}(h:xH K S w B ps vb vg r c base ag L M tn)(he:∀ k,k<M.length->tn k=tn' k):xH K S w B ps vb vg r c base ag L M tn':=⟨h.gs.tn he,h.qv,h.qm,h.sb⟩
theorem CD {n:Nat}{v:Value}{xs:List Value}{t:TypeId}(h:w.ownsRow base t 1 v n xs):∃ r c,rU w v r c xs:=by
 have hl:=h.1;rw [Nat.mul_one] at hl;rcases h.2 with ⟨rfl,h0⟩ | ⟨g,cap,cur,rfl,hb,hg,hn,hm,hs,ht⟩
 ·refine ⟨0,0,⟨none,by rw [hl,h0],fun hp=>by omega⟩,fun i x hx=>?_⟩
  have:=(List.getElem?_eq_some_iff.1 hx).1;omega
 ·refine ⟨g,cap,⟨_,by rw [hl],fun _=>rfl⟩,fun i x hx=>?_⟩
  have hi:=(List.getElem?_eq_some_iff.1 hx).1;rw [cell_of_row w g i _ _ (0,0) hg,<- Array.getElem?_toList];rw [<- ht,List.getElem?_take] at hx
  split at hx
  ·exact hx
  ·cases hx
theorem xH.kg {K:eP}{L M:List au}{tn:Nat->Nat}(h:xH K S w B ps vb vg r c base ag L M tn):∃ r2 c2,Kg K w B ps vg r2 c2 M ag:=by
 obtain ⟨r2,c2,hk⟩:=CD h.gs.own;exact ⟨r2,c2,h.gs.gl,hk,fun s hs=>by obtain ⟨k,hk⟩:=List.mem_iff_getElem?.1 hs;exact (h.gs.each k s hk).1,h.gs.mm⟩
theorem Ks.gb {K:eP}{L:List au}(h:Ks K w B ps vb r c L ag)(base:Nat)(hg:w.cell? ⟨B,K.q+2,none⟩=some (.slice none 0 0)/\w.frozen? ⟨B,K.q+2,none⟩=false)(ho:∀ s∈L,s.g<base)(hr:r<base)(hB:B<base)(hb:base<=w.heap.size):xH K (fun _=>False) w B ps vb (.slice none 0 0) r c base ag L [] (cH 0 0) :=
 ⟨⟨trivial,h.bc,hg.1,hg.2,⟨rfl,Or.inl ⟨rfl,rfl⟩⟩,ho,⟨hr,hB,hb,Nat.zero_le _,Nat.zero_le _⟩,fun _ _=>trivial,fun _ _=>trivial,fun _ _ _ _=>trivial,fun k m hm=>by simp at hm,fun k l m m' hm=>by simp at hm,h.marks,fun k m hm=>by simp at hm⟩,fun i hi=>by simp [Value.ownBlock] at hi,fun k m hm=>by simp at hm,fun i hi=>hi.elim⟩
def fnU (j:Nat):Nat:=match j with
 | 0=>55
 | 1=>56
 | 2=>57
 | 3=>58
 | 4=>59
 | 5=>60
 | 6=>61
 | 7=>62
 | 8=>63
 | 9=>64
 | 10=>65
 | 11=>66
 | 12=>67
 | _=>0
def fnW (j:Nat):Nat:=match j with
 | 0=>68
 | 1=>69
 | 2=>70
 | 3=>71
 | 4=>72
 | 5=>73
 | 6=>74
 | 7=>75
 | 8=>76
 | 9=>77
 | 10=>78
 | 11=>79
 | 12=>80
 | _=>0
def fnG (j:Nat):Nat:=match j with
 | 0=>94
 | 1=>95
 | 2=>96
 | 3=>97
 | 4=>98
 | 5=>99
 | 6=>100
 | 7=>101
 | 8=>102
 | 9=>103
 | 10=>104
 | 11=>105
 | 12=>106
 | _=>0
def fnH (j:Nat):Nat:=match j with
 | 0=>81
 | 1=>82
 | 2=>83
 | 3=>84
 | 4=>85
 | 5=>86
 | 6=>87
 | 7=>88
 | 8=>89
 | 9=>90
 | 10=>91
 | 11=>92
 | 12=>93
 | _=>0
structure Kn where
 n:Nat
 own:Nat->Prop
 need:Nat->Prop
 Z:World->Prop
 T:Int->World->Prop
 M:(Nat->Prop)->Int->Nat->World->Prop
 G:(Nat->Prop)->Nat->Nat->World->Prop
structure fU (B base:Nat)(k:Kn)(j:Nat):Prop where
 bH:∀ w,k.Z w->Calls Tryz.prog (fnU j) #[.pointer (some ⟨B,0,none⟩)] w fun en w'=>en=.returned (.bool true)/\w.grownBy w' none
 write:∀ (p:Int) (ag:Nat) (dN:Int) (I:World->Prop) (w:World),(0<=p/\p<=1)->dN=(ag:Int)->ag<=1000000->k.T p w->base<=w.heap.size->I w->(∀ v v' row,I v->v.grownBy v' row->(∀ i,row=some i->k.own i)->I v') ->
  Calls Tryz.prog (fnW j) #[.pointer (some ⟨B,0,none⟩),.int .i64 dN] w fun en w'=>en=.returned (.int .i64 ((ag+k.n:Nat):Int))/\w.heap.size<=w'.heap.size/\I w'/\∃ S,k.M S p ag w'/\∀ i,S i->w.heap.size<=i/\i<w'.heap.size
 hold:∀ (S:Nat->Prop) (p:Int) (ag:Nat) (dN:Int) (w:World),(0<=p/\p<=1)->dN=(ag:Int)->ag<=1000000->k.M S p ag w ->
  Calls Tryz.prog (fnH j) #[.pointer (some ⟨B,0,none⟩),.int .i64 dN] w fun en w'=>en=.returned (.tuple #[.int .i64 ((ag+k.n:Nat):Int),.bool true])/\w.grownBy w' none
 grow:∀ (S:Nat->Prop) (t:Nat) (ag:Nat) (dN tI:Int) (I:World->Prop) (w:World),t<70->dN=(ag:Int)->tI=(t:Int)->ag<=1000000->k.G S t ag w->(∀ i,S i->base<=i/\i<w.heap.size)->base<=w.heap.size->I w->(∀ v v' row,I v->v.grownBy v' row->(∀ i,row=some i->k.own i∨S i∨w.heap.size<=i)->I v')->(∀ v u,I v->I (v.setCell ⟨B,3*j+4,none⟩ u)) ->
  Calls Tryz.prog (fnG j) #[.pointer (some ⟨B,0,none⟩),.int .i64 dN,.int .i64 tI] w fun en w'=>en=.returned (.int .i64 ((ag+k.n:Nat):Int))/\w.heap.size<=w'.heap.size/\I w'/\∃ S',k.G S' (t+1) ag w'/\∀ i,S' i->(S i∨w.heap.size<=i)/\i<w'.heap.size
 fW:∀ (S:Nat->Prop) (ag:Nat) (dN:Int) (w:World),dN=(ag:Int)->ag<=1000000->k.G S 70 ag w ->
  Calls Tryz.prog (fnH j) #[.pointer (some ⟨B,0,none⟩),.int .i64 dN] w fun en w'=>en=.returned (.tuple #[.int .i64 ((ag+k.n:Nat):Int),.bool true])/\w.grownBy w' none
 fX:∀ v v',k.Z v->v.grownBy v' none->k.Z v'
 zt:∀ v,k.Z v->k.T 0 v
 CE:∀ p v v' row,k.T p v->v.grownBy v' row->(∀ i,row=some i->i≠B/\¬ k.need i)->k.T p v'
 Hi:∀ p p' v,k.T p v->k.T p' (v.setCell ⟨B,1,none⟩ (.int .i64 p'))
 mt:∀ S p ag v,k.M S p ag v->k.T p v
 fB:∀ S p ag v v' row,k.M S p ag v->v.grownBy v' row->(∀ i,row=some i->i≠B/\¬ k.need i/\¬ S i)->k.M S p ag v'
 mg:∀ S ag v,k.M S 1 ag v->base<=v.heap.size->(∀ i,S i->base<=i/\i<v.heap.size)->k.G S 0 ag v
 fC:∀ S t ag v v' row,k.G S t ag v->v.grownBy v' row->(∀ i,row=some i->i≠B/\¬ k.need i/\¬ S i)->k.G S t ag v'
 CF:∀ S t ag v i u,k.G S t ag v->i≠1->i≠3*j+2->i≠3*j+4->k.G S t ag (v.setCell ⟨B,i,none⟩ u)
 sub:∀ i,k.own i->k.need i
 old:∀ i,k.need i->i<base
 nB:∀ i,k.need i->i≠B
def aT (K:Nat->Kn):Nat->Nat
 | 0=>0
 | j+1=>aT K j+(K j).n
def xI (K:Nat->Kn):Prop:=∀ i j,i<13->j<13->i≠j->∀ b,(K i).own b->¬ (K j).need b
structure Ws (B base:Nat)(K:Nat->Kn)(I:World->Prop)(j:Nat)(p:Int)(w:World)(S:Nat->Nat->Prop):Prop where
 inv:I w
 sz:base<=w.heap.size
 m:∀ i,i<j->(K i).M (S i) p (aT K i) w
 t:∀ i,j<=i->i<13->(K i).T p w
 sb:∀ i,i<j->∀ b,S i b->base<=b/\b<w.heap.size
 di:∀ i i',i<j->i'<j->i≠i'->∀ b,S i b->¬ S i' b
theorem Ws.ae {B base:Nat}{K:Nat->Kn}{p:Int}{S:Nat->Nat->Prop}(hK:∀ j,j<13->fU B base (K j) j)(hj:j<=13)(h:Ws B base K I j p w S)(hg:w.grownBy w' none)(hI:I w'):Ws B base K I j p w' S :=
 ⟨hI,Nat.le_trans h.sz hg.size,fun i hi=>(hK i (by omega)).fB _ _ _ _ _ _ (h.m i hi) hg (by simp),fun i h1 h2=>(hK i h2).CE _ _ _ _ (h.t i h1 h2) hg (by simp),fun i hi b hb=>⟨(h.sb i hi b hb).1,Nat.lt_of_lt_of_le (h.sb i hi b hb).2 hg.size⟩,h.di⟩
theorem cD {K:Nat->Kn}(hK:∀ j,j<13->fU B base (K j) j)(hX:xI K)(hI:∀ v v' row,I v->v.grownBy v' row->(∀ i,row=some i->∃ j,j<13/\(K j).own i)->I v')(j:Nat)(hj:j<13)(p:Int)(hp:0<=p/\p<=1)(w:World)(dN:Int)(e:dN=(aT K j:Int))(hid:aT K j<=1000000){S:Nat->Nat->Prop}(h:Ws B base K I j p w S) :
  Calls Tryz.prog (fnW j) #[.pointer (some ⟨B,0,none⟩),.int .i64 dN] w fun en w'=>en=.returned (.int .i64 (aT K (j+1):Int))/\∃ S,Ws B base K I (j+1) p w' S:=by
 refine ((hK j hj).write p (aT K j) dN (fun v=>I v/\(∀ i,i<j->(K i).M (S i) p (aT K i) v)/\(∀ i,j<i->i<13->(K i).T p v)) w hp e hid (h.t j (Nat.le_refl _) hj) h.sz ⟨h.inv,h.m,fun i h1 h2=>h.t i (by omega) h2⟩ ?_).mono ?_
 ·rintro v v' row ⟨a1,a2,a3⟩ hg hr
  refine ⟨hI v v' row a1 hg (fun i hi=>⟨j,hj,hr i hi⟩),fun i hi=>(hK i (by omega)).fB _ _ _ _ _ _ (a2 i hi) hg (fun b hb=>?_),fun i h1 h2=>(hK i h2).CE _ _ _ _ (a3 i h1 h2) hg (fun b hb=>?_)⟩
  ·have ho:=hr b hb
   have hn:=(hK j hj).sub b ho;have:=(hK j hj).old b hn;exact ⟨(hK j hj).nB b hn,hX j i hj (by omega) (by omega) b ho,fun hs=>by have:=(h.sb i hi b hs).1;omega⟩
  ·have ho:=hr b hb
   have hn:=(hK j hj).sub b ho;exact ⟨(hK j hj).nB b hn,hX j i hj h2 (by omega) b ho⟩
 ·rintro en w' ⟨rfl,hsz,⟨a1,a2,a3⟩,S',hm,hS⟩
  refine ⟨rfl,fun i=>if i=j then S' else S i,a1,Nat.le_trans h.sz hsz,fun i hi=>?_,fun i h1 h2=>a3 i (by omega) h2,fun i hi b hb=>?_,fun i i' hi hi' hne b hb hb'=>?_⟩
  ·by_cases e:i=j
   ·subst e;simp only [if_true];exact hm
   ·simp only [if_neg e];exact a2 i (by omega)
  ·by_cases e:i=j
   ·subst e;simp only [if_true] at hb;have:=hS b hb;have:=h.sz;omega
   ·simp only [if_neg e] at hb;have:=h.sb i (by omega) b hb;omega
  ·by_cases e:i=j
   ·have e':i'≠j:=by omega
    simp only [if_pos e] at hb;simp only [if_neg e'] at hb';have:=hS b hb;have:=h.sb i' (by omega) b hb';omega
   ·simp only [if_neg e] at hb
    by_cases e':i'=j
    ·simp only [if_pos e'] at hb'
     have:=hS b hb';have:=h.sb i (by omega) b hb;omega
    ·simp only [if_neg e'] at hb'
     exact h.di i i' (by omega) (by omega) hne b hb hb'
structure Gw (B base:Nat)(K:Nat->Kn)(I:World->Prop)(j t:Nat)(w:World)(S:Nat->Nat->Prop):Prop where
 inv:I w
 c0:w.cell? ⟨B,0,none⟩=some (.int .i64 0)
 sz:base<=w.heap.size
 a:∀ i,i<j->(K i).G (S i) (t+1) (aT K i) w
 b:∀ i,j<=i->i<13->(K i).G (S i) t (aT K i) w
 sb:∀ i,i<13->∀ d,S i d->base<=d/\d<w.heap.size
 di:∀ i i',i<13->i'<13->i≠i'->∀ d,S i d->¬ S i' d
theorem dH {K:Nat->Kn}(qZ:B<base)(hK:∀ j,j<13->fU B base (K j) j)(hX:xI K)(hI:∀ v v' row,I v->v.grownBy v' row->(∀ i,row=some i->(∃ j,j<13/\(K j).own i)∨base<=i)->I v')(pE:∀ v i u,I v->I (v.setCell ⟨B,i,none⟩ u))(j:Nat)(hj:j<13)(t:Nat)(ht:t<70)(w:World)(dN tI:Int)(e:dN=(aT K j:Int))(et:tI=(t:Int))(hid:aT K j<=1000000){S:Nat->Nat->Prop}(h:Gw B base K I j t w S) :
  Calls Tryz.prog (fnG j) #[.pointer (some ⟨B,0,none⟩),.int .i64 dN,.int .i64 tI] w fun en w'=>en=.returned (.int .i64 (aT K (j+1):Int))/\∃ S,Gw B base K I (j+1) t w' S:=by
 have key:∀ i,i<13->i≠j->∀ b,((K j).own b∨S j b∨w.heap.size<=b)->b≠B/\¬ (K i).need b/\¬ S i b:=fun i hi hne b hb=>by
  have hsz:=h.sz;rcases hb with ho | hs | hn
  ·have hn:=(hK j hj).sub b ho
   have:=(hK j hj).old b hn;exact ⟨(hK j hj).nB b hn,hX j i hj hi (by omega) b ho,fun hs=>by have:=(h.sb i hi b hs).1;omega⟩
  ·have:=h.sb j hj b hs
   exact ⟨by omega,fun hd=>by have:=(hK i hi).old b hd;omega,fun hs'=>h.di j i hj hi (by omega) b hs hs'⟩
  ·exact ⟨by omega,fun hd=>by have:=(hK i hi).old b hd;omega,fun hs'=>by have:=(h.sb i hi b hs').2;omega⟩
 refine ((hK j hj).grow (S j) t (aT K j) dN tI (fun v=>I v/\v.cell? ⟨B,0,none⟩=some (.int .i64 0)/\(∀ i,i<j->(K i).G (S i) (t+1) (aT K i) v)/\(∀ i,j<i->i<13->(K i).G (S i) t (aT K i) v)) w ht e et hid (h.b j (Nat.le_refl _) hj) (h.sb j hj) h.sz ⟨h.inv,h.c0,h.a,fun i h1 h2=>h.b i (by omega) h2⟩ ?_ ?_).mono ?_
 ·rintro v v' row ⟨a1,a2,a3,a4⟩ hg hr
  have hsz:=h.sz;refine ⟨hI v v' row a1 hg (fun i hi=>?_),hg.cell a2 (fun eB=>?_),fun i hi=>(hK i (by omega)).fC _ _ _ _ _ _ (a3 i hi) hg (fun b hb=>key i (by omega) (by omega) b (hr b hb)),fun i h1 h2=>(hK i h2).fC _ _ _ _ _ _ (a4 i h1 h2) hg (fun b hb=>key i h2 (by omega) b (hr b hb))⟩
  ·rcases hr i hi with ho | hs | hn
   ·exact Or.inl ⟨j,hj,ho⟩
   ·exact Or.inr (h.sb j hj i hs).1
   ·exact Or.inr (by omega)
  ·rcases hr B eB.symm with ho | hs | hn
   ·exact (hK j hj).nB B ((hK j hj).sub B ho) rfl
   ·have:=(h.sb j hj B hs).1;omega
   ·omega
 ·rintro v u ⟨a1,a2,a3,a4⟩
  exact ⟨pE v _ u a1,by rw [World.cell?_setCell_other _ _ _ _ (eG (by omega))];exact a2,fun i hi=>(hK i (by omega)).CF _ _ _ _ _ _ (a3 i hi) (by omega) (by omega) (by omega),fun i h1 h2=>(hK i h2).CF _ _ _ _ _ _ (a4 i h1 h2) (by omega) (by omega) (by omega)⟩
 ·rintro en w' ⟨rfl,hsz,⟨a1,a2,a3,a4⟩,S',hm,hS⟩
  have hs0:=h.sz;refine ⟨rfl,fun i=>if i=j then S' else S i,a1,a2,Nat.le_trans h.sz hsz,fun i hi=>?_,fun i h1 h2=>?_,fun i hi b hb=>?_,fun i i' hi hi' hne b hb hb'=>?_⟩
  ·by_cases e:i=j
   ·subst e;simp only [if_true];exact hm
   ·simp only [if_neg e];exact a3 i (by omega)
  ·have e:i≠j:=by omega
   simp only [if_neg e];exact a4 i (by omega) h2
  ·by_cases e:i=j
   ·subst e
    simp only [if_true] at hb;have h1:=hS b hb;rcases h1.1 with h2 | h2
    ·exact ⟨(h.sb i hj b h2).1,h1.2⟩
    ·exact ⟨by omega,h1.2⟩
   ·simp only [if_neg e] at hb;have:=h.sb i hi b hb;omega
  ·by_cases e:i=j
   ·have e':i'≠j:=by omega
    simp only [if_pos e] at hb;simp only [if_neg e'] at hb';rcases (hS b hb).1 with h2 | h2
    ·exact h.di j i' hj hi' (by omega) b h2 hb'
    ·have:=(h.sb i' hi' b hb').2;omega
   ·simp only [if_neg e] at hb
    by_cases e':i'=j
    ·simp only [if_pos e'] at hb'
     rcases (hS b hb').1 with h2 | h2
     ·exact h.di i j hi hj (by omega) b hb h2
     ·have:=(h.sb i hi b hb).2;omega
    ·simp only [if_neg e'] at hb'
     exact h.di i i' hi hi' hne b hb hb'
def Ox (B j:Nat):Kn where
 n:=0
 own:=fun _=>False
 need:=fun _=>False
 Z:=fun w=>∃ ao c,w.cell? ⟨B,3*j+2,none⟩=some (.slice ao 0 c)
 T:=fun _ w=>∃ ao c,w.cell? ⟨B,3*j+2,none⟩=some (.slice ao 0 c)
 M:=fun _ _ _ w=>∃ ao c,w.cell? ⟨B,3*j+2,none⟩=some (.slice ao 0 c)
 G:=fun _ _ _ w=>∃ ao c,w.cell? ⟨B,3*j+2,none⟩=some (.slice ao 0 c)
theorem kY
  (hu:∀ w ao c,w.cell? ⟨B,3*j+2,none⟩=some (.slice ao 0 c)->Calls Tryz.prog (fnU j) #[.pointer (some ⟨B,0,none⟩)] w fun en w'=>en=.returned (.bool true)/\w'=w)
  (hw:∀ (id:Int) w ao c,w.cell? ⟨B,3*j+2,none⟩=some (.slice ao 0 c)->Calls Tryz.prog (fnW j) #[.pointer (some ⟨B,0,none⟩),.int .i64 id] w fun en w'=>en=.returned (.int .i64 id)/\w'=w)
  (hh:∀ (id:Int) w ao c,w.cell? ⟨B,3*j+2,none⟩=some (.slice ao 0 c)->Calls Tryz.prog (fnH j) #[.pointer (some ⟨B,0,none⟩),.int .i64 id] w fun en w'=>en=.returned (.tuple #[.int .i64 id,.bool true])/\w'=w)
  (hg:∀ (id t:Int) w ao c,w.cell? ⟨B,3*j+2,none⟩=some (.slice ao 0 c)->Calls Tryz.prog (fnG j) #[.pointer (some ⟨B,0,none⟩),.int .i64 id,.int .i64 t] w fun en w'=>en=.returned (.int .i64 id)/\w'=w):fU B base (Ox B j) j where
 bH:=fun w ⟨ao,c,h⟩=>(hu w ao c h).mono (by rintro en w' ⟨rfl,rfl⟩;exact ⟨rfl,(Qt.refl _).grown none⟩)
 write:=fun p ag dN I w _ e _ ⟨ao,c,h⟩ _ hI _=>(hw dN w ao c h).mono (by rintro en w' ⟨rfl,rfl⟩;exact ⟨by rw [e];rfl,Nat.le_refl _,hI,fun _=>False,⟨ao,c,h⟩,fun i hi=>hi.elim⟩)
 hold:=fun S p ag dN w _ e _ ⟨ao,c,h⟩=>(hh dN w ao c h).mono (by rintro en w' ⟨rfl,rfl⟩;exact ⟨by rw [e];rfl,(Qt.refl _).grown none⟩)
 grow:=fun S t ag dN tI I w _ e _ _ ⟨ao,c,h⟩ hS _ hI _ _=>(hg dN tI w ao c h).mono (by rintro en w' ⟨rfl,rfl⟩;exact ⟨by rw [e];rfl,Nat.le_refl _,hI,fun _=>False,⟨ao,c,h⟩,fun i hi=>hi.elim⟩)
 fW:=fun S ag dN w e _ ⟨ao,c,h⟩=>(hh dN w ao c h).mono (by rintro en w' ⟨rfl,rfl⟩;exact ⟨by rw [e];rfl,(Qt.refl _).grown none⟩)
 fX:=fun v v' ⟨ao,c,h⟩ hg=>⟨ao,c,hg.cell h (by simp)⟩
 zt:=fun v h=>h
 CE:=fun p v v' row ⟨ao,c,h⟩ hg hr=>⟨ao,c,hg.cell h (fun e=>(hr B e.symm).1 rfl)⟩
 Hi:=fun p p' v ⟨ao,c,h⟩=>⟨ao,c,by rw [World.cell?_setCell_other _ _ _ _ (eG (by omega))];exact h⟩
 mt:=fun S p ag v h=>h
 fB:=fun S p ag v v' row ⟨ao,c,h⟩ hg hr=>⟨ao,c,hg.cell h (fun e=>(hr B e.symm).1 rfl)⟩
 mg:=fun S ag v h _ _=>h
 fC:=fun S t ag v v' row ⟨ao,c,h⟩ hg hr=>⟨ao,c,hg.cell h (fun e=>(hr B e.symm).1 rfl)⟩
 CF:=fun S t ag v i u ⟨ao,c,h⟩ _ h2 _=>⟨ao,c,by rw [World.cell?_setCell_other _ _ _ _ (eG h2)];exact h⟩
 sub:=fun i h=>h
 old:=fun i h=>h.elim
 nB:=fun i h=>h.elim
theorem Ko (B base:Nat):fU B base (Ox B 2) 2:=kY (fun w _ _ h=>ry B w h) (fun id w _ _ h=>Au B id w h) (fun id w _ _ h=>DD B id w h) (fun id t w _ _ h=>DF B id t w h)
theorem yX (B base:Nat):fU B base (Ox B 4) 4:=kY (fun w _ _ h=>mA B w h) (fun id w _ _ h=>tF B id w h) (fun id w _ _ h=>vT B id w h) (fun id t w _ _ h=>vU B id t w h)
theorem Kp (B base:Nat):fU B base (Ox B 5) 5:=kY (fun w _ _ h=>rz B w h) (fun id w _ _ h=>Av B id w h) (fun id w _ _ h=>DG B id w h) (fun id t w _ _ h=>DI B id t w h)
theorem Kq (B base:Nat):fU B base (Ox B 8) 8:=kY (fun w _ _ h=>rA B w h) (fun id w _ _ h=>Aw B id w h) (fun id w _ _ h=>DJ B id w h) (fun id t w _ _ h=>DK B id t w h)
theorem Fh (B base:Nat):fU B base (Ox B 9) 9:=kY (fun w _ _ h=>pH B w h) (fun id w _ _ h=>xT B id w h) (fun id w _ _ h=>Ax B id w h) (fun id t w _ _ h=>Ay B id t w h)
theorem CG (B base:Nat):fU B base (Ox B 10) 10:=kY (fun w _ _ h=>nH B w h) (fun id w _ _ h=>vV B id w h) (fun id w _ _ h=>xU B id w h) (fun id t w _ _ h=>xV B id t w h)
theorem Kt (B base:Nat):fU B base (Ox B 11) 11:=kY (fun w _ _ h=>rE B w h) (fun id w _ _ h=>Az B id w h) (fun id w _ _ h=>DL B id w h) (fun id t w _ _ h=>DM B id t w h)
theorem Sh (B base:Nat):fU B base (Ox B 12) 12:=kY (fun w _ _ h=>vW B w h) (fun id w _ _ h=>IE B id w h) (fun id w _ _ h=>Mn B id w h) (fun id t w _ _ h=>Mo B id t w h)
def Xd (K:eP)(F:Nat):Prop:=∀ (B:Nat) (ps:Int) (_:0<=ps/\ps<=1) (vb:Value) (r c:Nat) (L:List au) (ag:Nat) (I:World->Prop) (w:World) (_:ag<=1000000) (_:Kc K w B ps vb r c L) (_:I w) (_:∀ w s j v,s∈L->j<s.C->I w->I (w.setCell ⟨s.g,s.o+j,none⟩ v)) (_:∀ w w',w.grownBy w' none->I w->I w'),
  Calls Tryz.prog F #[.pointer (some ⟨B,0,none⟩),.int .i64 ag] w fun en w'=>en=.returned (.int .i64 ((ag+L.length:Nat):Int))/\lU K I w' B ps vb r c L ag L.length 0
def aby (K:eP)(F:Nat):Prop:=∀ (B:Nat) (ps:Int) (_:0<=ps/\ps<=1) (vb vg:Value) (r c r2 c2:Nat) (L M:List au) (ag:Nat) (w:World) (_:ag<=1000000) (_:Kc K w B ps vb r c L) (_:Kg K w B ps vg r2 c2 M ag) (_:M.length=L.length∨M.length=0) (_:∀ (k:Nat) (s:au),L[k]?=some s->s.cK w (K.f ps (ag+k+1))),
  Calls Tryz.prog F #[.pointer (some ⟨B,0,none⟩),.int .i64 ag] w fun en w'=>en=.returned (.tuple #[.int .i64 ((ag+L.length:Nat):Int),.bool true])/\w.grownBy w' none
def abz (K:eP)(F:Nat):Prop:=∀ (B:Nat) (ps:Int) (_:0<=ps/\ps<=1) (vb CH:Value) (r c base ag:Nat) (L M0:List au) (t:Nat) (Q:Nat->Prop) (HH:Nat) (I:World->Prop) (w:World) (_:Gs K Q HH I w B ps vb CH r c base ag L M0 (cH t 0)) (_:t<=1000) (_:if t=0 then M0=[] else M0.length=L.length) (_:r≠B) (_:ag<=1000000) (_:∀ s∈L,s.n+t+1<=1099511627776)
  (_:∀ w w' row,I w->w.grownBy w' row->(∀ i,row=some i->Q i)->I w') (_:∀ w v,I w->I (w.setCell ⟨B,K.q+2,none⟩ v)) (_:∀ w s j v,s∈L->j<s.C->I w->I (w.setCell ⟨s.g,s.o+j,none⟩ v)),
  Calls Tryz.prog F #[.pointer (some ⟨B,0,none⟩),.int .i64 ag,.int .i64 t] w fun en w'=>en=.returned (.int .i64 ((ag+L.length:Nat):Int))/\∃ vg M,M.length=L.length/\Gs K Q HH I w' B ps vb vg r c base ag L M (cH t L.length)
theorem CI (t n:Nat){M:List au}(h:M.length=n):∀ k,k<M.length->cH t n k=cH (t+1) 0 k:=fun k hk=>by
 unfold cH;rw [if_pos (by omega),if_neg (by omega)]
structure gT (w:World)(B q:Nat):Prop where
 c:w.cell? ⟨B,q+2,none⟩=some (.slice none 0 0)
 f:w.frozen? ⟨B,q+2,none⟩=false
theorem gT.kept {row:Option Nat}(h:gT w B q)(hg:w.grownBy w' row)(hne:some B≠row):gT w' B q :=
 ⟨hg.cell h.c hne,(World.frozen?_of_block (hg.block B (World.block_lt_of_cell? w _ h.c) hne)).trans h.f⟩
theorem gT.set (h:gT w B q)(i:Nat)(u:Value)(hi:i≠q+2):gT (w.setCell ⟨B,i,none⟩ u) B q :=
 ⟨by rw [World.cell?_setCell_other _ _ _ _ (eG hi)];exact h.c,by simpa using h.f⟩
theorem lU.ks {K:eP}{L:List au}(h:lU K I w B ps vb r c L ag L.length 0):Ks K w B ps vb r c L ag :=
 ⟨h.bc,fun k s hk=>h.done k s (List.getElem?_eq_some_iff.1 hk).1 hk⟩
def rf (K:eP)(B base:Nat)(vb:Value)(r c:Nat)(L:List au)(U:World->Prop):Kn where
 n:=L.length
 own:=fun b=>∃ s∈L,s.g=b
 need:=fun b=>(∃ s∈L,s.g=b)∨b=r
 Z:=fun w=>U w/\Kc K w B 0 vb r c L/\gT w B K.q
 T:=fun p w=>Kc K w B p vb r c L/\gT w B K.q
 M:=fun _ p ag w=>Ks K w B p vb r c L ag/\gT w B K.q
 G:=fun S t ag w=>∃ vg M,(if t=0 then M=[] else M.length=L.length)/\xH K S w B 1 vb vg r c base ag L M (cH t 0)
theorem yY {K:eP}{L:List au}{U:World->Prop}(hq:K.q=3*j+2)(qZ:B<base)(hr:r<base/\r≠B)(hL:∀ s∈L,s.g<base/\s.g≠B/\s.n<=1099511620000)
  (hun:∀ w,U w->Kc K w B 0 vb r c L->Calls Tryz.prog (fnU j) #[.pointer (some ⟨B,0,none⟩)] w fun en w'=>en=.returned (.bool true)/\w.grownBy w' none) (hUk:∀ v v',U v->v.grownBy v' none->U v') (hwr:Xd K (fnW j)) (hho:aby K (fnH j)) (hgr:abz K (fnG j)):fU B base (rf K B base vb r c L U) j where
 bH:=fun w h=>hun w h.1 h.2.1
 write:=fun p ag dN I w hp e hid h hb hI hst=>by
  subst e;refine (hwr B p hp vb r c L ag (fun v=>I v/\w.heap.size<=v.heap.size/\gT v B K.q) w hid h.1 ⟨hI,Nat.le_refl _,h.2⟩ ?_ ?_).mono ?_
  ·rintro v s i u hs hi ⟨a1,a2,a3⟩
   have hg:=aA v s.g (s.o+i) u;exact ⟨hst _ _ _ a1 hg (fun b e=>⟨s,hs,Option.some.inj e⟩),Nat.le_trans a2 hg.size,a3.kept hg (fun e=>(hL s hs).2.1 (Option.some.inj e).symm)⟩
  ·rintro v v' hg ⟨a1,a2,a3⟩
   exact ⟨hst _ _ _ a1 hg (by simp),Nat.le_trans a2 hg.size,a3.kept hg (by simp)⟩
  ·rintro en w' ⟨rfl,hk⟩
   exact ⟨rfl,hk.inv.2.1,hk.inv.1,fun _=>False,⟨hk.ks,hk.inv.2.2⟩,fun i hi=>hi.elim⟩
 hold:=fun S p ag dN w hp e hid h=>by
  subst e;exact hho B p hp vb _ r c 0 0 L [] ag w hid h.1.bc (GZ h.2.c) (Or.inr rfl) h.1.marks
 grow:=fun S t ag dN tI I w ht e et hid h hS hb hI hst pE=>by
  subst e et;obtain ⟨vg,M,hM,hG⟩:=h;have hsz:=hG.gs.rB;refine (hgr B 1 (by omega) vb vg r c base ag L M t _ _ I w (hG.use I hI) (by omega) hM hr.2 hid (fun s hs=>by have:=(hL s hs).2.2;omega) (fun v v' row h1 h2 h3=>hst v v' row h1 h2 (fun i hi=>Or.inr (h3 i hi))) (fun v u h1=>by have:=pE v u h1;rw [hq];exact this) (fun v s i u hs _ h1=>hst v _ (some s.g) h1 (aA v s.g (s.o+i) u) (fun b e=>Or.inl ⟨s,hs,Option.some.inj e⟩))).mono ?_;rintro en w' ⟨rfl,uT,M',hM',mR⟩;refine ⟨rfl,mR.rB.2.2.2.2,mR.inv,_,⟨uT,M',by rw [if_neg (by omega)];exact hM',(xH.of mR (fun i hi=>(hS i hi).1) hb).tn (CI t L.length hM')⟩,fun i hi=>hi⟩
 fW:=fun S ag dN w e hid h=>by
  subst e;obtain ⟨vg,M,hM,hG⟩:=h;obtain ⟨r2,c2,hk⟩:=hG.kg;exact hho B 1 (by omega) vb vg r c r2 c2 L M ag w hid hG.gs.bc hk (Or.inl (by rw [if_neg (by omega)] at hM;exact hM)) hG.gs.lm
 fX:=fun v v' h hg=>⟨hUk v v' h.1 hg,h.2.1.kept hg (by simp) (by simp) (by simp),h.2.2.kept hg (by simp)⟩
 zt:=fun v h=>h.2
 CE:=fun p v v' row h hg hrw=>⟨h.1.kept hg (fun e=>(hrw B e.symm).1 rfl) (fun e=>(hrw r e.symm).2 (Or.inr rfl)) (fun s hs e=>(hrw _ e.symm).2 (Or.inl ⟨s,hs,rfl⟩)),h.2.kept hg (fun e=>(hrw B e.symm).1 rfl)⟩
 Hi:=fun p p' v h=>⟨h.1.Vc p' hr.2 (by omega),h.2.set 1 _ (by omega)⟩
 mt:=fun S p ag v h=>⟨h.1.bc,h.2⟩
 fB:=fun S p ag v v' row h hg hrw=>⟨h.1.kept hg (fun e=>(hrw B e.symm).1 rfl) (fun e=>(hrw r e.symm).2.1 (Or.inr rfl)) (fun s hs e=>(hrw _ e.symm).2.1 (Or.inl ⟨s,hs,rfl⟩)),h.2.kept hg (fun e=>(hrw B e.symm).1 rfl)⟩
 mg:=fun S ag v h hb hS=>⟨_,[],rfl,by
  have h1:=h.1.gb base ⟨h.2.c,h.2.f⟩ (fun s hs=>(hL s hs).1) hr.1 qZ hb;exact ⟨h1.gs,fun i hi=>by simp [Value.ownBlock] at hi,fun k m hm=>by simp at hm,hS⟩⟩
 fC:=fun S t ag v v' row ⟨vg,M,hM,hG⟩ hg hrw=>⟨vg,M,hM,hG.kept hg (fun i hi=>⟨(hrw i hi).1,fun e=>(hrw i hi).2.1 (Or.inr e),fun s hs e=>(hrw i hi).2.1 (Or.inl ⟨s,hs,e⟩),(hrw i hi).2.2⟩)⟩
 CF:=fun S t ag v i u ⟨vg,M,hM,hG⟩ h1 h2 h3=>⟨vg,M,hM,hG.Ou i u h1 (by omega) (by omega) hr.2⟩
 sub:=fun i h=>Or.inl h
 old:=fun i h=>by
  rcases h with ⟨s,hs,rfl⟩ | rfl
  ·exact (hL s hs).1
  ·exact hr.1
 nB:=fun i h=>by
  rcases h with ⟨s,hs,rfl⟩ | rfl
  ·exact (hL s hs).2.1
  ·exact hr.2
end Go.Proofs.YtgldkdbkaachkaaGreatDoor
