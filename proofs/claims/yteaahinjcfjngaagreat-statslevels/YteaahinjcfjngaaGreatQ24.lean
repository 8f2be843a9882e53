import Derived.Test.YteaahinjcfjngaaGreatQ23
import Derived.Test.YteaahinjcfjngaaGreatQ21
import Derived.Deep.RegionHeld3
import Derived.Deep.CutBlock
import Derived.Deep.DeepCutAuto
import Derived.Deep.CutRange
import Derived.Deep.QuietTactic
set_option maxRecDepth 100000
set_option maxHeartbeats 8000000
namespace Go.Proofs.YteaahinjcfjngaaGreat
open Go.RowKit
def ChkT (n:Nat)(x:NdT n):Prop:=∀ p∈flatT n x,p.chain.length<=100000
theorem ChkT.kid {n:Nat}{x:NdT (n+1)}(h:ChkT (n+1) x){y:NdT n}(hy:y∈(BnT.row (T:=NdT n) x).ns):ChkT n y:=fun p hp=>h p (List.mem_flatMap.2 ⟨y,hy,hp⟩)
theorem NoM.other {w w':World}{Lb lo hi d:Nat}{e:List Value}{x:NoT}(h:NoM w Lb lo hi e x)(hg:w.grownBy w' (some d))(hd:TgT w d 3)(hl:d<Lb):NoM w' Lb lo hi e x:=by
 have keep:∀ (a:Option Addr) (n c:Nat) (z:List Int),NmT w a n c z->(∀ ad,a=some ad->0<n->Lb<=ad.block)->NmT w' a n c z:=fun a n c z h1 h2 =>
  ⟨h1.len,h1.cap,h1.c2,h1.nil,h1.pl,h1.sz,h1.one,fun i e he=>by
   obtain ⟨b,off,q1,q2,q3⟩:=h1.cell i e he
   have hn:0<n:=by
    have:=(List.getElem?_eq_some_iff.1 he).1;have:=h1.len;omega
   have hb:Lb<=b:=h2 _ q1 hn
   have hs:w'.heap[b]?=w.heap[b]?:=by
    obtain ⟨_,_,q⟩:=q2;exact hg.block b (Array.getElem?_eq_some_iff.1 q).1 (fun e=>by have:=Option.some.inj e;omega)
   refine ⟨b,off,q1,?_,fun f v hv=>(World.cell?_of_block hs).trans (q3 f v hv)⟩;obtain ⟨cur,z,q⟩:=q2;exact ⟨cur,z,hs.trans q⟩⟩
 have bty:∀ (ao:Option Addr) (n c:Nat) (s:List Int),BtyT w ao n c s->BtyT w' ao n c s:=fun ao n c s hb=>by
  refine ⟨⟨hb.b.len,hb.b.nil,fun ad had j u hu=>?_⟩,fun ad h1 h2=>?_,hb.l1,hb.l2⟩
  ·have hj:j<s.length:=by have:=(List.getElem?_eq_some_iff.1 hu).1;simpa using this
   have hl:=hb.b.len;have h1:=hb.b.cells ad had j u hu;have ht:=hb.t ad had (by omega);have hbk:(ad.add j).block=ad.block:=by unfold Addr.add;split <;> rfl
   have hs:w'.heap[(ad.add j).block]?=w.heap[(ad.add j).block]?:=by
    rw [hbk];obtain ⟨_,_,q⟩:=id ht;exact hg.block _ (Array.getElem?_eq_some_iff.1 q).1 (fun e=>tg_ne ht hd (by decide) (Option.some.inj e))
   exact (World.cell?_of_block hs).trans h1
  ·have ht:=hb.t ad h1 h2
   obtain ⟨cur,z,q⟩:=id ht;exact ⟨cur,z,(hg.block _ (Array.getElem?_eq_some_iff.1 q).1 (fun e=>tg_ne ht hd (by decide) (Option.some.inj e))).trans q⟩
 obtain ⟨vp,es,ca,cn,cc,sa,sn,sc,ka,kn,kc,h1,h2,h3,h4,⟨cs,h5,h5'⟩,⟨ss,h6,h6'⟩,h7,h8⟩:=h;refine ⟨vp,es,ca,cn,cc,sa,sn,sc,ka,kn,kc,h1,own_blk h2 fun i _ ht=>?_,h3,h4.other hg hd (by decide),⟨cs,EsT.other h5 hg hd (by decide),h5'.mono (fun e c k=>?_)⟩,⟨ss,EsT.other h6 hg hd (by decide),h6'.mono (fun e c k=>?_)⟩,keep _ _ _ _ h7 h8,h8⟩
 ·obtain ⟨_,_,q⟩:=id ht
  exact hg.block i (Array.getElem?_eq_some_iff.1 q).1 (fun e=>tg_ne ht hd (by decide) (Option.some.inj e))
 ·obtain ⟨a,n,c',q1,q2,q3⟩:=k
  exact ⟨a,n,c',q1,keep _ _ _ _ q2 q3,q3⟩
 ·obtain ⟨ao,n,c',q1,q2⟩:=k
  exact ⟨ao,n,c',q1,bty _ _ _ _ q2⟩
theorem ToM.other {w w':World}{d Lb:Nat}(hg:w.grownBy w' (some d))(hd:TgT w d 3)(hl:d<Lb):∀ {es:List (List Value)} {xs:List NoT} {lo hi:Nat},ToM w Lb es xs lo hi->ToM w' Lb es xs lo hi
 | [],[],_,_,h=>h
 | _::es,_::xs,lo,hi,h=>by
  obtain ⟨m,h1,h2,h3,h4⟩:=h;exact ⟨m,h1,h2,h3.other hg hd hl,ToM.other hg hd hl h4⟩
 | [],_::_,_,_,h=>h.elim
 | _::_,[],_,_,h=>h.elim
theorem tg_node {w:World}{base n:Nat}{v:Value}{xs:List Value}(h:w.ownsRow base 61 6 v n xs):∀ g,v.ownBlock=some g->∃ t,TgT w g t/\ScT t=true:=fun g e=>⟨_,(own_lt10 h e).2.2,by decide⟩
theorem own_shape10 {w:World}{base n k:Nat}{t:TypeId}{v:Value}{xs:List Value}(h:w.ownsRow base t k v n xs):∃ a c,v=.slice a n c:=by
 rcases h.2 with ⟨h1,h0⟩ | ⟨g,cap,cur,hv,_⟩
 ·exact ⟨none,0,by rw [h1,h0]⟩
 ·exact ⟨_,cap,hv⟩
structure ToR (w w':World)(base:Nat)(v v':Value)(n0:Nat)(xs0:List Value)(es:List (List Value))(new:List NoT)(lo:Nat):Prop where
 own:w'.ownsRow base 61 6 v' (n0+new.length) (xs0++es.flatten)
 tm:ToM w' lo es new lo w'.heap.size
 gr:w.grownBy w' v.ownBlock
 at':∀ g,v'.ownBlock=some g->v.ownBlock=some g∨w.heap.size<=g
theorem ToR.trans {w w1 w2:World}{base n0 lo lo2:Nat}{v v1 v2:Value}{xs0:List Value}{e1 e2:List (List Value)}{x1 x2:List NoT}(h:ToR w w1 base v v1 n0 xs0 e1 x1 lo)(k:ToR w1 w2 base v1 v2 (n0+x1.length) (xs0++e1.flatten) e2 x2 lo2)(hl:w1.heap.size<=lo2):ToR w w2 base v v2 n0 xs0 (e1++e2) (x1++x2) lo:=by
 have hs:=h.gr.size;have hlo:=h.tm.le;refine ⟨?_,(h.tm.kept (FrT.row k.gr (tg_node h.own))).app (ToM.lowB (by omega) (k.tm.low hl)),h.gr.andThen k.gr (fun j e=>(h.at' j e).symm),fun g e=>?_⟩
 ·have:=k.own
  rw [List.length_append,List.flatten_append,<- List.append_assoc,<- Nat.add_assoc];exact this
 ·rcases k.at' g e with q | q
  ·exact h.at' g q
  ·exact .inr (by omega)
def TelC (n f:Nat):Prop:=∀ (x:NdT n) (b:Nat) (v:Value) (n0:Nat) (xs0:List Value) (base:Nat) (w:World),NodeT n w (.iface (tyN n) (.pointer (some ⟨b,0,none⟩))) x->OkT n x->ChkT n x->w.ownsRow base 61 6 v n0 xs0->base<=w.heap.size->n0+sizeT n x<=10000000->n<=1000000 ->
  Calls Tryz.prog f #[.pointer (some ⟨b,0,none⟩),v] w fun en w'=>∃ v' es',en=.returned v'/\ToR w w' base v v' n0 xs0 es' (tellT n n0 x) w.heap.size
theorem telL:TelC 0 175:=by
 intro x b v n0 xs0 base w hx ox hc ht hb hs hn
 have hlen:(LfT.ps x).length<=100000:=by
  have:=LokT.len (LokT.of ox);omega
 refine (ltell_any b x v n0 base xs0 w hx hlen (fun p hp=>?_) ht (by omega) hb).mono ?_
 ·have hv:=ox.2.2.2 p hp
  exact ⟨hv.k2,hv.v1,hc p hp⟩
 ·rintro en w' ⟨v',e,hi,rfl,ho,hno,hhi,hg,hat⟩
  refine ⟨v',[e],rfl,?_,ToM.one hno hhi,hg,hat⟩;have e1:[e].flatten=e:=by simp
  rw [e1];exact ho
def plc (l:List Nat):List (List Value):=l.map fun (k:Nat)=>[Value.int .i64 (k:Int)]
theorem FlT.keptR {w w':World}{g n k:Nat}{t:TypeId}{es:List (List Value)}{row:Option Nat}(h:FlT w g n k t es)(hg:w.grownBy w' row)(hd:∀ d,row=some d->d≠g):FlT w' g n k t es:=by
 obtain ⟨cur,h1,h2⟩:=h.row;exact ⟨⟨cur,(hg.block g (Array.getElem?_eq_some_iff.1 h1).1 (fun e=>hd g e.symm rfl)).trans h1,h2⟩,h.wf⟩
def RtC (n:Nat):Prop:=∀ (L:List (NdT n)) (a:Option Addr) (m c:Nat) (sa:Option Addr) (sm sc:Nat) (v:Value) (n0:Nat) (xs0:List Value) (base:Nat) (w:World),NsT n w a m c L->(∀ x∈L,OkT n x)->(∀ x∈L,ChkT n x)->m<=100000->w.ownsRow base 61 6 v n0 xs0->base<=w.heap.size->n0+sumT (sizeT n) L<=10000000->n<=1000000 ->
  Calls Tryz.prog 41 #[.agg #[.slice a m c,.slice sa sm sc],v] w fun en w'=>∃ v' es' P,en=.returned (.tuple #[v',.slice (some ⟨P,0,none⟩) m m])/\ToR w w' base v v' n0 xs0 es' (tellL (tellT n) n0 L) w.heap.size/\NmT w' (some ⟨P,0,none⟩) m m ((placesL (tellT n) n0 L).map fun (k:Nat)=>(k:Int))/\w.heap.size<=P
structure RtL (n:Nat)(w w':World)(base:Nat)(v v':Value)(n0:Nat)(xs0:List Value)(es:List (List Value))(L:List (NdT n))(P m k:Nat):Prop where
 r:ToR w w' base v v' n0 xs0 es (tellL (tellT n) n0 (L.take k)) (P+1)
 f:FlT w' P m 1 3 (plc (placesL (tellT n) n0 (L.take k)))
 p0:w.heap.size<=P
theorem RtL.next {n:Nat}{w w1 w2:World}{base:Nat}{v v1 v2:Value}{n0:Nat}{xs0:List Value}{e1 e2:List (List Value)}{L:List (NdT n)}{P m k:Nat}{x:NdT n}(h:RtL n w w1 base v v1 n0 xs0 e1 L P m k)(hx:L[k]?=some x)(hk:k<m)(hL:L.length=m)
  (hr:ToR w1 w2 base v1 v2 (n0+(tellL (tellT n) n0 (L.take k)).length) (xs0++e1.flatten) e2 (tellT n (n0+(tellL (tellT n) n0 (L.take k)).length) x) w1.heap.size) (T:Nat) (hT:T=n0+(tellL (tellT n) n0 (L.take (k+1))).length - 1) :
  RtL n w (w2.setCell ⟨P,k,none⟩ (.int .i64 (T:Int))) base v v2 n0 xs0 (e1++e2) L P m (k+1):=by
 have e0:tellL (tellT n) n0 (L.take (k+1))=tellL (tellT n) n0 (L.take k)++tellT n (n0+(tellL (tellT n) n0 (L.take k)).length) x:=by
  rw [takeS hx,tellL_snoc]
 have hr2:=h.r.trans hr (Nat.le_refl _);rw [<- e0] at hr2;have tP:=h.f.tg;have hne:∀ d,v1.ownBlock=some d->d≠P:=fun d e=>tg_ne (own_lt10 h.r.own e).2.2 tP (by decide)
 have f2:=h.f.keptR hr.gr hne
 have hpl:(plc (placesL (tellT n) n0 (L.take k))).length=k:=by
  unfold plc;rw [List.length_map,placesL_len,List.length_take];omega
 have f3:=f2.next (by omega) [.int .i64 (T:Int)] rfl (by simp [Value.oneCell'])
 rw [hpl,Nat.mul_one] at f3;have hgs:=grown_cell w2 P k (.int .i64 (T:Int));have hsz:(w2.setCell ⟨P,k,none⟩ (.int .i64 (T:Int))).heap.size=w2.heap.size:=by simp
 have hs1:=h.r.gr.size;have hp0:=h.p0;refine ⟨⟨?_,?_,hr2.gr.andThen hgs (fun j e=>by cases e;exact .inl (by omega)),hr2.at'⟩,?_,h.p0⟩
 ·exact own_blk hr2.own fun i e ht=>hgs.block i (by obtain ⟨_,_,q⟩:=ht;exact (Array.getElem?_eq_some_iff.1 q).1) (fun e2=>by
   have:=Option.some.inj e2;subst this;exact tg_ne ht f2.tg (by decide) rfl)
 ·rw [hsz]
  exact ToM.other hgs f2.tg (by omega) hr2.tm
 ·have e1':plc (placesL (tellT n) n0 (L.take (k+1)))=plc (placesL (tellT n) n0 (L.take k))++[[.int .i64 (T:Int)]]:=by
   rw [takeS hx,placesL_snoc];unfold plc;rw [List.map_append,List.map_singleton,hT,takeS hx]
  rw [e1'];exact f3
theorem sumT_snoc {T:Type}(g:T->Nat):∀ (L:List T) (x:T),sumT g (L++[x])=sumT g L+g x
 | [],x=>by simp [sumT]
 | y::L,x=>by rw [List.cons_append,sumT,sumT,sumT_snoc g L];omega
theorem size_pos:∀ (n:Nat) (x:NdT n),1<=sizeT n x
 | 0,_=>Nat.le_refl _
 | n+1,x=>by rw [sizeT];omega
theorem rtell_L:RtC 0:=by
 obtain ⟨ii,hii,hi0,hi1,hi2⟩:=info_parts info_i10;intro L a m c sa sm sc v n0 xs0 base w hr ox hc hm ht hb hs hn;have ln:=hr.len;have HR:=hZq hr;have OX:=hZq ox;have HC:=hZq hc;have HTW:=hZq ht;have HB:=hZq hb;have HS:=hZq hs;obtain ⟨va0,vc0,hv0⟩:=own_shape10 ht;subst hv0;clear hr ox hc ht hb hs;have e0:=cell_heap (i:=0) (heap_at0 w #[.slice a m c,.slice sa sm sc] 89) rfl;have G1:=hZq (World.grownBy_alloc w (.cells #[.slice a m c,.slice sa sm sc] 89) none);go_enter Tryz.func41,Tryz.ntmps41;go_upto_region 1 with fail
 generalize w.alloc (.cells #[.slice a m c,.slice sa sm sc] 89)=w1 at *
 go_wp2_with (at_make;refine wpList_make_full _ rfl _ _ 30 rfl w1.heap.size 3 ii (.int .i64 0) 1 Tryz.underlying30 hii hi0 hi1 _ _ _ _ m rfl rfl rfl rfl ?b2 ?b3 (Nat.le_refl _) ?_)
 case b2=>rw [hi2];omega
 case b3=>unfold maxLen;omega
 intro w2 hown2 hg2;have F2:=hZq (FlT.start hown2);have G2:=hZq (gZq G1.out hg2);have d0:=hg2.cell e0 (by simp);have hs1:=G1.out.size;obtain ⟨P,hP⟩:∃ P,P=w1.heap.size:=⟨_,rfl⟩;rw [<- hP] at F2 ⊢;have HP0:Hid (w.heap.size<=P):=by show _<=_;omega
 clear hown2 hg2 e0 hP
 have R2:Hid (RtL 0 w w2 base (.slice va0 n0 vc0) (.slice va0 n0 vc0) n0 xs0 [] L P m 0):=by
  refine ⟨⟨?_,?_,grown_any G2.out,fun g e=>.inl e⟩,?_,HP0.out⟩
  ·rw [List.take_zero,tellL,List.flatten_nil,List.append_nil]
   exact HTW.out.kept G2.out (Classical.em _)
  ·rw [List.take_zero,tellL]
   exact F2.out.lt
  ·rw [List.take_zero]
   exact F2.out
 clear F2
 go_wp2_with fail
 go_loopw [1,16] (fun sv si wr=>∃ (k:Nat) (es':List (List Value)),k<=m/\si=.int .i64 (k:Nat)/\RtL 0 w wr base (.slice va0 n0 vc0) sv n0 xs0 es' L P m k) (fun _ si _=>m - (intOf si).toNat)
 case atStart=>exact ⟨0,[],Nat.zero_le _,rfl,R2.out⟩
 case round =>
  obtain ⟨k,es1,hk,rfl,hrt⟩:=hrel;have RT:=hZq hrt;clear hrt R2;obtain ⟨va,vc,hv⟩:=own_shape10 RT.out.r.own;subst hv
  by_cases hlt:k<m
  ·have hx:L[k]?=some (L[k]'(by omega)):=List.getElem?_eq_getElem (by omega)
   revert hx
   generalize L[k]'(by omega)=x;intro hx;have FR:=hZq (FrT.row RT.out.r.gr (tg_node HTW.out));obtain ⟨g,off,u,rfl,c1,hu⟩:=(HR.out.kept FR.out).node hx;obtain ⟨b1,rfl⟩:=hu.atL;have HX:=hZq hx;have hme:=mL_tell;have i1:(k:Int)<(m:Int):=by omega
   have i0:(0:Int)<=(k:Int):=by omega
   have ox1:=OX.out x (List.mem_of_getElem? hx);have hc1:=HC.out x (List.mem_of_getElem? hx);obtain ⟨Q1,hQ1⟩:∃ Q1,n0+(tellL (tellT 0) n0 (L.take k)).length=Q1:=⟨_,rfl⟩
   have hsum:Q1+sizeT 0 x<=10000000:=by
    rw [<- hQ1,tellL_len (fun k x=>tell_len 0 k x)];have q1:=sumT_take (sizeT 0) (L:=L) (k+1);rw [takeS hx,sumT_snoc] at q1;have:=HS.out;omega
   have hbw:base<=wr.heap.size:=Nat.le_trans HB.out RT.out.r.gr.size;have HRO:=hZq RT.out.r.own;rw [hQ1] at HRO ⊢;have TC:=hZq (telL x b1 (.slice va Q1 vc) Q1 (xs0++es1.flatten) base wr hu ox1 hc1 HRO.out hbw hsum (by omega))
   have hT:∃ T:Nat,T=n0+(tellL (tellT 0) n0 (L.take (k+1))).length - 1/\Q1+(tellT 0 Q1 x).length=T+1/\T<=10000000:=by
    have e2:n0+(tellL (tellT 0) n0 (L.take (k+1))).length=Q1+sizeT 0 x:=by
     rw [takeS hx,tellL_snoc,List.length_append,tell_len,<- hQ1];omega
    have e3:1<=sizeT 0 x:=size_pos 0 x;exact ⟨_,rfl,by rw [tell_len];omega,by omega⟩
   obtain ⟨T,hT1,hT2,hT3⟩:=hT;have HT1:=hZq hT1;have HT2:=hZq hT2;have HQ1:=hZq hQ1;clear hx hu ox1 hc1 hT1 hT2 hsum hbw hQ1
   go_wp2_with fail
   refine TC.out.mono ?_;rintro en w5 ⟨v5,e5,rfl,hr5⟩;obtain ⟨a5,c5,hv5⟩:=own_shape10 hr5.own;rw [HT2.out] at hv5;subst hv5;have R5:=hZq hr5;have hw5:IntKind.i64.wrap (T:Int)=(T:Int):=by simp [IntKind.wrap,IntKind.signed,IntKind.bits];omega
   have hq5:((T+1:Nat):Int) - 1=(T:Int):=by omega
   have hne:∀ d,(Value.slice va Q1 vc).ownBlock=some d->d≠P:=fun d e=>tg_ne (own_lt10 HRO.out e).2.2 RT.out.f.tg (by decide)
   have FF:=RT.out.f.keptR hr5.gr hne;obtain ⟨⟨q0,f0⟩,z0⟩:=FF.cell (j:=k) (by omega);clear hr5 TC hne FF
   go_wp2_with fail
   go_roundw
   case rel=>exact ⟨k+1,es1++e5,by omega,by go_num,RT.out.next HX.out hlt (by omega) (by rw [HQ1.out];exact R5.out) T HT1.out⟩
   case measure=>simp [intOf];omega
  ·have hin:k=m:=by omega
   subst hin;have hta:L.take k=L:=List.take_of_length_le (by omega);have RT2:=RT.out;have hf2:=RT2.f;have hr2:=RT2.r;rw [hta] at hf2 hr2
   have HF:Hid (NmT wr (some ⟨P,0,none⟩) k k ((placesL (tellT 0) n0 L).map fun (k:Nat)=>(k:Int))):=by
    have:=hf2.es (by unfold plc;rw [List.length_map,placesL_len];omega) (by omega)
    show EsT _ _ _ _ _ _ _
    rw [List.map_map];exact this
   have HR2:Hid (ToR w wr base (.slice va0 n0 vc0) (.slice va (n0+(tellL (tellT 0) n0 (L.take k)).length) vc) n0 xs0 es1 (tellL (tellT 0) n0 L) w.heap.size):=by
    rw [hta];exact ⟨hr2.own,ToM.lowB (by have:=HP0.out;omega) (hr2.tm.low (by have:=HP0.out;omega)),hr2.gr,hr2.at'⟩
   clear RT2 hf2 hr2
   go_wp2_with fail
   go_ret2
   exact ⟨_,es1,P,rfl,HR2.out,HF.out,HP0.out⟩
theorem rtell_B {n:Nat}(hB:TelC (n+1) 188):RtC (n+1):=by
 obtain ⟨ii,hii,hi0,hi1,hi2⟩:=info_parts info_i10;intro L a m c sa sm sc v n0 xs0 base w hr ox hc hm ht hb hs hn;have ln:=hr.len;have HR:=hZq hr;have OX:=hZq ox;have HC:=hZq hc;have HTW:=hZq ht;have HB:=hZq hb;have HS:=hZq hs;obtain ⟨va0,vc0,hv0⟩:=own_shape10 ht;subst hv0;clear hr ox hc ht hb hs;have e0:=cell_heap (i:=0) (heap_at0 w #[.slice a m c,.slice sa sm sc] 89) rfl;have G1:=hZq (World.grownBy_alloc w (.cells #[.slice a m c,.slice sa sm sc] 89) none);go_enter Tryz.func41,Tryz.ntmps41;go_upto_region 1 with fail
 generalize w.alloc (.cells #[.slice a m c,.slice sa sm sc] 89)=w1 at *
 go_wp2_with (at_make;refine wpList_make_full _ rfl _ _ 30 rfl w1.heap.size 3 ii (.int .i64 0) 1 Tryz.underlying30 hii hi0 hi1 _ _ _ _ m rfl rfl rfl rfl ?b2 ?b3 (Nat.le_refl _) ?_)
 case b2=>rw [hi2];omega
 case b3=>unfold maxLen;omega
 intro w2 hown2 hg2;have F2:=hZq (FlT.start hown2);have G2:=hZq (gZq G1.out hg2);have d0:=hg2.cell e0 (by simp);have hs1:=G1.out.size;obtain ⟨P,hP⟩:∃ P,P=w1.heap.size:=⟨_,rfl⟩;rw [<- hP] at F2 ⊢;have HP0:Hid (w.heap.size<=P):=by show _<=_;omega
 clear hown2 hg2 e0 hP
 have R2:Hid (RtL (n+1) w w2 base (.slice va0 n0 vc0) (.slice va0 n0 vc0) n0 xs0 [] L P m 0):=by
  refine ⟨⟨?_,?_,grown_any G2.out,fun g e=>.inl e⟩,?_,HP0.out⟩
  ·rw [List.take_zero,tellL,List.flatten_nil,List.append_nil]
   exact HTW.out.kept G2.out (Classical.em _)
  ·rw [List.take_zero,tellL]
   exact F2.out.lt
  ·rw [List.take_zero]
   exact F2.out
 clear F2
 go_wp2_with fail
 go_loopw [1,16] (fun sv si wr=>∃ (k:Nat) (es':List (List Value)),k<=m/\si=.int .i64 (k:Nat)/\RtL (n+1) w wr base (.slice va0 n0 vc0) sv n0 xs0 es' L P m k) (fun _ si _=>m - (intOf si).toNat)
 case atStart=>exact ⟨0,[],Nat.zero_le _,rfl,R2.out⟩
 case round =>
  obtain ⟨k,es1,hk,rfl,hrt⟩:=hrel;have RT:=hZq hrt;clear hrt R2;obtain ⟨va,vc,hv⟩:=own_shape10 RT.out.r.own;subst hv
  by_cases hlt:k<m
  ·have hx:L[k]?=some (L[k]'(by omega)):=List.getElem?_eq_getElem (by omega)
   revert hx
   generalize L[k]'(by omega)=x;intro hx;have FR:=hZq (FrT.row RT.out.r.gr (tg_node HTW.out));obtain ⟨g,off,u,rfl,c1,hu⟩:=(HR.out.kept FR.out).node hx;obtain ⟨b1,rfl⟩:=hu.atB;have HX:=hZq hx;have hme:=mB_tell;have i1:(k:Int)<(m:Int):=by omega
   have i0:(0:Int)<=(k:Int):=by omega
   have ox1:=OX.out x (List.mem_of_getElem? hx);have hc1:=HC.out x (List.mem_of_getElem? hx);obtain ⟨Q1,hQ1⟩:∃ Q1,n0+(tellL (tellT (n+1)) n0 (L.take k)).length=Q1:=⟨_,rfl⟩
   have hsum:Q1+sizeT (n+1) x<=10000000:=by
    rw [<- hQ1,tellL_len (fun k x=>tell_len (n+1) k x)];have q1:=sumT_take (sizeT (n+1)) (L:=L) (k+1);rw [takeS hx,sumT_snoc] at q1;have:=HS.out;omega
   have hbw:base<=wr.heap.size:=Nat.le_trans HB.out RT.out.r.gr.size;have HRO:=hZq RT.out.r.own;rw [hQ1] at HRO ⊢;have TC:=hZq (hB x b1 (.slice va Q1 vc) Q1 (xs0++es1.flatten) base wr hu ox1 hc1 HRO.out hbw hsum (by omega))
   have hT:∃ T:Nat,T=n0+(tellL (tellT (n+1)) n0 (L.take (k+1))).length - 1/\Q1+(tellT (n+1) Q1 x).length=T+1/\T<=10000000:=by
    have e2:n0+(tellL (tellT (n+1)) n0 (L.take (k+1))).length=Q1+sizeT (n+1) x:=by
     rw [takeS hx,tellL_snoc,List.length_append,tell_len,<- hQ1];omega
    have e3:1<=sizeT (n+1) x:=size_pos (n+1) x;exact ⟨_,rfl,by rw [tell_len];omega,by omega⟩
   obtain ⟨T,hT1,hT2,hT3⟩:=hT;have HT1:=hZq hT1;have HT2:=hZq hT2;have HQ1:=hZq hQ1;clear hx hu ox1 hc1 hT1 hT2 hsum hbw hQ1
   go_wp2_with fail
   refine TC.out.mono ?_;rintro en w5 ⟨v5,e5,rfl,hr5⟩;obtain ⟨a5,c5,hv5⟩:=own_shape10 hr5.own;rw [HT2.out] at hv5;subst hv5;have R5:=hZq hr5;have hw5:IntKind.i64.wrap (T:Int)=(T:Int):=by simp [IntKind.wrap,IntKind.signed,IntKind.bits];omega
   have hq5:((T+1:Nat):Int) - 1=(T:Int):=by omega
   have hne:∀ d,(Value.slice va Q1 vc).ownBlock=some d->d≠P:=fun d e=>tg_ne (own_lt10 HRO.out e).2.2 RT.out.f.tg (by decide)
   have FF:=RT.out.f.keptR hr5.gr hne;obtain ⟨⟨q0,f0⟩,z0⟩:=FF.cell (j:=k) (by omega);clear hr5 TC hne FF
   go_wp2_with fail
   go_roundw
   case rel=>exact ⟨k+1,es1++e5,by omega,by go_num,RT.out.next HX.out hlt (by omega) (by rw [HQ1.out];exact R5.out) T HT1.out⟩
   case measure=>simp [intOf];omega
  ·have hin:k=m:=by omega
   subst hin;have hta:L.take k=L:=List.take_of_length_le (by omega);have RT2:=RT.out;have hf2:=RT2.f;have hr2:=RT2.r;rw [hta] at hf2 hr2
   have HF:Hid (NmT wr (some ⟨P,0,none⟩) k k ((placesL (tellT (n+1)) n0 L).map fun (k:Nat)=>(k:Int))):=by
    have:=hf2.es (by unfold plc;rw [List.length_map,placesL_len];omega) (by omega)
    show EsT _ _ _ _ _ _ _
    rw [List.map_map];exact this
   have HR2:Hid (ToR w wr base (.slice va0 n0 vc0) (.slice va (n0+(tellL (tellT (n+1)) n0 (L.take k)).length) vc) n0 xs0 es1 (tellL (tellT (n+1)) n0 L) w.heap.size):=by
    rw [hta];exact ⟨hr2.own,ToM.lowB (by have:=HP0.out;omega) (hr2.tm.low (by have:=HP0.out;omega)),hr2.gr,hr2.at'⟩
   clear RT2 hf2 hr2
   go_wp2_with fail
   go_ret2
   exact ⟨_,es1,P,rfl,HR2.out,HF.out,HP0.out⟩
end Go.Proofs.YteaahinjcfjngaaGreat
