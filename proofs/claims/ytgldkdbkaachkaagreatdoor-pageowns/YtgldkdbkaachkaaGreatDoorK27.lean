import Derived.Test.YtgldkdbkaachkaaGreatDoorK26
import Derived.Deep.RegionLaw
set_option maxRecDepth 100000
set_option maxHeartbeats 4000000
namespace Go.Proofs.YtgldkdbkaachkaaGreatDoor
open Go.RowKit
variable {nx:Int}{D Z:List Int}{B H W base cap cb lo lo' n q:Nat}{YY:Nat->List Value}{gf:Nat->Nat}{cs cs' cz:Nat->Value}{a bo:Option Addr}{t:TypeId}{w w' w0 w1 wr:World}
structure PZ (w:World)(lo:Nat)(t:TypeId)(W:Nat)(s:au):Prop where
 ok:s.Ok W
 th:s.fq w
 n:s.n<=1099511620000
 bl:mo w t s.g
 lo:lo<=s.g
theorem PZ.kept {s:au}{row:Option Nat}(h:PZ w lo t W s)(hg:w.grownBy w' row)(hne:some s.g≠row):PZ w' lo t W s:=⟨h.ok,h.th.kept hg hne,h.n,h.bl.row' hg hne,h.lo⟩
theorem PZ.from {s:au}(h:PZ w lo t W s)(hl:lo'<=lo):PZ w lo' t W s:=⟨h.ok,h.th,h.n,h.bl,Nat.le_trans hl h.lo⟩
theorem PZ.rdy {s:au}(h:PZ w lo t W s)(hf:∀ d,lo<=d->ja base cs d):Ho w base cs W t s:=⟨h.ok,h.th,h.n,h.bl,hf _ h.lo⟩
def KM (w:World)(lo:Nat)(t:TypeId)(W:Nat)(x:Ag):Prop:=(x.n=0/\x.c=0)∨∃ s:au,s.v=.slice x.a x.n x.c/\s.n=x.n/\s.c=x.c/\PZ w lo t W s
theorem KM.from {x:Ag}(h:KM w lo t W x)(hl:lo'<=lo):KM w lo' t W x:=by
 rcases h with h | ⟨s,h1,h2,h3,h4⟩
 ·exact .inl h
 ·exact .inr ⟨s,h1,h2,h3,h4.from hl⟩
theorem zF {xs:List Value}(h:w.ownsRow base t W (.slice a n cap) n xs)(hl:lo<=base)(hn:n<=20000):KM w lo t W ⟨a,n,cap⟩:=by
 rcases h.2 with ⟨e,h0⟩ | ⟨g,cap',cur,e,_⟩
 ·injection e with _ _ e3
  exact .inl ⟨h0,e3⟩
 ·injection e with e1 _ e3
  subst e1 e3;obtain ⟨l1,l2⟩:=CB h;have hb:=(h.lt g rfl).1;exact .inr ⟨⟨.slice (some ⟨g,0,none⟩) n cap,g,0,n,cap,n*W,cap*W⟩,rfl,rfl,rfl,⟨l1,rfl,rfl,by show n<=_;omega,l2,_,rfl,fun _=>rfl⟩,fun j hj=>⟨by obtain ⟨u,hu⟩:=qY h j hj;exact ⟨u,by rw [Nat.zero_add];exact hu⟩,by rw [Nat.zero_add];exact h.frozenAt j⟩,by show n<=_;omega,fM h g rfl,by show lo<=g;omega⟩
structure KP (w:World)(lo:Nat)(x:Pv)(D E F:List au):Prop where
 ap:(D++E++F).Pairwise au.bR
 lp:∀ s∈D++E++F,PZ w lo 5 1 s
 dl:D.length=2*x.i.n
 dc:∀ i,i<x.i.n->∃ b off k v,x.i.a=some ⟨b,off,none⟩/\D[2*i]?=some k/\D[2*i+1]?=some v/\w.cell? ⟨b,off+i*4,none⟩=some k.v/\w.cell? ⟨b,off+i*4+1,none⟩=some v.v/\mo w 63 b
 el:E.length=x.s.n
 ec:∀ i,i<x.s.n->∃ b off k,x.s.a=some ⟨b,off,none⟩/\E[i]?=some k/\w.cell? ⟨b,off+i,none⟩=some k.v/\mo w 25 b
 fc:(F=[]/\x.b.n=0/\x.b.c=0)∨∃ s,F=[s]/\s.v=.slice x.b.a x.b.n x.b.c/\s.n=x.b.n/\s.c=x.b.c
 i:KM w lo 63 4 x.i
 s:KM w lo 25 1 x.s
 d:KM w lo 69 2 x.d
 t:KM w lo 3 1 x.t
theorem KP.kept {x:Pv}{D E F:List au}{row:Option Nat}(h:KP w lo x D E F)(hg:w.grownBy w' row)(hb:∀ t g,t≠30->mo w t g->some g≠row):KP w' lo x D E F:=by
 have li:∀ {t:TypeId} {W:Nat} {y:Ag},t≠30->KM w lo t W y->KM w' lo t W y:=fun {t W y} ht hl=>by
  rcases hl with h | ⟨s,h1,h2,h3,h4⟩
  ·exact .inl h
  ·exact .inr ⟨s,h1,h2,h3,h4.kept hg (hb _ _ ht h4.bl)⟩
 refine ⟨h.ap,fun s hs=>(h.lp s hs).kept hg (hb _ _ (by decide) (h.lp s hs).bl),h.dl,fun i hi=>?_,h.el,fun i hi=>?_,h.fc,li (by decide) h.i,li (by decide) h.s,li (by decide) h.d,li (by decide) h.t⟩
 ·obtain ⟨b,off,k,v,h1,h2,h3,h4,h5,h6⟩:=h.dc i hi
  have hn:=hb _ _ (by decide) h6;exact ⟨b,off,k,v,h1,h2,h3,hg.cell h4 hn,hg.cell h5 hn,h6.row' hg hn⟩
 ·obtain ⟨b,off,k,h1,h2,h3,h4⟩:=h.ec i hi
  have hn:=hb _ _ (by decide) h4;exact ⟨b,off,k,h1,h2,hg.cell h3 hn,h4.row' hg hn⟩
theorem KP.zero (w:World)(lo:Nat)(k l x:Int)(h:Hd):KP w lo ⟨k,nS,l,nS,nS,x,nS,nS,h⟩ [] [] [] :=
 ⟨List.Pairwise.nil,fun s hs=>by simp at hs,rfl,fun i hi=>absurd hi (Nat.not_lt_zero i),rfl,fun i hi=>absurd hi (Nat.not_lt_zero i),.inl ⟨rfl,rfl,rfl⟩,.inl ⟨rfl,rfl⟩,.inl ⟨rfl,rfl⟩,.inl ⟨rfl,rfl⟩,.inl ⟨rfl,rfl⟩⟩
structure Pz (w0 w:World)(x:Pv)(p:Pg):Prop where
 pn:Pn w0 w x p
 pd:∃ D E F,KP w w0.heap.size x D E F
theorem Pz.page {T:Nat}{x y:Pv}{p:Pg}(h:Pz w0 w x p)(hx:Px w T y)(hg:w.grownBy w' (some T)):Pz w0 w' x p:=by
 obtain ⟨D,E,F,hd⟩:=h.pd;exact ⟨h.pn.page hx hg,D,E,F,hd.kept hg (fun t g ht hb e=>hb.ne (⟨_,_,hx⟩:mo w 30 T) ht (Option.some.inj e))⟩
theorem Pz.ae {x:Pv}{p:Pg}(h:Pz w0 w x p)(hg:w.grownBy w' none):Pz w0 w' x p:=by
 obtain ⟨D,E,F,hd⟩:=h.pd;exact ⟨h.pn.ae hg,D,E,F,hd.kept hg (fun _ _ _ _=>by simp)⟩
theorem KP.from {x:Pv}{D E F:List au}(h:KP w lo x D E F)(hl:lo'<=lo):KP w lo' x D E F :=
 ⟨h.ap,fun s hs=>(h.lp s hs).from hl,h.dl,h.dc,h.el,h.ec,h.fc,h.i.from hl,h.s.from hl,h.d.from hl,h.t.from hl⟩
theorem Pz.from{w00:World}{x:Pv}{p:Pg}(h:Pz w0 w x p)(hs:w00.heap.size<=w0.heap.size):Pz w00 w x p:=by
 obtain ⟨D,E,F,hd⟩:=h.pd;exact ⟨h.pn.from hs,D,E,F,hd.from hs⟩
theorem jA (w0 w:World):Pz w0 w zV zP:=⟨RP w0 w,[],[],[],KP.zero _ _ _ _ _ _⟩
theorem Tk (w0 w:World)(H:Hd):Pz w0 w ⟨5,nS,0,nS,nS,0,nS,nS,H⟩ ⟨5,[],0,[],[],0,[],[],H⟩:=⟨RT w0 w H,[],[],[],KP.zero _ _ _ _ _ _⟩
theorem Tm {L:List It}(h:Il w a L)(hb:Ib L)(hl:L.length=q)(hq:q<=9223372036854775807)(h5:L.length<=5000)(hp:Lw8 w1 w a q cap L)(hs:w0.heap.size<=w1.heap.size):Pz w0 w ⟨1,⟨a,q,cap⟩,0,nS,nS,0,nS,nS,zH⟩ ⟨1,L,0,[],[],0,[],[],zH⟩:=by
 obtain ⟨base,xs,R,G,kg,kn,vp,vm,pos,hb1,ho,UB,hG⟩:=hp.ex;obtain ⟨D,hD⟩:=UB.kdl ho hl hG;refine ⟨RQ h hb hl hq ((Nw.aP ho hb1).from hs),D,[],[],?_,fun s hs'=>?_,hD.len,fun i hi=>?_,rfl,fun i hi=>absurd hi (Nat.not_lt_zero i),.inl ⟨rfl,rfl,rfl⟩,zF ho (by omega) (by omega),.inl ⟨rfl,rfl⟩,.inl ⟨rfl,rfl⟩,.inl ⟨rfl,rfl⟩⟩
 ·rw [List.append_nil,List.append_nil];exact hD.ap
 ·rw [List.append_nil,List.append_nil] at hs'
  obtain ⟨k1,k2,k3,k4,k5⟩:=hD.ok s hs';exact ⟨k1,k2,k3,k4,by omega⟩
 ·obtain ⟨b,off,k,v,e1,e2,e3,e4,e5⟩:=hD.at' i hi
  exact ⟨b,off,k,v,e1,e2,e3,e4,e5,fM ho b (by rw [e1];rfl)⟩
def Xk (gf:Nat->Nat)(Z:List (List Int)):List au:=(List.range Z.length).map fun j=>⟨.slice (some ⟨gf j,0,none⟩) (Z.getD j []).length (Z.getD j []).length,gf j,0,(Z.getD j []).length,(Z.getD j []).length,(Z.getD j []).length,(Z.getD j []).length⟩
theorem Tp {Z:List (List Int)}{j:Nat}(h:j<Z.length):(Xk gf Z)[j]?=some ⟨.slice (some ⟨gf j,0,none⟩) (Z.getD j []).length (Z.getD j []).length,gf j,0,(Z.getD j []).length,(Z.getD j []).length,(Z.getD j []).length,(Z.getD j []).length⟩:=by simp [Xk,h]
theorem Tq {Z:List (List Int)}{s:au}(h:s∈Xk gf Z):∃ j,j<Z.length/\s=⟨.slice (some ⟨gf j,0,none⟩) (Z.getD j []).length (Z.getD j []).length,gf j,0,(Z.getD j []).length,(Z.getD j []).length,(Z.getD j []).length,(Z.getD j []).length⟩:=by
 obtain ⟨j,hj,rfl⟩:=List.mem_map.1 h;exact ⟨j,List.mem_range.1 hj,rfl⟩
theorem KQ {lv:Int}{b:Option Addr}{m bh:Nat}{L:List (List Int)}{K:List Kd}(h:Lz w a L)(hb:Lb L)(hl:L.length=q)(hq:q<=9223372036854775807)(hk:Kl w b K)(nu:K.length=m)(hm:m<=9223372036854775807)(h5:L.length<=5000/\K.length<=5000)(hp:Bp w1 w a q cap b m bh L K)(hs:w0.heap.size<=w1.heap.size) :
  Pz w0 w ⟨2,nS,lv,⟨a,q,cap⟩,⟨b,m,bh⟩,0,nS,nS,zH⟩ ⟨2,[],lv,L,K,0,[],[],zH⟩:=by
 obtain ⟨b1,xs,top,hb1,ho,hsu,Nq⟩:=hp.ex;obtain ⟨gf,g1,g2⟩:=hsu.ex;have hxl:=hsu.len;refine ⟨JQ h hb hl hq ((Nw.aP ho hb1).from hs) hk nu hm ((Nw.aP Nq hb1).from hs),[],Xk gf L,[],?_,fun s hs'=>?_,rfl,fun i hi=>absurd hi (Nat.not_lt_zero i),by simp only [Xk,List.length_map,List.length_range];exact hl,fun i hi=>?_,.inl ⟨rfl,rfl,rfl⟩,.inl ⟨rfl,rfl⟩,zF ho (by omega) (by omega),zF Nq (by omega) (by omega),.inl ⟨rfl,rfl⟩⟩
 ·rw [List.append_nil,List.nil_append,List.pairwise_iff_getElem]
  intro i j hi hj hij;simp only [Xk,List.getElem_map,List.getElem_range];simp only [Xk,List.length_map,List.length_range] at hi hj;have:=g2 i j hij hj;intro x y _ _ e;injection e with e1
  simp only at e1;omega
 ·rw [List.append_nil,List.nil_append] at hs'
  obtain ⟨j,hj,rfl⟩:=Tq hs';obtain ⟨k1,k2,k3,k4,k5⟩:=g1 j hj;have hsz:(((L.getD j []).map (Value.int .u8)).toArray).size=(L.getD j []).length:=by simp
  exact ⟨⟨Nat.le_refl _,by simp,by simp,by show (L.getD j []).length<=_;omega,by show (L.getD j []).length<=_;omega,_,rfl,fun _=>rfl⟩,fun i hi=>⟨⟨_,by rw [Nat.zero_add];exact (cell_of_row w (gf j) i _ _ _ k2).trans (Array.getElem?_eq_getElem (show i<_ by rw [hsz];exact hi))⟩,by rw [Nat.zero_add];exact frozen_of_row w (gf j) i _ _ k2⟩,by show (L.getD j []).length<=_;omega,⟨_,_,k2⟩,by show w0.heap.size<=gf j;omega⟩
 ·have hi':i<q:=hi
  obtain ⟨g,c,e,_,_⟩:=ho.form (by omega);injection e with e1 _ e3
  subst e1 e3;exact ⟨g,0,_,rfl,Tp (by omega),by rw [Nat.zero_add,ho.cellAt i (by omega)];exact (g1 i (by omega)).1,fM ho g rfl⟩
theorem Tr (h:ai w a q q D)(hb:Bt D)(hq:q<=4092)(hp:0<q->a=some ⟨w1.heap.size,7,none⟩/\∃ cur,w.heap[w1.heap.size]?=some (.cells cur 5 (0,0)))(hs:w0.heap.size<=w1.heap.size):Pz w0 w ⟨3,nS,0,nS,nS,nx,⟨a,q,q⟩,nS,zH⟩ ⟨3,[],0,[],[],nx,D,[],zH⟩:=by
 refine ⟨RR h hb (by omega),?_⟩;rcases Nat.eq_zero_or_pos q with h0 | h0
 ·subst h0
  exact ⟨[],[],[],List.Pairwise.nil,fun s hs=>by simp at hs,rfl,fun i hi=>absurd hi (Nat.not_lt_zero i),rfl,fun i hi=>absurd hi (Nat.not_lt_zero i),.inl ⟨rfl,rfl,rfl⟩,.inl ⟨rfl,rfl⟩,.inl ⟨rfl,rfl⟩,.inl ⟨rfl,rfl⟩,.inl ⟨rfl,rfl⟩⟩
 ·obtain ⟨rfl,cur,hc⟩:=hp h0
  refine ⟨[],[],[⟨.slice (some ⟨w1.heap.size,7,none⟩) q q,w1.heap.size,7,q,q,q,q⟩],by simp,fun s hs'=>?_,rfl,fun i hi=>absurd hi (Nat.not_lt_zero i),rfl,fun i hi=>absurd hi (Nat.not_lt_zero i),.inr ⟨_,rfl,rfl,rfl,rfl⟩,.inl ⟨rfl,rfl⟩,.inl ⟨rfl,rfl⟩,.inl ⟨rfl,rfl⟩,.inl ⟨rfl,rfl⟩⟩;simp only [List.nil_append,List.mem_singleton] at hs';subst hs';have hl:=h.len;refine ⟨⟨Nat.le_refl _,by simp,by simp,by show q<=_;omega,by show q<=_;omega,_,rfl,fun _=>rfl⟩,fun j hj=>⟨⟨.int .u8 (D.getD j 0),?_⟩,frozen_of_row w w1.heap.size (7+j) _ _ hc⟩,by show q<=_;omega,⟨_,_,hc⟩,hs⟩
  ·have hj':j<q:=hj
   have:=h.cells ⟨w1.heap.size,7,none⟩ rfl j (.int .u8 (D.getD j 0)) (Ht (by omega));rw [Addr.add_lit] at this;exact this
theorem Ts (h:Nt w a D)(hl:D.length=q)(hq:q<=1021)(hr:a≠none->∃ g,a=some ⟨g,0,none⟩/\w1.heap.size<=g/\Ri w g D)(hs:w0.heap.size<=w1.heap.size):Pz w0 w ⟨4,nS,0,nS,nS,nx,nS,⟨a,q,q⟩,zH⟩ ⟨4,[],0,[],[],nx,[],D,zH⟩:=by
 have hnw:Nw w0 w 3 a q:=fun h0=>by
  have hne:a≠none:=by
   obtain ⟨b,off,rfl,_⟩:=h.row 0 (by omega);simp
  obtain ⟨g,e1,e2,e3⟩:=hr hne;exact ⟨g,_,e1,by omega,e3⟩
 refine ⟨RS h hl (by omega) hnw,[],[],[],List.Pairwise.nil,fun s hs=>by simp at hs,rfl,fun i hi=>absurd hi (Nat.not_lt_zero i),rfl,fun i hi=>absurd hi (Nat.not_lt_zero i),.inl ⟨rfl,rfl,rfl⟩,.inl ⟨rfl,rfl⟩,.inl ⟨rfl,rfl⟩,.inl ⟨rfl,rfl⟩,?_⟩;rcases Nat.eq_zero_or_pos q with h0 | h0
 ·exact .inl ⟨h0,h0⟩
 ·have hne:a≠none:=by
   obtain ⟨b,off,rfl,_⟩:=h.row 0 (by omega);simp
  obtain ⟨g,rfl,e2,e3⟩:=hr hne;have hsz:((D.map (Value.int .i64)).toArray).size=q:=by simp [hl]
  exact .inr ⟨⟨.slice (some ⟨g,0,none⟩) q q,g,0,q,q,q,q⟩,rfl,rfl,rfl,⟨Nat.le_refl _,by simp,by simp,by show q<=_;omega,by show q<=_;omega,_,rfl,fun _=>rfl⟩,fun j hj=>⟨⟨_,by rw [Nat.zero_add];exact (cell_of_row w g j _ _ _ e3).trans (Array.getElem?_eq_getElem (show j<_ by rw [hsz];exact hj))⟩,by rw [Nat.zero_add];exact frozen_of_row w g j _ _ e3⟩,by show q<=_;omega,⟨_,_,e3⟩,by show w0.heap.size<=g;omega⟩
theorem KR:(Tryz.prog.info? 3).map (fun i=>(i.zero,i.size,i.bytes))=some (some (.int .i64 0),1,8):=by kernel_rfl
theorem CS (a:Option Addr)(n cap:Nat)(K:List Int)(w:World)(hl:Nt w a K)(hn:K.length=n)(hm:n<=100000) :
  Calls Tryz.prog 25 #[.slice a n cap] w fun en w'=>(∃ v,en=.returned v/\w'.ownsRow w.heap.size 3 1 v n (K.map (Value.int .i64)))/\w.grownBy w' none/\w.heap.size<w'.heap.size/\(n=0->mo w' 3 w.heap.size):=by
 obtain ⟨i1,jN,hy0,vL,jE⟩:=info_parts KR;have HL:=hJ hl;clear hl;go_enter Tryz.func25,Tryz.ntmps25
 go_wp2_with (at_make;refine wpList_make_own _ rfl _ _ 26 rfl w.heap.size 3 i1 (.int .i64 0) 1 Tryz.underlying26 jN hy0 vL _ _ _ n rfl rfl rfl ?b2 ?b3 (Nat.le_refl _) ?_)
 case b2=>rw [jE];omega
 case b3=>unfold maxLen;omega
 intro w0 aR hg0;have hs0:w.heap.size<w0.heap.size:=(aR.lt w.heap.size rfl).2;have O0:=hJ aR;have ye:=hJ (fM aR w.heap.size rfl);have G0:=hJ hg0;clear aR hg0;go_wp2;go_loopw [3,4] (fun sl si wr=>∃ i:Nat,i<=n/\si=.int .i64 i/\wr.ownsRow w.heap.size 3 1 sl i ((K.map (Value.int .i64)).take i)/\w.grownBy wr none/\w.heap.size<wr.heap.size/\(i=0->mo wr 3 w.heap.size)) (fun _ si _=>n - (intOf si).toNat)
 case atStart=>exact ⟨0,Nat.zero_le _,rfl,O0.out,G0.out,hs0,fun _=>ye.out⟩
 case round =>
  obtain ⟨i,hi',rfl,hown,hg,hs,hbl⟩:=hrel;have vJ:=hJ hbl;clear hbl ye;have HO:=hJ hown;have HG:=hJ hg;clear hown hg O0 G0
  by_cases hlt:i<n
  ·obtain ⟨b1,off,rfl,q2⟩:=HL.out.row i (by omega)
   have c0:=HG.out.cell q2 (by simp)
   have yF:Hid ((K.map (Value.int .i64)).take (i+1)=(K.map (Value.int .i64)).take i++[.int .i64 (K.getD i 0)]):=by
    show _=_
    rw [List.take_add_one,List.getElem?_map,List.getElem?_eq_getElem (show i<K.length by omega)];simp [List.getD,List.getElem?_eq_getElem (show i<K.length by omega)]
   clear q2;generalize K.getD i 0=no at *
   go_wp2_with (at_builtin;refine wpList_append_own _ rfl _ _ 26 rfl w.heap.size 3 i1 (.int .i64 0) 1 8 Tryz.underlying26 jN hy0 vL jE rfl (by decide) _ i ((K.map (Value.int .i64)).take i) rfl (HO.out.alloc _) ⟨wr.heap.size,0,none⟩ 1 1 [.int .i64 no] rfl rfl (cell_one_new _ _ _) (by intro u hu;simp at hu;subst hu;rfl) (by unfold maxLen;omega) (by omega) (by have:=HG.out.size;simp;omega) ?_)
   intro v' fI ho aW _;have Ww:=hJ ho;have bj:=hJ (mZ HG.out HO.out (Nat.le_refl _) aW);have hs1:w.heap.size<fI.heap.size:=by have:=aW.size;simp at this;omega
   clear ho aW HO HG c0;go_wp2;go_roundw
   case rel=>exact ⟨i+1,by omega,by go_num,by rw [yF.out];exact Ww.out,bj.out,hs1,fun e=>by omega⟩
   case measure=>simp [intOf];omega
  ·have hin:i=n:=by omega
   subst hin;have e:(K.map (Value.int .i64)).take i=K.map (Value.int .i64):=List.take_of_length_le (by rw [List.length_map];omega);rw [e] at HO;go_wp2;go_ret;exact ⟨⟨_,rfl,HO.out⟩,HG.out,hs,vJ.out⟩
structure Tn (w:World)(base:Nat)(cs:Nat->Value)(a:Option Addr)(Z:List Int):Prop where
 row:∀ i,i<Z.length->∃ b off,a=some ⟨b,off,none⟩/\w.cell? ⟨b,off+i,none⟩=some (.int .i64 (Z.getD i 0))/\ja base cs b
theorem Tn.cE (h:Tn w base cs a Z)(k:Kee w w' base cs cs'):Tn w' base cs' a Z:=by
 refine ⟨fun i hi=>?_⟩;obtain ⟨b,off,h1,h2,h3⟩:=h.row i hi;exact ⟨b,off,h1,k.cell h2 h3,(k.block b (World.block_lt_of_cell? w _ h2) h3).2⟩
theorem Tn.nt (h:Tn w base cs a Z):Nt w a Z:=by
 refine ⟨fun i hi=>?_⟩;obtain ⟨b,off,h1,h2,_⟩:=h.row i hi;exact ⟨b,off,h1,h2⟩
theorem Xl (h:w.ownsRow H 3 1 (.slice bo n cb) n (Z.map (Value.int .i64)))(hf:∀ i,(Value.slice bo n cb).ownBlock=some i->ja base cs i):Tn w base cs bo Z:=by
 refine ⟨fun i hi=>?_⟩;have hl:Z.length=n:=by have:=h.1;simpa using this
 rcases h.2 with ⟨e,h0⟩ | ⟨g,cap,cur,e,_⟩
 ·omega
 ·have e':=e
  injection e with e1
  subst e1;refine ⟨g,0,rfl,?_,hf g rfl⟩;rw [Nat.zero_add,h.cellAt i (by omega),List.getElem?_map,List.getElem?_eq_getElem hi];simp [List.getD,List.getElem?_eq_getElem hi]
def oY (w:World)(base:Nat)(cs:Nat->Value)(s:au)(y:Value):Prop:=∃ ao bo cb,∃ Z:List Int,s.v=.slice ao s.n s.c/\y=.slice bo s.n cb/\Tn w base cs ao Z/\Tn w base cs bo Z/\Z.length=s.n
theorem oY.cE (k:Kee w w' base cs cs'):∀ s y,oY w base cs s y->oY w' base cs' s y:=by
 rintro s y ⟨ao,bo,cb,zs,h1,h2,h3,h4,h5⟩;exact ⟨ao,bo,cb,zs,h1,h2,h3.cE k,h4.cE k,h5⟩
theorem CT:(Tryz.prog.info? 26).map (fun i=>(i.zero,i.size,i.bytes))=some (some (.slice none 0 0),1,24):=by kernel_rfl
theorem OP {kd:Nat->eP}{aM:Nat->World->Nat->(Nat->Value)->au->Value->Prop}(hK:Ku kd aM){LL:Nat->List au}(h:gU kd aM wr B base cz LL YY)(ek:kd 1=gZ)(es:aM 1=oY)(a:Option Addr)(n cap:Nat)(Z:List Int)(htn:Tn wr base cz a Z)(JD:Z.length=n)(hn:n<=100000)(hm:(LL 1).length<=1000000) :
  Calls Tryz.prog 38 #[.pointer (some ⟨B,0,none⟩),.slice a n cap] wr fun en w'=>en=.returned (.tuple #[])/\∃ cs' y,pF wr w' B base cz cs'/\(∀ s:au,s.v=.slice a n cap->s.n=n->s.c=cap->Ho wr base cz (kd 1).W (kd 1).et s->(∀ t∈LL 1,t.bR s)->gU kd aM w' B base cs' (bI LL 1 [s]) (CK YY 1 [y]))/\(n=0->cap=0->∃ s,wr.heap.size<=s.g/\s.C=0/\gU kd aM w' B base cs' (bI LL 1 [s]) (CK YY 1 [y])):=by
 obtain ⟨i0,hi,hz0,hz1,hz2⟩:=info_parts CT;have HT:=hJ h;have Vd:=hJ htn;have Sr:=hm;clear h htn hm;go_enter Tryz.func38,Tryz.ntmps38;have HX:=hJ HT.out.t.box;have Hp:Hid (wr.ownsRow base 26 1 (cz 5) (LL 1).length ((LL 1).map au.v)):=by have:=(HT.out.k 1 (by omega)).ob;rw [ek] at this;exact this
 have HOW:Hid (wr.ownsRow base 26 1 (cz 6) (LL 1).length (YY 1)):=by have:=(HT.out.k 1 (by omega)).ow;rw [ek] at this;exact this
 have qF:=HT.out.t.qj 5 (by omega);have qi:=HT.out.t.qj 6 (by omega);have hbase:=HT.out.t.bB.2;have qZ:=HT.out.t.bB.1;have wL:∀ i,(cz 5).ownBlock=some i->(cz 6).ownBlock≠some i:=HT.out.t.un 5 6 (by omega) (by omega) (by omega);have Ss:=hJ wL;have k2:=HX.out.cell 5 (by omega);obtain ⟨LJ,zj⟩:∃ LJ,LJ=LL 1:=⟨_,rfl⟩;obtain ⟨YJ,zk⟩:∃ YJ,YJ=YY 1:=⟨_,rfl⟩;rw [<- zj] at Hp HOW Sr;rw [<- zk] at HOW;have Sw:=hJ zj;have Sz:=hJ zk;clear zj zk
 go_wp2_with (at_builtin;refine wpList_append_lies _ rfl _ _ 36 rfl base 26 i0 (.slice none 0 0) 1 24 Tryz.underlying36 hi hz0 hz1 hz2 rfl (by decide) (cz 5) LJ.length (LJ.map au.v) rfl (Hp.out.alloc _) ⟨wr.heap.size,0,none⟩ 1 1 [.slice a n cap] rfl rfl (cell_one_new _ _ _) (by intro u hu;simp at hu;subst hu;rfl) (by omega) (by unfold maxLen;omega) (by omega) (by simp;omega) (wr.heap.size+1) (by simp) ?_)
 intro g1 c1 w1 hown1 hg1 dI iZ;have X1:Hid (uU w1 B cz):=(HX.out.kept (World.grownBy_alloc _ _ none) (by simp)).kept hg1 (Ne.symm qF);have X2:Hid (uU (w1.setCell ⟨B,5,none⟩ (.slice (some ⟨g1,0,none⟩) (LJ.length+1) c1)) B (dr cz 5 (.slice (some ⟨g1,0,none⟩) (LJ.length+1) c1))):=X1.out.set 5 (by omega) _;have QE:=X1.out.cell 5 (by omega);have f2':=X1.out.fz 5 (by omega);have qH:(w1.setCell ⟨B,5,none⟩ (.slice (some ⟨g1,0,none⟩) (LJ.length+1) c1)).cell? ⟨B,6,none⟩=some (cz 6):=(X2.out.cell 6 (by omega)).trans (by rw [bT _ _ (by omega)]);have f3':=X2.out.fz 6 (by omega);have H1:=hJ hown1;have bj:=hJ hg1;clear hown1 hg1;go_wp2;obtain ⟨w2,hw2⟩:∃ w2,w2=w1.setCell ⟨B,5,none⟩ (.slice (some ⟨g1,0,none⟩) (LJ.length+1) c1):=⟨_,rfl⟩;rw [<- hw2] at X2 qH f3' ⊢;have Hq:=hJ hw2;clear hw2;have kK:w2.heap.size=w1.heap.size:=by rw [Hq.out];simp
 have Oy:wr.heap.size<w1.heap.size:=by have:=bj.out.size;simp at this;omega
 have fx:w1.grownBy w2 (some B):=by rw [Hq.out];exact aA _ _ _ _
 have SA:Hid (Kee wr w2 base cz cz):=⟨by omega,fun d hd hf=>⟨(fx.block d (by omega) (fun e=>by have:=hf.1;have:=Option.some.inj e;omega)).trans ((bj.out.block d (by simp;omega) (fun e=>hf.2 5 (by omega) e.symm)).trans ((World.grownBy_alloc wr _ none).block d hd (by simp))),hf⟩⟩;have Y2:Hid (∀ w':World,w'.heap=w2.heap->Nt w' a Z):=fun w' e=>(Vd.out.cE SA.out).nt.heap e
 have O2:Hid (w2.ownsRow base 26 1 (cz 6) LJ.length YJ) :=
  (((HOW.out.alloc _).kept bj.out (by
   cases mX:(cz 6).ownBlock with
   | none=>exact Or.inl rfl
   | some i=>exact Or.inr (fun e=>wL i e.symm mX))).kept fx (Or.inr qi))
 have P2:Hid (w2.ownsRow base 26 1 (.slice (some ⟨g1,0,none⟩) (LJ.length+1) c1) (LJ.length+1) (LJ.map au.v++[.slice a n cap])) :=
  H1.out.kept fx (Or.inr (fun e=>by
   have e':g1=B:=Option.some.inj e;have:=HX.out.lt;rcases dI with h | h
   ·exact qF (by rw [h,e'])
   ·omega))
 have zl:=hJ fx;clear fx;have oO:=hJ kK;have hb2:base<=w2.heap.size:=by omega
 have SC:=hJ (fun i e=>(HOW.out.lt i e).2:∀ i,(cz 6).ownBlock=some i->i<wr.heap.size);clear kK;generalize mX:cz 6=vw at *
 go_region_law
  ((first
   | (go_simp;go_at_call 25;refine (CS a n cap Z _ (by exact Y2.out _ rfl) JD hn).mono ?_;rintro en w3 ⟨⟨v3,rfl,lZ⟩,hg3,hs3,FA⟩;obtain ⟨bo,cb,rfl⟩:=gV lZ;have jy:w3.cell? ⟨B,6,none⟩=some vw:=hg3.cell (by simpa using qH) (by simp);have nn3:=World.new_ne w3 ⟨B,6,none⟩ jy;have SD:∀ o:Obj,(w3.alloc o).cell? ⟨B,6,none⟩=some vw:=(fun o=>by rw [World.cell?_alloc_lt _ _ _ (World.block_lt_of_cell? _ _ jy)];exact jy);have SE:w3.frozen? ⟨B,6,none⟩=false:=(hg3.frozen_far ⟨B,6,none⟩ (by simpa using World.block_lt_of_cell? _ _ qH) (by simp)).trans (by simpa using f3'))
   | (refine step_append_lies _ (by rfl) _ _ _ (by rfl) base 26 i0 (.slice none 0 0) 1 24 Tryz.underlying36 hi hz0 hz1 hz2 (by rfl) (by decide) vw LJ.length YJ (by rfl) (by exact ((O2.out.kept ((Qt.refl w2).drew.grown none) (by cases vw.ownBlock <;> simp)).kept hg3 (by cases vw.ownBlock <;> simp)).alloc _) ⟨w3.heap.size,0,none⟩ 1 1 [.slice bo n cb] (by rfl) (by rfl) (by exact cell_one_new _ _ _) (by intro u hu;simp at hu;subst hu;rfl) (by omega) (by unfold maxLen;omega) (by omega) (by have h9:=hg3.size;simp at h9;simp;omega) (w3.heap.size+1) (by simp) ?_;intro g4 c4 w4 fS hg4 jO ED;have kk4:w4.cell? ⟨B,6,none⟩=some vw:=hg4.cell (by rw [World.cell?_alloc_lt _ _ _ (World.block_lt_of_cell? _ _ jy)];exact jy) (Ne.symm qi);have ff4:w4.frozen? ⟨B,6,none⟩=false:=(hg4.frozen_far ⟨B,6,none⟩ (by have:=World.block_lt_of_cell? _ _ jy;simp at this ⊢;omega) (Ne.symm qi)).trans ((World.frozen?_of_block ((World.grownBy_alloc w3 _ none).block B (World.block_lt_of_cell? _ _ jy) (by simp))).trans SE))))
 all_goals
  refine Go.Great.bodyPost_end0 rfl rfl ?_;subst mX;have zm:w2.heap.size<=w3.heap.size:=by have:=hg3.size;simpa using this
  have fu:=aA w4 B 6 (.slice (some ⟨g4,0,none⟩) (LJ.length+1) c4);have SF:=Fi.make (q:=5) (by omega) HX.out.lt HOW.out qF qi Ss.out bj.out dI iZ zl.out oO.out X2.out P2.out hg3 zm fS hg4 jO;have hBl:=HX.out.lt;have hS:=oO.out;have zn:=SC.out;have zo:Fi (kd 1).lt 5 wr (w4.setCell ⟨B,6,none⟩ (.slice (some ⟨g4,0,none⟩) (LJ.length+1) c4)) B cz base (LL 1).length ((LL 1).map au.v) (YY 1) (.slice a n cap) (.slice bo n cb) (.slice (some ⟨g1,0,none⟩) (LJ.length+1) c1) (.slice (some ⟨g4,0,none⟩) (LJ.length+1) c4):=by rw [<- Sw.out,<- Sz.out,ek];exact SF
  obtain ⟨s1,s2,s3⟩:=HT.out.snoc hK 1 5 (by omega) (by rw [ek];rfl) zo
  have zq:g4<w2.heap.size∨w3.heap.size<=g4:=by
   rcases jO with h | h
   ·exact Or.inl (by have:=zn g4 h;omega)
   ·exact Or.inr (by omega)
  have FC:∀ b,w2.heap.size<=b->b<w3.heap.size->ja base (dr (dr cz 5 (.slice (some ⟨g1,0,none⟩) (LJ.length+1) c1)) (5+1) (.slice (some ⟨g4,0,none⟩) (LJ.length+1) c4)) b:=fun b h1 h2=>lc HT.out.t (lo:=w2.heap.size) (hi:=w3.heap.size) (by omega) (by omega) zq h1 h2
  have KO:∀ {H W:Nat} {t:TypeId} {v:Value} {m:Nat} {xs:List Value},w3.ownsRow H t W v m xs->w2.heap.size<=H->(w4.setCell ⟨B,6,none⟩ (.slice (some ⟨g4,0,none⟩) (LJ.length+1) c4)).ownsRow H t W v m xs:=fun {H W t v m xs} ho hH=>by
   have hne:∀ i,v.ownBlock=some i->w2.heap.size<=i:=fun i e=>by have:=(ho.lt i e).1;omega
   have h5:=(ho.alloc (.cells #[.slice bo n cb] 26)).kept hg4 (by
    cases hv:v.ownBlock with
    | none=>exact Or.inl rfl
    | some i=>exact Or.inr (fun e=>by have:=hne i hv;have:=zn i e.symm;omega))
   exact h5.kept fu (by
    cases hv:v.ownBlock with
    | none=>exact Or.inl rfl
    | some i=>exact Or.inr (fun e=>by have:=hne i hv;have:=Option.some.inj e;omega))
  have SM:(∀ (s:au),s.v=.slice a n cap->s.n=n->s.c=cap->aM 1 (w4.setCell ⟨B,6,none⟩ (.slice (some ⟨g4,0,none⟩) (LJ.length+1) c4)) base (dr (dr cz 5 (.slice (some ⟨g1,0,none⟩) (LJ.length+1) c1)) (5+1) (.slice (some ⟨g4,0,none⟩) (LJ.length+1) c4)) s (.slice bo n cb)):=fun s e1 e2 e3=>by
   subst e2 e3;rw [es];exact ⟨a,bo,cb,Z,e1,rfl,Vd.out.cE s2.toKee,Xl (KO lZ (Nat.le_refl _)) (fun i hi=>by have:=lZ.lt i hi;exact FC i this.1 this.2),JD⟩
  refine ⟨rfl,_,_,s2,fun s e1 e2 e3 hr hap=>s3 s e1 hr.ok (s2.toKee.there hr.th hr.fr) hr.n (hr.bl.cE s2.toKee hr.fr) (s2.block s.g hr.bl.lt hr.fr).2 hap (SM s e1 e2 e3),fun e1 e2=>⟨rh (.slice a n cap) w2.heap.size,by show _<=w2.heap.size;omega,rfl,?_⟩⟩;subst e1 e2;refine s3 (rh (.slice a 0 0) w2.heap.size) rfl (uY _ _ _) (jb _ _ _) (by simp [rh]) ?_ (FC _ (Nat.le_refl _) (by show w2.heap.size<w3.heap.size;simpa using hs3)) (fun t _=>jc _ _ _) (SM _ rfl rfl rfl);have Dz:mo w3 3 w2.heap.size:=FA rfl;rw [ek];exact ((Dz.row' (World.grownBy_alloc _ _ none) (by simp)).row' hg4 (fun e=>by have:=zn _ e.symm;omega)).row' fu (fun e=>by have:=Option.some.inj e;omega)
theorem KS:(Tryz.prog.info? 69).map (fun i=>(i.zero,i.size,i.bytes))=some (some (.agg #[.int .i64 0,.int .i64 0]),2,16):=by kernel_rfl
structure Ty (w:World)(base:Nat)(cs:Nat->Value)(a:Option Addr)(Z:List Kd):Prop where
 row:∀ i,i<Z.length->∃ b off,a=some ⟨b,off,none⟩/\w.cell? ⟨b,off+i*2,none⟩=some (.int .i64 (Z.getD i dO).no)/\w.cell? ⟨b,off+i*2+1,none⟩=some (.int .i64 (Z.getD i dO).keys)/\ja base cs b
theorem Ty.cE {Z:List Kd}(h:Ty w base cs a Z)(k:Kee w w' base cs cs'):Ty w' base cs' a Z:=by
 refine ⟨fun i hi=>?_⟩;obtain ⟨b,off,h1,h2,h3,h4⟩:=h.row i hi;exact ⟨b,off,h1,k.cell h2 h4,k.cell h3 h4,(k.block b (World.block_lt_of_cell? w _ h2) h4).2⟩
theorem Ty.kl {Z:List Kd}(h:Ty w base cs a Z):Kl w a Z:=by
 refine ⟨fun i hi=>?_⟩;obtain ⟨b,off,h1,h2,h3,_⟩:=h.row i hi;exact ⟨b,off,h1,h2,h3⟩
theorem Xm {Z:List Kd}(h:w.ownsRow H 69 2 (.slice bo n cb) n (kc Z))(hf:∀ i,(Value.slice bo n cb).ownBlock=some i->ja base cs i):Ty w base cs bo Z:=by
 obtain ⟨a,cap,e,hk,hl,_,_⟩:=NH h;injection e with e1 _ _
 subst e1;refine ⟨fun i hi=>?_⟩;obtain ⟨b,off,h1,h2,h3⟩:=hk.row i hi;exact ⟨b,off,h1,h2,h3,hf b (by rw [h1];rfl)⟩
def oZ (w:World)(base:Nat)(cs:Nat->Value)(s:au)(y:Value):Prop:=∃ ao bo cb,∃ Z:List Kd,s.v=.slice ao s.n s.c/\y=.slice bo s.n cb/\Ty w base cs ao Z/\Ty w base cs bo Z/\Z.length=s.n
theorem oZ.cE (k:Kee w w' base cs cs'):∀ s y,oZ w base cs s y->oZ w' base cs' s y:=by
 rintro s y ⟨ao,bo,cb,zs,h1,h2,h3,h4,h5⟩;exact ⟨ao,bo,cb,zs,h1,h2,h3.cE k,h4.cE k,h5⟩
theorem CU (a:Option Addr)(n cap:Nat)(K:List Kd)(w:World)(hl:Kl w a K)(hn:K.length=n)(hm:n<=5000) :
  Calls Tryz.prog 24 #[.slice a n cap] w fun en w'=>(∃ v,en=.returned v/\w'.ownsRow w.heap.size 69 2 v n (kc K))/\w.grownBy w' none/\w.heap.size<w'.heap.size/\(n=0->mo w' 69 w.heap.size):=by
 obtain ⟨i1,jN,hy0,vL,jE⟩:=info_parts KS;have HL:=hJ hl;clear hl;go_enter Tryz.func24,Tryz.ntmps24
 go_wp2_with (at_make;refine wpList_make_own _ rfl _ _ 24 rfl w.heap.size 69 i1 (.agg #[.int .i64 0,.int .i64 0]) 2 Tryz.underlying24 jN hy0 vL _ _ _ n rfl rfl rfl ?b2 ?b3 (Nat.le_refl _) ?_)
 case b2=>rw [jE];omega
 case b3=>unfold maxLen;omega
 intro w0 aR hg0;have hs0:w.heap.size<w0.heap.size:=(aR.lt w.heap.size rfl).2;have O0:=hJ aR;have ye:=hJ (fM aR w.heap.size rfl);have G0:=hJ hg0;clear aR hg0;go_wp2;go_loopw [3,4] (fun sl si wr=>∃ i:Nat,i<=n/\si=.int .i64 i/\wr.ownsRow w.heap.size 69 2 sl i (kc (K.take i))/\w.grownBy wr none/\w.heap.size<wr.heap.size/\(i=0->mo wr 69 w.heap.size)) (fun _ si _=>n - (intOf si).toNat)
 case atStart=>exact ⟨0,Nat.zero_le _,rfl,O0.out,G0.out,hs0,fun _=>ye.out⟩
 case round =>
  obtain ⟨i,hi',rfl,hown,hg,hs,hbl⟩:=hrel;have vJ:=hJ hbl;clear hbl ye;have HO:=hJ hown;have HG:=hJ hg;clear hown hg O0 G0
  by_cases hlt:i<n
  ·obtain ⟨b1,off,rfl,q2,q3⟩:=HL.out.row i (by omega)
   have c0:=HG.out.cell q2 (by simp);have c1:=HG.out.cell q3 (by simp)
   have yF:Hid (kc (K.take (i+1))=kc (K.take i)++[.int .i64 (K.getD i dO).no,.int .i64 (K.getD i dO).keys]):=by
    show _=_
    rw [<- sO,List.take_add_one,List.getElem?_eq_getElem (show i<K.length by omega)];simp [List.getD,List.getElem?_eq_getElem (show i<K.length by omega)]
   clear q2 q3;generalize (K.getD i dO).no=no at *;generalize (K.getD i dO).keys=ks at *
   go_wp2_with (at_builtin;refine wpList_append_own _ rfl _ _ 24 rfl w.heap.size 69 i1 (.agg #[.int .i64 0,.int .i64 0]) 2 16 Tryz.underlying24 jN hy0 vL jE rfl (by decide) _ i (kc (K.take i)) rfl (HO.out.alloc _) ⟨wr.heap.size,0,none⟩ 1 1 [.int .i64 no,.int .i64 ks] rfl rfl (cell_two_new _ _ _ _) (by intro u hu;simp at hu;rcases hu with rfl | rfl <;> rfl) (by unfold maxLen;omega) (by omega) (by have:=HG.out.size;simp;omega) ?_)
   intro v' fI ho aW _;have Ww:=hJ ho;have bj:=hJ (mZ HG.out HO.out (Nat.le_refl _) aW);have hs1:w.heap.size<fI.heap.size:=by have:=aW.size;simp at this;omega
   clear ho aW HO HG c0 c1;go_wp2;go_roundw
   case rel=>exact ⟨i+1,by omega,by go_num,by rw [yF.out];exact Ww.out,bj.out,hs1,fun e=>by omega⟩
   case measure=>simp [intOf];omega
  ·have hin:i=n:=by omega
   subst hin;have e:K.take i=K:=by rw [<- hn,List.take_length]
   rw [e] at HO;go_wp2;go_ret;exact ⟨⟨_,rfl,HO.out⟩,HG.out,hs,vJ.out⟩
theorem CV:(Tryz.prog.info? 24).map (fun i=>(i.zero,i.size,i.bytes))=some (some (.slice none 0 0),1,24):=by kernel_rfl
theorem OQ {kd:Nat->eP}{aM:Nat->World->Nat->(Nat->Value)->au->Value->Prop}(hK:Ku kd aM){LL:Nat->List au}(h:gU kd aM wr B base cz LL YY)(ek:kd 7=fL)(es:aM 7=oZ)(a:Option Addr)(n cap:Nat)(Z:List Kd)(htn:Ty wr base cz a Z)(JD:Z.length=n)(hn:n<=5000)(hm:(LL 7).length<=1000000) :
  Calls Tryz.prog 37 #[.pointer (some ⟨B,0,none⟩),.slice a n cap] wr fun en w'=>en=.returned (.tuple #[])/\∃ cs' y,pF wr w' B base cz cs'/\(∀ s:au,s.v=.slice a n cap->s.n=n->s.c=cap->Ho wr base cz (kd 7).W (kd 7).et s->(∀ t∈LL 7,t.bR s)->gU kd aM w' B base cs' (bI LL 7 [s]) (CK YY 7 [y]))/\(n=0->cap=0->∃ s,wr.heap.size<=s.g/\s.C=0/\gU kd aM w' B base cs' (bI LL 7 [s]) (CK YY 7 [y])):=by
 obtain ⟨i0,hi,hz0,hz1,hz2⟩:=info_parts CV;have HT:=hJ h;have Vd:=hJ htn;have Sr:=hm;clear h htn hm;go_enter Tryz.func37,Tryz.ntmps37;have HX:=hJ HT.out.t.box;have Hp:Hid (wr.ownsRow base 24 1 (cz 23) (LL 7).length ((LL 7).map au.v)):=by have:=(HT.out.k 7 (by omega)).ob;rw [ek] at this;exact this
 have HOW:Hid (wr.ownsRow base 24 1 (cz 24) (LL 7).length (YY 7)):=by have:=(HT.out.k 7 (by omega)).ow;rw [ek] at this;exact this
 have qF:=HT.out.t.qj 23 (by omega);have qi:=HT.out.t.qj 24 (by omega);have hbase:=HT.out.t.bB.2;have qZ:=HT.out.t.bB.1;have wL:∀ i,(cz 23).ownBlock=some i->(cz 24).ownBlock≠some i:=HT.out.t.un 23 24 (by omega) (by omega) (by omega);have Ss:=hJ wL;have k2:=HX.out.cell 23 (by omega);obtain ⟨LJ,zj⟩:∃ LJ,LJ=LL 7:=⟨_,rfl⟩;obtain ⟨YJ,zk⟩:∃ YJ,YJ=YY 7:=⟨_,rfl⟩;rw [<- zj] at Hp HOW Sr;rw [<- zk] at HOW;have Sw:=hJ zj;have Sz:=hJ zk;clear zj zk
 go_wp2_with (at_builtin;refine wpList_append_lies _ rfl _ _ 42 rfl base 24 i0 (.slice none 0 0) 1 24 Tryz.underlying42 hi hz0 hz1 hz2 rfl (by decide) (cz 23) LJ.length (LJ.map au.v) rfl (Hp.out.alloc _) ⟨wr.heap.size,0,none⟩ 1 1 [.slice a n cap] rfl rfl (cell_one_new _ _ _) (by intro u hu;simp at hu;subst hu;rfl) (by omega) (by unfold maxLen;omega) (by omega) (by simp;omega) (wr.heap.size+1) (by simp) ?_)
 intro g1 c1 w1 hown1 hg1 dI iZ;have X1:Hid (uU w1 B cz):=(HX.out.kept (World.grownBy_alloc _ _ none) (by simp)).kept hg1 (Ne.symm qF);have X2:Hid (uU (w1.setCell ⟨B,23,none⟩ (.slice (some ⟨g1,0,none⟩) (LJ.length+1) c1)) B (dr cz 23 (.slice (some ⟨g1,0,none⟩) (LJ.length+1) c1))):=X1.out.set 23 (by omega) _;have QE:=X1.out.cell 23 (by omega);have f2':=X1.out.fz 23 (by omega);have qH:(w1.setCell ⟨B,23,none⟩ (.slice (some ⟨g1,0,none⟩) (LJ.length+1) c1)).cell? ⟨B,24,none⟩=some (cz 24):=(X2.out.cell 24 (by omega)).trans (by rw [bT _ _ (by omega)]);have f3':=X2.out.fz 24 (by omega);have H1:=hJ hown1;have bj:=hJ hg1;clear hown1 hg1;go_wp2;obtain ⟨w2,hw2⟩:∃ w2,w2=w1.setCell ⟨B,23,none⟩ (.slice (some ⟨g1,0,none⟩) (LJ.length+1) c1):=⟨_,rfl⟩;rw [<- hw2] at X2 qH f3' ⊢;have Hq:=hJ hw2;clear hw2;have kK:w2.heap.size=w1.heap.size:=by rw [Hq.out];simp
 have Oy:wr.heap.size<w1.heap.size:=by have:=bj.out.size;simp at this;omega
 have fx:w1.grownBy w2 (some B):=by rw [Hq.out];exact aA _ _ _ _
 have SA:Hid (Kee wr w2 base cz cz):=⟨by omega,fun d hd hf=>⟨(fx.block d (by omega) (fun e=>by have:=hf.1;have:=Option.some.inj e;omega)).trans ((bj.out.block d (by simp;omega) (fun e=>hf.2 23 (by omega) e.symm)).trans ((World.grownBy_alloc wr _ none).block d hd (by simp))),hf⟩⟩;have Y2:Hid (∀ w':World,w'.heap=w2.heap->Kl w' a Z):=fun w' e=>(Vd.out.cE SA.out).kl.heap e
 have O2:Hid (w2.ownsRow base 24 1 (cz 24) LJ.length YJ) :=
  (((HOW.out.alloc _).kept bj.out (by
   cases mX:(cz 24).ownBlock with
   | none=>exact Or.inl rfl
   | some i=>exact Or.inr (fun e=>wL i e.symm mX))).kept fx (Or.inr qi))
 have P2:Hid (w2.ownsRow base 24 1 (.slice (some ⟨g1,0,none⟩) (LJ.length+1) c1) (LJ.length+1) (LJ.map au.v++[.slice a n cap])) :=
  H1.out.kept fx (Or.inr (fun e=>by
   have e':g1=B:=Option.some.inj e;have:=HX.out.lt;rcases dI with h | h
   ·exact qF (by rw [h,e'])
   ·omega))
 have zl:=hJ fx;clear fx;have oO:=hJ kK;have hb2:base<=w2.heap.size:=by omega
 have SC:=hJ (fun i e=>(HOW.out.lt i e).2:∀ i,(cz 24).ownBlock=some i->i<wr.heap.size);clear kK;generalize mX:cz 24=vw at *
 go_region_law
  ((first
   | (go_simp;go_at_call 24;refine (CU a n cap Z _ (by exact Y2.out _ rfl) JD hn).mono ?_;rintro en w3 ⟨⟨v3,rfl,lZ⟩,hg3,hs3,FA⟩;obtain ⟨bo,cb,rfl⟩:=gV lZ;have jy:w3.cell? ⟨B,24,none⟩=some vw:=hg3.cell (by simpa using qH) (by simp);have nn3:=World.new_ne w3 ⟨B,24,none⟩ jy;have SD:∀ o:Obj,(w3.alloc o).cell? ⟨B,24,none⟩=some vw:=(fun o=>by rw [World.cell?_alloc_lt _ _ _ (World.block_lt_of_cell? _ _ jy)];exact jy);have SE:w3.frozen? ⟨B,24,none⟩=false:=(hg3.frozen_far ⟨B,24,none⟩ (by simpa using World.block_lt_of_cell? _ _ qH) (by simp)).trans (by simpa using f3'))
   | (refine step_append_lies _ (by rfl) _ _ _ (by rfl) base 24 i0 (.slice none 0 0) 1 24 Tryz.underlying42 hi hz0 hz1 hz2 (by rfl) (by decide) vw LJ.length YJ (by rfl) (by exact ((O2.out.kept ((Qt.refl w2).drew.grown none) (by cases vw.ownBlock <;> simp)).kept hg3 (by cases vw.ownBlock <;> simp)).alloc _) ⟨w3.heap.size,0,none⟩ 1 1 [.slice bo n cb] (by rfl) (by rfl) (by exact cell_one_new _ _ _) (by intro u hu;simp at hu;subst hu;rfl) (by omega) (by unfold maxLen;omega) (by omega) (by have h9:=hg3.size;simp at h9;simp;omega) (w3.heap.size+1) (by simp) ?_;intro g4 c4 w4 fS hg4 jO ED;have kk4:w4.cell? ⟨B,24,none⟩=some vw:=hg4.cell (by rw [World.cell?_alloc_lt _ _ _ (World.block_lt_of_cell? _ _ jy)];exact jy) (Ne.symm qi);have ff4:w4.frozen? ⟨B,24,none⟩=false:=(hg4.frozen_far ⟨B,24,none⟩ (by have:=World.block_lt_of_cell? _ _ jy;simp at this ⊢;omega) (Ne.symm qi)).trans ((World.frozen?_of_block ((World.grownBy_alloc w3 _ none).block B (World.block_lt_of_cell? _ _ jy) (by simp))).trans SE))))
 all_goals
  refine Go.Great.bodyPost_end0 rfl rfl ?_;subst mX;have zm:w2.heap.size<=w3.heap.size:=by have:=hg3.size;simpa using this
  have fu:=aA w4 B 24 (.slice (some ⟨g4,0,none⟩) (LJ.length+1) c4);have SF:=Fi.make (q:=23) (by omega) HX.out.lt HOW.out qF qi Ss.out bj.out dI iZ zl.out oO.out X2.out P2.out hg3 zm fS hg4 jO;have hBl:=HX.out.lt;have hS:=oO.out;have zn:=SC.out;have zo:Fi (kd 7).lt 23 wr (w4.setCell ⟨B,24,none⟩ (.slice (some ⟨g4,0,none⟩) (LJ.length+1) c4)) B cz base (LL 7).length ((LL 7).map au.v) (YY 7) (.slice a n cap) (.slice bo n cb) (.slice (some ⟨g1,0,none⟩) (LJ.length+1) c1) (.slice (some ⟨g4,0,none⟩) (LJ.length+1) c4):=by rw [<- Sw.out,<- Sz.out,ek];exact SF
  obtain ⟨s1,s2,s3⟩:=HT.out.snoc hK 7 23 (by omega) (by rw [ek];rfl) zo
  have zq:g4<w2.heap.size∨w3.heap.size<=g4:=by
   rcases jO with h | h
   ·exact Or.inl (by have:=zn g4 h;omega)
   ·exact Or.inr (by omega)
  have FC:∀ b,w2.heap.size<=b->b<w3.heap.size->ja base (dr (dr cz 23 (.slice (some ⟨g1,0,none⟩) (LJ.length+1) c1)) (23+1) (.slice (some ⟨g4,0,none⟩) (LJ.length+1) c4)) b:=fun b h1 h2=>lc HT.out.t (lo:=w2.heap.size) (hi:=w3.heap.size) (by omega) (by omega) zq h1 h2
  have KO:∀ {H W:Nat} {t:TypeId} {v:Value} {m:Nat} {xs:List Value},w3.ownsRow H t W v m xs->w2.heap.size<=H->(w4.setCell ⟨B,24,none⟩ (.slice (some ⟨g4,0,none⟩) (LJ.length+1) c4)).ownsRow H t W v m xs:=fun {H W t v m xs} ho hH=>by
   have hne:∀ i,v.ownBlock=some i->w2.heap.size<=i:=fun i e=>by have:=(ho.lt i e).1;omega
   have h5:=(ho.alloc (.cells #[.slice bo n cb] 24)).kept hg4 (by
    cases hv:v.ownBlock with
    | none=>exact Or.inl rfl
    | some i=>exact Or.inr (fun e=>by have:=hne i hv;have:=zn i e.symm;omega))
   exact h5.kept fu (by
    cases hv:v.ownBlock with
    | none=>exact Or.inl rfl
    | some i=>exact Or.inr (fun e=>by have:=hne i hv;have:=Option.some.inj e;omega))
  have SM:(∀ (s:au),s.v=.slice a n cap->s.n=n->s.c=cap->aM 7 (w4.setCell ⟨B,24,none⟩ (.slice (some ⟨g4,0,none⟩) (LJ.length+1) c4)) base (dr (dr cz 23 (.slice (some ⟨g1,0,none⟩) (LJ.length+1) c1)) (23+1) (.slice (some ⟨g4,0,none⟩) (LJ.length+1) c4)) s (.slice bo n cb)):=fun s e1 e2 e3=>by
   subst e2 e3;rw [es];exact ⟨a,bo,cb,Z,e1,rfl,Vd.out.cE s2.toKee,Xm (KO lZ (Nat.le_refl _)) (fun i hi=>by have:=lZ.lt i hi;exact FC i this.1 this.2),JD⟩
  refine ⟨rfl,_,_,s2,fun s e1 e2 e3 hr hap=>s3 s e1 hr.ok (s2.toKee.there hr.th hr.fr) hr.n (hr.bl.cE s2.toKee hr.fr) (s2.block s.g hr.bl.lt hr.fr).2 hap (SM s e1 e2 e3),fun e1 e2=>⟨rh (.slice a n cap) w2.heap.size,by show _<=w2.heap.size;omega,rfl,?_⟩⟩;subst e1 e2;refine s3 (rh (.slice a 0 0) w2.heap.size) rfl (uY _ _ _) (jb _ _ _) (by simp [rh]) ?_ (FC _ (Nat.le_refl _) (by show w2.heap.size<w3.heap.size;simpa using hs3)) (fun t _=>jc _ _ _) (SM _ rfl rfl rfl);have Dz:mo w3 69 w2.heap.size:=FA rfl;rw [ek];exact ((Dz.row' (World.grownBy_alloc _ _ none) (by simp)).row' hg4 (fun e=>by have:=zn _ e.symm;omega)).row' fu (fun e=>by have:=Option.some.inj e;omega)
theorem vq (B:Nat)(vb vw:Value)(r c r2 c2:Nat)(xs ys:List Value)(w:World)(h2:w.cell? ⟨B,5,none⟩=some vb)(h3:w.cell? ⟨B,6,none⟩=some vw)(hb:rU w vb r c xs)(hw:rU w vw r2 c2 ys)(hl:xs.length=ys.length)(hm:xs.length<=1000000)
  (hs:∀ (k:Nat) (x y:Value),xs[k]?=some x->ys[k]?=some y->∃ ao n ca bo cb,∃ Z:List Int,x=.slice ao n ca/\y=.slice bo n cb/\Nt w ao Z/\Nt w bo Z/\True/\Z.length=n/\n<=1099511627776) :
  Calls Tryz.prog 56 #[.pointer (some ⟨B,0,none⟩)] w fun en w'=>en=.returned (.bool true)/\w.grownBy w' none:=by
 obtain ⟨vo,dZ,dh⟩:=hb.val;obtain ⟨wo,mX,Hf⟩:=hw.val;have jx:=hJ dh;have Sg:=hJ Hf;have HB:=hJ hb;have HW:=hJ hw;have HS:=hJ hs;clear hb hw hs dh Hf;subst dZ mX;go_enter Tryz.func56,Tryz.ntmps56;go_wp2;go_loopw [3] (fun si wr=>∃ i:Nat,i<=xs.length/\si=.int .i64 i/\w.grownBy wr none) (fun si _=>xs.length - (intOf si).toNat)
 case atStart=>exact ⟨0,Nat.zero_le _,rfl,(Qt.refl _).grown none⟩
 case round =>
  obtain ⟨i,hi,rfl,hq⟩:=hrel;have HQ:=hJ hq;have k2:=hq.cell h2 (by simp);have k3:=hq.cell h3 (by simp);clear hq
  by_cases hlt:i<xs.length
  ·obtain ⟨x,hx⟩:∃ x,xs[i]?=some x:=⟨xs[i],List.getElem?_eq_getElem hlt⟩
   obtain ⟨y,hy⟩:∃ y,ys[i]?=some y:=⟨ys[i]'(by omega),List.getElem?_eq_getElem (by omega)⟩;obtain ⟨ao,n,ca,bo,cb,Z,rfl,rfl,ba,bb,bz,hz,hn⟩:=HS.out i x y hx hy;obtain rfl:=jx.out (by omega);obtain rfl:=Sg.out (by omega);have c1:=HQ.out.cell (HB.out.cells i _ hx) (by simp);have c2:=HQ.out.cell (HW.out.cells i _ hy) (by simp);have HD:=hJ (gQ HQ.out ((Qt.refl _).drew.grown none));have HC:=hJ (om ao n ca Z bo n cb Z wr.drew (ba.ae HD.out) hz (bb.ae HD.out) hz (by omega));clear ba bb bz;have CA:(i:Int)<(ys.length:Int):=by omega
   have g0:(0:Int)<=(i:Int):=by omega
   clear hx hy
   go_wp2_with fail
   go_region_with (go_at_call 33;refine HC.out.mono ?_;rintro en w3 ⟨⟨q,rfl,hq⟩,hg3⟩)
   all_goals
    obtain rfl:q=true:=by simpa using hq
    have rq:=hJ (gQ HD.out (hg3.grown none));clear hq hg3 HC HD;go_wp2;go_roundw
    case rel=>exact ⟨i+1,by omega,by go_num,rq.out⟩
    case measure=>simp [intOf];omega
  ·have hin:i=xs.length:=by omega
   subst hin;go_wp2;go_ret;exact ⟨rfl,HQ.out⟩
theorem FB (B:Nat)(ps:Int)(hp:0<=ps/\ps<=1)(vb CH:Value)(r c base ag:Nat)(L M0:List au)(t:Nat)(Q:Nat->Prop)(HH:Nat)(I:World->Prop)(w:World)(h:Gs dJ Q HH I w B ps vb CH r c base ag L M0 (cH t 0))(ht:t<=1000)(hM:if t=0 then M0=[] else M0.length=L.length)(Ah:r≠B)(hid:ag<=1000000)
  (hbd:∀ s∈L,s.n+t+1<=1099511627776)
  (rV:∀ w w' row,I w->w.grownBy w' row->(∀ i,row=some i->Q i)->I w') (pE:∀ w v,I w->I (w.setCell ⟨B,dJ.q+2,none⟩ v)) (mV:∀ w s j v,s∈L->j<s.C->I w->I (w.setCell ⟨s.g,s.o+j,none⟩ v)) :
  Calls Tryz.prog 100 #[.pointer (some ⟨B,0,none⟩),.int .i64 ag,.int .i64 t] w fun en w'=>en=.returned (.int .i64 ((ag+L.length:Nat):Int))/\∃ vg M,M.length=L.length/\Gs dJ Q HH I w' B ps vb vg r c base ag L M (cH t L.length):=by
 obtain ⟨i0,LA,hz0,hz1,hz2⟩:=info_parts CC;obtain ⟨i1,jN,Dm,EC,rG⟩:=info_parts Fg;have iA:=h.bc.many;obtain ⟨vo,dZ,dh⟩:=h.bc.row.val;rw [List.length_map] at dZ dh;have jx:=hJ dh;have jP:=hJ rV;have HIS:=hJ mV;have jp:=hJ pE;have pB:=hJ hbd;have H0:=hJ h;have SP:=hJ hM;clear h dh rV pE mV hbd hM;subst dZ;go_enter Tryz.func100,Tryz.ntmps100;go_wp2;go_loopw [1,7] (fun oP si wr=>∃ i:Nat,i<=L.length/\si=.int .i64 i/\oP=.int .i64 ((ag+i:Nat):Int)/\∃ vg M,(if t=0 then M.length=i else M.length=L.length)/\Gs dJ Q HH I wr B ps (.slice vo L.length c) vg r c base ag L M (cH t i)) (fun _ si _=>L.length - (intOf si).toNat)
 case atStart =>
  refine ⟨0,Nat.zero_le _,rfl,rfl,CH,M0,?_,H0.out⟩;have:=SP.out
  by_cases e:t=0
  ·rw [if_pos e] at this ⊢;rw [this];rfl
  ·rw [if_neg e] at this ⊢;exact this
 case round =>
  obtain ⟨i,hi,rfl,rfl,vg,M,Hu,hG⟩:=hrel;have HG:=hJ hG;have k2:wr.cell? ⟨B,20,none⟩=some (.slice vo L.length c):=hG.bc.lists;have pC:=hJ Hu;clear hG Hu H0
  by_cases hlt:i<L.length
  ·obtain ⟨s,hs⟩:∃ s,L[i]?=some s:=⟨L[i],List.getElem?_eq_getElem hlt⟩
   have HS:=hJ hs;obtain ⟨ao,eY,hao⟩:=(HG.out.bc.ok s (List.mem_of_getElem? hs)).1.val;obtain rfl:=jx.out (by omega)
   have cr:wr.cell? ⟨r,i,none⟩=some (.slice ao s.n s.c):=by
    rw [<- eY];exact HG.out.bc.row.cells i _ (by rw [List.getElem?_map,hs];rfl)
   have mM:=hJ eY;have p0:(0:Int)<=(i:Int):=by omega
   have p1:(i:Int)<(L.length:Int):=by omega
   clear hs hao eY
   go_upto_if 21 with fail
   go_cut [1,7] from 9 to 64 (fun s1 s7 wx=>s1=.int .i64 ((ag:Int)+(i:Int)+1)/\s7=.int .i64 (i:Int)/\∃ vg M,(if t=0 then M.length=i+1 else M.length=L.length)/\Gs dJ Q HH I wx B ps (.slice (some ⟨r,0,none⟩) L.length c) vg r c base ag L M (cH t i))
   case first =>
    by_cases Dq:t=0
    ·subst Dq
     have rY:Hid (M.length=i):=by have:=pC.out;exact hJ (by simpa using this)
     have SQ:M.length<=1000000:=by have:=rY.out;omega
     have k4:wr.cell? ⟨B,22,none⟩=some vg:=HG.out.gl;have f4:wr.frozen? ⟨B,22,none⟩=false:=HG.out.gz
     have SR:∀ o:Obj,(wr.alloc o).cell? ⟨B,22,none⟩=some vg:=fun o=>by
      rw [World.cell?_alloc_lt _ _ _ (World.block_lt_of_cell? _ _ k4)];exact k4
     have SS:∀ o:Obj,(wr.alloc o).cell? ⟨B,20,none⟩=some (.slice (some ⟨r,0,none⟩) L.length c):=fun o=>by
      rw [World.cell?_alloc_lt _ _ _ (World.block_lt_of_cell? _ _ k2)];exact k2
     have SU:∀ o:Obj,(wr.alloc o).cell? ⟨r,i,none⟩=some (.slice ao s.n s.c):=fun o=>by
      rw [World.cell?_alloc_lt _ _ _ (World.block_lt_of_cell? _ _ cr)];exact cr
     have zA:Hid (∀ (w':World) (o:Obj),w'.heap=(wr.alloc o).heap->w'.ownsRow base 22 1 vg M.length (M.map au.v)):=fun w' o e=>by
      have:=HG.out.own.alloc o;unfold World.ownsRow at this ⊢;rw [e];exact this
     have gp:Hid (∀ (w':World) (t:TypeId),w'.heap=(wr.alloc (.cells #[.slice ao s.n s.c] t)).heap->∀ j u,[Value.slice ao s.n s.c][j]?=some u->w'.cell? ((⟨wr.heap.size,0,none⟩:Addr).add j)=some u):=fun w' t e j u hu=>by
      rw [World.cell?_of_block (w:=wr.alloc (.cells #[.slice ao s.n s.c] t)) (by rw [e])];exact cell_one_new wr _ t j u hu
     have wL:=HG.out.rB.2.2.1;have Fs:=hJ HG.out.Cy;have Ck:=hJ HG.out.rB;go_wp2
     go_region_law
      ((refine step_append_lies _ (by rfl) _ _ _ (by rfl) base 22 i0 (.slice none 0 0) 1 24 Tryz.underlying41 LA hz0 hz1 hz2 (by rfl) (by decide) vg M.length (M.map au.v) (by rfl) (by exact zA.out _ _ rfl) ⟨wr.heap.size,0,none⟩ 1 1 [.slice ao s.n s.c] (by rfl) (by rfl) (by exact gp.out _ _ rfl) (by intro u hu;simp at hu;subst hu;rfl) (by omega) (by unfold maxLen;omega) (by omega) (by simp;omega) (wr.heap.size+1) (by simp) ?_;intro g1 c1 w1 hown1 hg1 dI iZ;have nB:some B≠vg.ownBlock:=(fun e=>by have:=Fs.out B e.symm;have:=Ck.out;omega);have nr:some r≠vg.ownBlock:=(fun e=>by have:=Fs.out r e.symm;have:=Ck.out;omega);have SV:w1.cell? ⟨B,22,none⟩=some vg:=hg1.cell (SR _) nB;have Hv:w1.cell? ⟨B,20,none⟩=some (.slice (some ⟨r,0,none⟩) L.length c):=hg1.cell (SS _) nB;have Hw:w1.cell? ⟨r,i,none⟩=some (.slice ao s.n s.c):=hg1.cell (SU _) nr;have SX:∀ v,(w1.setCell ⟨B,22,none⟩ v).cell? ⟨B,20,none⟩=some (.slice (some ⟨r,0,none⟩) L.length c):=(fun v=>by rw [World.cell?_setCell_other _ _ _ _ (eG (by omega))];exact Hv);have SY:∀ v,(w1.setCell ⟨B,22,none⟩ v).cell? ⟨r,i,none⟩=some (.slice ao s.n s.c):=(fun v=>by rw [World.cell?_setCell_other _ _ _ _ (fun e=>Ah (by injection e with e1;exact e1.symm))];exact Hw);have je:=gQ ((((Qt.refl (wr.alloc (.cells #[.slice ao s.n s.c] 22))).drew)).grown _) hg1;have SZ:w1.frozen? ⟨B,22,none⟩=false:=((je.frozen_far ⟨B,22,none⟩ (by simpa using Nat.lt_succ_of_lt (World.block_lt_of_cell? _ _ k4)) nB).trans (((World.grownBy_alloc wr (.cells #[.slice ao s.n s.c] 22) none).frozen_far ⟨B,22,none⟩ (World.block_lt_of_cell? _ _ k4) (by simp)).trans f4))))
     all_goals
      have HE:Hid (Gs dJ Q HH I (w1.setCell ⟨B,22,none⟩ (.slice (some ⟨g1,0,none⟩) (M.length+1) c1)) B ps (.slice (some ⟨r,0,none⟩) L.length c) (.slice (some ⟨g1,0,none⟩) (M.length+1) c1) r c base ag L (M++[s]) (cH 0 i)) :=
       HG.out.enter (.cells #[.slice ao s.n s.c] 22) (by rw [rY.out];exact HS.out) (by rw [rY.out];simp [cH]) jP.out jp.out (by decide) je (by rw [mM.out];exact hown1) (by
        rcases dI with h | h
        ·exact Or.inl h.symm
        ·exact Or.inr ⟨g1,rfl,by omega⟩) Ah
      clear SV Hv Hw SX SY SZ hg1 je hown1 dI iZ
      go_wp2_with fail
      go_meet
      case rel =>
       exact ⟨rfl,rfl,_,M++[s],by simp [rY.out],HE.out⟩
    ·have htb:((t:Int)==0)=false:=by simp;omega
     go_wp2_with fail
     go_meet
     case rel =>
      refine ⟨rfl,rfl,vg,M,?_,HG.out⟩;have:=pC.out;rw [if_neg Dq] at this ⊢;exact this
   case rest =>
    obtain ⟨rfl,rfl,uT,MM,gq,mR⟩:=hcut;have dP:=hJ mR;have Hy:=hJ gq
    have Hz:i<MM.length:=by
     by_cases e:t=0
     ·rw [if_pos e] at gq;omega
     ·rw [if_neg e] at gq;omega
    obtain ⟨rg,cg,mj,_,_⟩:=mR.own.form (by omega);subst mj;clear mR gq HG pC k2 cr;obtain ⟨m,hm⟩:∃ m,MM[i]?=some m:=⟨MM[i]'(by omega),List.getElem?_eq_getElem (by omega)⟩;have fD:=hJ hm;clear hm;have k4:wc.cell? ⟨B,22,none⟩=some (.slice (some ⟨rg,0,none⟩) MM.length cg):=dP.out.gl;have hmk:=dP.out.each i m fD.out;obtain ⟨am,zB,zX⟩:=hmk.1.val
    have cm:wc.cell? ⟨rg,i,none⟩=some (.slice am m.n m.c):=by
     rw [<- zB];have CA:=(List.getElem?_eq_some_iff.1 fD.out).1;exact (dP.out.own.cellAt i (by omega)).trans (by rw [List.getElem?_map,fD.out];rfl)
    have Ta:(i:Int)<(MM.length:Int):=by omega
    have fm:wc.frozen? ⟨rg,i,none⟩=false:=dP.out.own.frozenAt i
    have oU:m.n+1<=1099511627776:=by
     obtain ⟨s',hs',hn',_⟩:=hmk.2.2.2;have:=pB.out s' (List.mem_of_getElem? hs');rw [hn'];unfold cH;simp;omega
    have Tc:=hmk.1.le;have oV:Hid (m.N=m.n*4):=hmk.1.hN;have zC:=hJ zX;have Ia:=hJ zB;have qu:=hJ Hz;have Td:rg≠B:=by have:=dP.out.Cy rg rfl;have:=dP.out.rB;omega
    clear hmk zX zB Hz
    go_wp2_with fail
    obtain ⟨I1,PY⟩:∃ I1:Int,I1=((ag+i+1:Nat):Int):=⟨_,rfl⟩;obtain ⟨I2,Xn⟩:∃ I2:Int,I2=2*(m.n:Int)+ps:=⟨_,rfl⟩;refine (nc B ps (ag+i+1) m.n _ _ _ dP.out.bc.pass hp (by omega) (by omega) rfl).mono ?_;rintro en w4 ⟨rfl,hg4⟩;rw [<- PY,<- Xn]
    have Ie:Hid (∀ (x:Nat) (v:Value),[Value.slice none 0 0,.slice none 0 0,.int .i64 I1,.int .i64 I2][x]?=some v->v=dJ.f ps (ag+i+1) (m.N+x)):=fun x v hx=>by
     have hN:=oV.out
     match x with
     | 0 =>
      have e:dJ.f ps (ag+i+1) (m.N+0)=.slice none 0 0:=by rw [hN];exact OC _ _ _
      rw [e];exact (Option.some.inj hx).symm
     | 1 =>
      have e:dJ.f ps (ag+i+1) (m.N+1)=.slice none 0 0:=by rw [hN];exact OE _ _ _
      rw [e];exact (Option.some.inj hx).symm
     | 2 =>
      have e:dJ.f ps (ag+i+1) (m.N+2)=.int .i64 I1:=by rw [hN,PY];exact OG _ _ _
      rw [e];exact (Option.some.inj hx).symm
     | 3 =>
      have e:dJ.f ps (ag+i+1) (m.N+3)=.int .i64 I2:=by rw [hN,Xn];exact OH _ _ _
      rw [e];exact (Option.some.inj hx).symm
     | x+4=>simp at hx
    have ga:=World.grownBy_alloc w4 (.cells #[.slice none 0 0,.slice none 0 0,.int .i64 I1,.int .i64 I2] 63) none;have HY:=hJ (Bx.new w4 (.slice none 0 0) (.slice none 0 0) (.int .i64 I1) (.int .i64 I2));have FD:=hJ (gQ hg4 ga);have dP:=hJ (dP.out.more jP.out (gQ hg4 ga));clear hg4 ga PY Xn;go_upto_region 8 with fail
    generalize w4.alloc (.cells #[.slice none 0 0,.slice none 0 0,.int .i64 I1,.int .i64 I2] 63)=w5 at *;generalize w4.heap.size=U at *;have k4:=FD.out.cell k4 (by simp);have cm:=FD.out.cell cm (by simp);have fm:w5.frozen? ⟨rg,i,none⟩=false:=dP.out.own.frozenAt i;obtain ⟨y0,y1,y2,y3⟩:=HY.out.cells
    have ya:∀ (o:Obj) (x:Nat) (v:Value),w5.cell? ⟨U,x,none⟩=some v->(w5.alloc o).cell? ⟨U,x,none⟩=some v:=fun o x v hv=>by
     rw [World.cell?_alloc_lt _ _ _ (World.block_lt_of_cell? _ _ hv)];exact hv
    have ya0:=fun o=>ya o 0 _ y0
    have ya1:=fun o=>ya o 1 _ y1
    have ya2:=fun o=>ya o 2 _ y2
    have ya3:=fun o=>ya o 3 _ y3
    have g0:(0:Int)<=(i:Int):=by omega
    clear ya FD
    have sW:Hid (Gs dJ Q HH I (w5.alloc (.cells #[.slice none 0 0,.slice none 0 0,.int .i64 I1,.int .i64 I2] 63)).drew B ps (.slice (some ⟨r,0,none⟩) L.length c) (.slice (some ⟨rg,0,none⟩) MM.length cg) r c base ag L MM (cH t i)) :=
     dP.out.more jP.out (gQ (World.grownBy_alloc _ _ none) ((Qt.refl _).drew.grown none))
    have Py:∀ o:Obj,(w5.alloc o).cell? ⟨B,22,none⟩=some (.slice (some ⟨rg,0,none⟩) MM.length cg):=fun o=>by
     rw [World.cell?_alloc_lt _ _ _ (World.block_lt_of_cell? _ _ k4)];exact k4
    have kbm:∀ o:Obj,(w5.alloc o).cell? ⟨rg,i,none⟩=some (.slice am m.n m.c):=fun o=>by
     rw [World.cell?_alloc_lt _ _ _ (World.block_lt_of_cell? _ _ cm)];exact cm
    have gp:Hid (∀ (w':World) (ty:TypeId),w'.heap=(w5.alloc (.cells #[.slice none 0 0,.slice none 0 0,.int .i64 I1,.int .i64 I2] ty)).heap->∀ j u,[Value.slice none 0 0,.slice none 0 0,.int .i64 I1,.int .i64 I2][j]?=some u->w'.cell? ((⟨w5.heap.size,0,none⟩:Addr).add j)=some u):=fun w' ty e j u hu=>by
     rw [World.cell?_of_block (w:=w5.alloc (.cells #[.slice none 0 0,.slice none 0 0,.int .i64 I1,.int .i64 I2] ty)) (by rw [e])];exact dU w5 _ _ _ _ ty j u hu
    rcases Nat.lt_or_ge m.n m.c with hroom | hfull
    ·obtain rfl:=zC.out (by omega)
     have Jd:Hid (∀ (w':World),w'.heap=(w5.alloc (.cells #[.slice none 0 0,.slice none 0 0,.int .i64 I1,.int .i64 I2] 63)).heap->∀ j,j<[Value.slice none 0 0,.slice none 0 0,.int .i64 I1,.int .i64 I2].length->(w'.cell? ⟨m.g,m.o+m.n*4+j,none⟩).isSome=true/\w'.frozen? ⟨m.g,m.o+m.n*4+j,none⟩=false):=fun w' e j hj=>by
      have Dm:j<4:=by simpa using hj
      have hok:=(sW.out.each i m fD.out);have hr:=hok.1.room hroom;have hN:=oV.out;obtain ⟨⟨u,hu⟩,hf⟩:=hok.2.1 (m.N+j) (by unfold dJ at hr;simp only at hr;omega);rw [show m.o+m.n*4+j=m.o+(m.N+j) by omega,World.cell?_of_block (w:=(w5.alloc (.cells #[.slice none 0 0,.slice none 0 0,.int .i64 I1,.int .i64 I2] 63)).drew) (by rw [e];rfl),World.frozen?_of_block (w:=(w5.alloc (.cells #[.slice none 0 0,.slice none 0 0,.int .i64 I1,.int .i64 I2] 63)).drew) (by rw [e];rfl)];rw [hu];exact ⟨rfl,hf⟩
     have PG:Hid (∀ X,X=(w5.alloc (.cells #[.slice none 0 0,.slice none 0 0,.int .i64 I1,.int .i64 I2] 63)).drew.setCells m.g (m.o+m.n*4) [.slice none 0 0,.slice none 0 0,.int .i64 I1,.int .i64 I2]->Gs dJ Q HH I X B ps (.slice (some ⟨r,0,none⟩) L.length c) (.slice (some ⟨rg,0,none⟩) MM.length cg) r c base ag L MM (cH t i)/\Kf dJ Q X (.slice (some ⟨rg,0,none⟩) MM.length cg) base ag L MM (cH t i) ps i ⟨.slice (some ⟨m.g,m.o,none⟩) (m.n+1) m.c,m.g,m.o,m.n+1,m.c,m.N+dJ.W,m.C⟩):=fun X hX=>by
      rw [hX];exact sW.out.room fD.out hroom oU [Value.slice none 0 0,.slice none 0 0,.int .i64 I1,.int .i64 I2] rfl Ie.out _ (by rw [oV.out]) jP.out HIS.out
     have zD:Hid (∀ X,Gs dJ Q HH I X B ps (.slice (some ⟨r,0,none⟩) L.length c) (.slice (some ⟨rg,0,none⟩) MM.length cg) r c base ag L MM (cH t i)->X.cell? ⟨rg,i,none⟩=some (.slice (some ⟨m.g,m.o,none⟩) m.n m.c)):=fun X hX=>by
      rw [<- Ia.out];exact (hX.own.cellAt i (by have:=qu.out;omega)).trans (by rw [List.getElem?_map,fD.out];rfl)
     go_region_law
      ((refine bS (by rfl) _ _ _ (by rfl) 63 i1 4 Tryz.underlying22 jN EC m.g m.o m.n m.c (by rfl) ⟨w5.heap.size,0,none⟩ 1 1 [.slice none 0 0,.slice none 0 0,.int .i64 I1,.int .i64 I2] (by rfl) (by rfl) (by exact gp.out _ _ rfl) (by intro u hu;simp at hu;rcases hu with rfl | rfl | rfl <;> rfl) (by omega) (by exact Jd.out _ rfl) ?_;intro X hX;have fy:=PG.out X hX;have Te:X.cell? ⟨B,22,none⟩=some (.slice (some ⟨rg,0,none⟩) MM.length cg):=fy.1.gl;have Tf:=zD.out X fy.1;have Tg:X.frozen? ⟨rg,i,none⟩=false:=fy.1.own.frozenAt i;have oW:=hJ fy;clear fy hX))
     all_goals
      have HP:=hJ (oW.out.1.put oW.out.2 qu.out jP.out);rw [dY] at HP;go_wp2;go_roundw
      case rel =>
       refine ⟨i+1,by omega,by go_num,by go_num,_,_,?_,HP.out⟩;have h3:=Hy.out;rw [List.length_set];exact h3
      case measure=>simp [intOf];omega
    ·have HOLD:Hid (∀ (w':World),w'.heap=(w5.alloc (.cells #[.slice none 0 0,.slice none 0 0,.int .i64 I1,.int .i64 I2] 63)).heap->∀ b,am=some b->∀ j u,((List.range m.N).map fun j=>dJ.f ps (ag+i+1) j)[j]?=some u->w'.cell? (b.add j)=some u):=fun w' e b hb j u hu=>by
      have hj:j<m.N:=by have:=(List.getElem?_eq_some_iff.1 hu).1;simpa using this
      have hN:=oV.out;have hb':=zC.out (by omega);rw [hb] at hb';have hb2:=Option.some.inj hb';subst hb2;rw [List.getElem?_map,List.getElem?_range hj] at hu;have Th:=Option.some.inj hu;rw [Addr.add_lit,World.cell?_of_block (w:=(w5.alloc (.cells #[.slice none 0 0,.slice none 0 0,.int .i64 I1,.int .i64 I2] 63)).drew) (by rw [e];rfl),<- Th];exact sW.out.mm i m fD.out j hj
     have vK:Hid (am=none->m.n=0/\m.c=0):=fun e=>by
      rcases Nat.eq_zero_or_pos m.c with h0 | h0
      ·omega
      ·have:=zC.out h0;rw [e] at this;cases this
     obtain ⟨OL,sX⟩:∃ OL,OL=(List.range m.N).map fun j=>dJ.f ps (ag+i+1) j:=⟨_,rfl⟩
     have zE:OL.length=m.n*4:=by rw [sX];simpa using oV.out
     have oX:Hid (∀ gX cX X H,(w5.alloc (.cells #[.slice none 0 0,.slice none 0 0,.int .i64 I1,.int .i64 I2] 63)).drew.grownBy X none->(w5.alloc (.cells #[.slice none 0 0,.slice none 0 0,.int .i64 I1,.int .i64 I2] 63)).drew.heap.size<=H->X.ownsRow H 63 4 (.slice (some ⟨gX,0,none⟩) (m.n+1) cX) (m.n+1) (OL++[.slice none 0 0,.slice none 0 0,.int .i64 I1,.int .i64 I2])->Gs dJ Q HH I X B ps (.slice (some ⟨r,0,none⟩) L.length c) (.slice (some ⟨rg,0,none⟩) MM.length cg) r c base ag L MM (cH t i)/\Kf dJ Q X (.slice (some ⟨rg,0,none⟩) MM.length cg) base ag L MM (cH t i) ps i ⟨.slice (some ⟨gX,0,none⟩) (m.n+1) cX,gX,0,m.n+1,cX,m.N+dJ.W,cX*dJ.W⟩):=fun gX cX X H h1 h2 h3=>by
      rw [sX] at h3;exact sW.out.full fD.out [Value.slice none 0 0,.slice none 0 0,.int .i64 I1,.int .i64 I2] rfl Ie.out jP.out h1 h2 oU h3
     rw [<- sX] at HOLD;clear sX
     have zD:Hid (∀ X,Gs dJ Q HH I X B ps (.slice (some ⟨r,0,none⟩) L.length c) (.slice (some ⟨rg,0,none⟩) MM.length cg) r c base ag L MM (cH t i)->X.cell? ⟨rg,i,none⟩=some (.slice am m.n m.c)):=fun X hX=>by
      rw [<- Ia.out];exact (hX.own.cellAt i (by have:=qu.out;omega)).trans (by rw [List.getElem?_map,fD.out];rfl)
     go_region_law
      ((refine step_append_grows (by rfl) _ _ _ (by rfl) 63 i1 (.agg #[.slice none 0 0,.slice none 0 0,.int .i64 0,.int .i64 0]) 4 64 Tryz.underlying22 jN Dm EC rG (by rfl) (by decide) am m.n m.c OL (by rfl) vK.out zE (by exact HOLD.out _ rfl) ⟨w5.heap.size,0,none⟩ 1 1 [.slice none 0 0,.slice none 0 0,.int .i64 I1,.int .i64 I2] (by rfl) (by rfl) (by exact gp.out _ _ rfl) (by intro u hu;simp at hu;rcases hu with rfl | rfl | rfl <;> rfl) (by omega) (by unfold maxLen;omega) (by omega) ?_;intro v' X eR Fv;obtain ⟨gX,cX,Tj,_,_⟩:=eR.form (by omega);subst Tj;have fy:=oX.out gX cX X _ Fv (by exact Nat.le_refl _) eR;have Te:X.cell? ⟨B,22,none⟩=some (.slice (some ⟨rg,0,none⟩) MM.length cg):=fy.1.gl;have Tf:=zD.out X fy.1;have Tg:X.frozen? ⟨rg,i,none⟩=false:=fy.1.own.frozenAt i;have oW:=hJ fy;clear fy eR Fv))
     all_goals
      have HP:=hJ (oW.out.1.put oW.out.2 qu.out jP.out);rw [dY] at HP;go_wp2;go_roundw
      case rel =>
       refine ⟨i+1,by omega,by go_num,by go_num,_,_,?_,HP.out⟩;have h3:=Hy.out;rw [List.length_set];exact h3
      case measure=>simp [intOf];omega
  ·have hin:i=L.length:=by omega
   subst hin;go_wp2;go_ret;refine ⟨rfl,vg,M,?_,HG.out⟩;have:=pC.out
   by_cases e:t=0
   ·rwa [if_pos e] at this
   ·rwa [if_neg e] at this
end Go.Proofs.YtgldkdbkaachkaaGreatDoor
