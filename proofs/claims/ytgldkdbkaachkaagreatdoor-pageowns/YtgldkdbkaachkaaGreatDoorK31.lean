import Derived.Test.YtgldkdbkaachkaaGreatDoorK30
import Derived.Test.YtgldkdbkaachkaaGreatDoorK28
set_option maxRecDepth 100000
set_option maxHeartbeats 4000000
namespace Go.Proofs.YtgldkdbkaachkaaGreatDoor
open Go.RowKit
variable {xs yj:List Value}{B W base lo n sc sr:Nat}{ys:Nat->List Value}{cs cs':Nat->Value}{t:TypeId}{vw x y:Value}{v w w':World}
structure Kp5 (kd:Nat->eP)(aM:Nat->World->Nat->(Nat->Value)->au->Value->Prop):Prop where
 k:Ku kd aM
 e0:kd 0=gS
 s0:aM 0=kZ
 e1:kd 1=gZ
 s1:aM 1=oY
 e3:∃ F,kd 3=gC F
 s3:aM 3=oN
 e6:kd 6=dJ
 s6:aM 6=oQ
 e7:kd 7=fL
 s7:aM 7=oZ
def Vh (w:World)(base:Nat)(cs:Nat->Value)(lo:Nat)(t:TypeId)(W:Nat)(x:Ag):Prop:=(x.n=0/\x.c=0)∨∃ s:au,s.v=.slice x.a x.n x.c/\s.n=x.n/\s.c=x.c/\Ho w base cs W t s/\lo<=s.g
theorem Vh.cE {x:Ag}(h:Vh w base cs lo t W x)(k:Kee w w' base cs cs'):Vh w' base cs' lo t W x:=by
 rcases h with h | ⟨s,h1,h2,h3,h4,h5⟩
 ·exact .inl h
 ·exact .inr ⟨s,h1,h2,h3,h4.cE k,h5⟩
theorem KM.rif {x:Ag}(h:KM w lo t W x)(hf:∀ d,lo<=d->ja base cs d):Vh w base cs lo t W x:=by
 rcases h with h | ⟨s,h1,h2,h3,h4⟩
 ·exact .inl h
 ·exact .inr ⟨s,h1,h2,h3,h4.rdy hf,h4.lo⟩
structure YE (w:World)(base:Nat)(cs:Nat->Value)(lo:Nat)(x:Pv)(p:Pg)(D E F:List au):Prop where
 ap:(D++E++F).Pairwise au.bR
 rd:∀ s∈D++E++F,Ho w base cs 1 5 s/\lo<=s.g
 dl:D.length=2*x.i.n
 dc:∀ i,i<x.i.n->∃ b off k v,x.i.a=some ⟨b,off,none⟩/\D[2*i]?=some k/\D[2*i+1]?=some v/\w.cell? ⟨b,off+i*4,none⟩=some k.v/\w.cell? ⟨b,off+i*4+1,none⟩=some v.v/\ja base cs b
 el:E.length=x.s.n
 ec:∀ i,i<x.s.n->∃ b off k,x.s.a=some ⟨b,off,none⟩/\E[i]?=some k/\w.cell? ⟨b,off+i,none⟩=some k.v/\ja base cs b
 fc:(F=[]/\x.b.n=0/\x.b.c=0)∨∃ s,F=[s]/\s.v=.slice x.b.a x.b.n x.b.c/\s.n=x.b.n/\s.c=x.b.c
 i:Vh w base cs lo 63 4 x.i
 s:Vh w base cs lo 25 1 x.s
 d:Vh w base cs lo 69 2 x.d
 t:Vh w base cs lo 3 1 x.t
 ti:Ti w base cs x.i.a p.items
 tl:Tl w base cs x.s.a p.aj
 ty:Ty w base cs x.d.a p.kids
 tb:Tb w base cs x.b.a x.b.n x.b.c p.data
 tn:Tn w base cs x.t.a p.list
structure Pf8 (x:Pv)(p:Pg):Prop where
 ib:Ib p.items
 il:p.items.length=x.i.n
 sb:Lb p.aj
 sl:p.aj.length=x.s.n
 kl:p.kids.length=x.d.n
 bl:p.data.length=x.b.n
 tl:p.list.length=x.t.n
 fit:Fits p
theorem YE.cE {x:Pv}{p:Pg}{D E F:List au}(h:YE w base cs lo x p D E F)(k:Kee w w' base cs cs'):YE w' base cs' lo x p D E F:=by
 refine ⟨h.ap,fun s hs=>⟨(h.rd s hs).1.cE k,(h.rd s hs).2⟩,h.dl,fun i hi=>?_,h.el,fun i hi=>?_,h.fc,h.i.cE k,h.s.cE k,h.d.cE k,h.t.cE k,h.ti.cE k,h.tl.cE k,h.ty.cE k,h.tb.cE k,h.tn.cE k⟩
 ·obtain ⟨b,off,kk,v,h1,h2,h3,h4,h5,h6⟩:=h.dc i hi
  exact ⟨b,off,kk,v,h1,h2,h3,k.cell h4 h6,k.cell h5 h6,(k.block b (World.block_lt_of_cell? w _ h4) h6).2⟩
 ·obtain ⟨b,off,kk,h1,h2,h3,h4⟩:=h.ec i hi
  exact ⟨b,off,kk,h1,h2,k.cell h3 h4,(k.block b (World.block_lt_of_cell? w _ h3) h4).2⟩
theorem zL {ao:Option Addr}{c:Nat}{zs:List Int}{s:au}(h:ai w ao n c zs)(hs:s.Ok W)(hv:s.v=.slice ao n c)(hc:n<=c)(hf:ja base cs s.g):Tb w base cs ao n c zs:=by
 refine ⟨h,fun ad e h0=>?_⟩;obtain ⟨eX,e1,e2⟩:=hs.val;rw [hv] at e1;injection e1 with e3 e4 e5
 subst e3;have:=e2 (by omega);rw [e] at this;obtain rfl:=Option.some.inj this;exact hf
theorem KP.wait {x:Pv}{p:Pg}{D E F:List au}(h:KP w lo x D E F)(hp:Pm w x p)(hf:∀ d,lo<=d->ja base cs d):YE w base cs lo x p D E F:=by
 have mD:∀ {i:Nat} {s:au},D[i]?=some s->s∈D++E++F:=fun hs=>List.mem_append_left _ (List.mem_append_left _ (List.mem_of_getElem? hs))
 have mE:∀ {i:Nat} {s:au},E[i]?=some s->s∈D++E++F:=fun hs=>List.mem_append_left _ (List.mem_append_right _ (List.mem_of_getElem? hs))
 have fl:∀ {t:TypeId} {W:Nat} {y:Ag} {b off:Nat},KM w lo t W y->0<y.n->y.a=some ⟨b,off,none⟩->ja base cs b:=fun {t W y b off} hl h0 ea=>by
  rcases hl with ⟨h1,_⟩ | ⟨s,h1,h2,h3,h4⟩
  ·omega
  ·obtain ⟨ao,e1,e2⟩:=h4.ok.val
   rw [h1] at e1;injection e1 with e3 e4 e5
   subst e3;have:=e2 (by have:=h4.ok.le;omega);rw [ea] at this;injection this with this
   injection this with this
   rw [this];exact hf _ h4.lo
 refine ⟨h.ap,fun s hs=>⟨(h.lp s hs).rdy hf,(h.lp s hs).lo⟩,h.dl,fun i hi=>?_,h.el,fun i hi=>?_,h.fc,h.i.rif hf,h.s.rif hf,h.d.rif hf,h.t.rif hf,⟨fun i hi=>?_⟩,⟨fun i hi=>?_⟩,⟨fun i hi=>?_⟩,?_,⟨fun i hi=>?_⟩⟩
 ·obtain ⟨b,off,k,v,h1,h2,h3,h4,h5,_⟩:=h.dc i hi
  exact ⟨b,off,k,v,h1,h2,h3,h4,h5,fl h.i (by omega) h1⟩
 ·obtain ⟨b,off,k,h1,h2,h3,_⟩:=h.ec i hi
  exact ⟨b,off,k,h1,h2,h3,fl h.s (by omega) h1⟩
 ·have hin:i<x.i.n:=by rw [<- hp.il];exact hi
  obtain ⟨b,off,k,v,h1,h2,h3,h4,h5,_⟩:=h.dc i hin;obtain ⟨b',off',ao,n,c,bo,m,d,q1,q2,q3,q4,q5,q6,q7,q8,q9,zY,DY⟩:=hp.items.row i hi;rw [h1] at q1;simp only [Option.some.injEq,Addr.mk.injEq,and_true] at q1;obtain ⟨rfl,rfl⟩:=q1;rw [q2] at h4;rw [q3] at h5;exact ⟨b,off,ao,n,c,bo,m,d,h1,q2,q3,q4,q5,zL q6 (h.lp k (mD h2)).ok (Option.some.inj h4).symm q7 (hf _ (h.lp k (mD h2)).lo),q7,q8,zL q9 (h.lp v (mD h3)).ok (Option.some.inj h5).symm zY (hf _ (h.lp v (mD h3)).lo),zY,DY,fl h.i (by omega) h1⟩
 ·have hin:i<x.s.n:=by rw [<- hp.sl];exact hi
  obtain ⟨b,off,k,h1,h2,h3,_⟩:=h.ec i hin;obtain ⟨b',off',ao,n,c,q1,q2,q3,q4,q5⟩:=hp.aj.row i hi;rw [h1] at q1;simp only [Option.some.injEq,Addr.mk.injEq,and_true] at q1;obtain ⟨rfl,rfl⟩:=q1;rw [q2] at h3;exact ⟨b,off,ao,n,c,h1,q2,zL q3 (h.lp k (mE h2)).ok (Option.some.inj h3).symm q4 (hf _ (h.lp k (mE h2)).lo),q4,q5,fl h.s (by omega) h1⟩
 ·have hin:i<x.d.n:=by rw [<- hp.kl];exact hi
  obtain ⟨b,off,q1,q2,q3⟩:=hp.kids.row i hi;exact ⟨b,off,q1,q2,q3,fl h.d (by omega) q1⟩
 ·rcases h.fc with ⟨_,h1,_⟩ | ⟨s,rfl,h1,h2,h3⟩
  ·exact ⟨hp.data,fun ad _ h0=>by omega⟩
  ·have hl:=h.lp s (by simp)
   exact zL hp.data hl.ok h1 (by have:=hl.ok.le;omega) (hf _ hl.lo)
 ·have hin:i<x.t.n:=by rw [<- hp.tl];exact hi
  obtain ⟨b,off,q1,q2⟩:=hp.list.row i hi;exact ⟨b,off,q1,q2,fl h.t (by omega) q1⟩
theorem eH {t s:au}{H:Nat}(h:t.C=0∨t.g<H)(hs:H<=s.g):t.bR s:=fun i j hi hj e=>by
 rcases h with h | h
 ·omega
 ·injection e with e1;omega
theorem Pf {kd:Nat->eP}{aM:Nat->World->Nat->(Nat->Value)->au->Value->Prop}(hK:Kp5 kd aM){L:Nat->List au}(h:gU kd aM w B base cs L ys)(lo:Nat)(x:Pv)(p:Pg)(D E F:List au)(hp:YE w base cs lo x p D E F)(hpf:Pf8 x p)
  (Tw:∀ j,∀ t∈L j,t.C=0∨t.g<lo) (hL:∀ j,(L j).length<=100000) :
  Calls Tryz.prog 15 #[.pointer (some ⟨B,0,none⟩),.agg #[.int .i64 x.k,.slice x.i.a x.i.n x.i.c,.int .i64 x.l,.slice x.s.a x.s.n x.s.c,.slice x.d.a x.d.n x.d.c,.int .i64 x.x,.slice x.b.a x.b.n x.b.c,.slice x.t.a x.t.n x.t.c,.int .i64 x.h.v,.int .i64 x.h.c,.int .i64 x.h.r,.int .i64 x.h.h,.int .i64 x.h.k,.int .i64 x.h.f,.int .i64 x.h.n]] w fun en w'=>en=.returned (.tuple #[])/\∃ cs' ys' s6 s3 s7 s1,∃ G:List au,pF w w' B base cs cs'/\gU kd aM w' B base cs' (bI (bI (bI (bI (bI (bI (bI L 0 D) 6 [s6]) 0 E) 3 [s3]) 7 [s7]) 0 G) 1 [s1]) ys'/\D.length<=4000/\E.length<=2000/\G.length=1:=by
 obtain ⟨F3,e3⟩:=hK.e3;have fit:=hpf.fit;have Ns:=hpf.il;have El:=hpf.sl;have nu:=hpf.kl;have hbl:=hpf.bl;have PA:=hpf.tl;have f1:=fit.items;have f2:=fit.aj;have f3:=fit.kids;have f4:=fit.data;have f5:=fit.list;have aD:∀ s∈D,s∈D++E++F:=fun s hs=>List.mem_append_left _ (List.mem_append_left _ hs)
 have aE:∀ s∈E,s∈D++E++F:=fun s hs=>List.mem_append_left _ (List.mem_append_right _ hs)
 have pDE:=List.pairwise_append.1 hp.ap;have pD:=List.pairwise_append.1 pDE.1;have hdl:=hp.dl;have hel:=hp.el;have H0:=hJ h;have HP0:=hJ hp;have HPF:=hJ hpf;have HPD:=hJ pD;have UC:=hJ pDE;have PR:=hJ hL;have Rj:=hJ Tw;have AD:=hJ aD;have AE:=hJ aE;have GN:=fun {d:Nat} (hd:w.heap.size<=d)=>(h.t.new hd:ja base cs d)
 clear h hp hpf pDE pD aD aE hL Tw;go_enter Tryz.func15,Tryz.ntmps15;go_upto_region 1 with fail
 have ga:=gP w x;have X1:=hJ (Px.new w x);have FT:=hJ (GN (Nat.le_refl w.heap.size));have K1:=hJ (H0.out.ae hK.k ga);have R1:=hJ (pF.of (B:=B) (base:=base) (cs:=cs) ga);have P1:=hJ (HP0.out.cE R1.out.toKee);clear H0 HP0 ga GN;generalize w.alloc (.cells #[.int .i64 x.k,.slice x.i.a x.i.n x.i.c,.int .i64 x.l,.slice x.s.a x.s.n x.s.c,.slice x.d.a x.d.n x.d.c,.int .i64 x.x,.slice x.b.a x.b.n x.b.c,.slice x.t.a x.t.n x.t.c,.int .i64 x.h.v,.int .i64 x.h.c,.int .i64 x.h.r,.int .i64 x.h.h,.int .i64 x.h.k,.int .i64 x.h.f,.int .i64 x.h.n] 30)=w1 at *;generalize w.heap.size=T at *;obtain ⟨c0,c1,c2,c3,c4,c5,c6,c7,c8,c9,c10,c11,c12,c13,c14⟩:=X1.out.cells
 go_wp2_with fail
 refine (KG hK.k K1.out hK.e0 hK.s0 hK.e6 hK.s6 x.i.a x.i.n x.i.c p.items D P1.out.ti HPF.out.ib Ns (by omega) (fun y hy=>by have:=fit.each y hy;omega) hdl (fun i hi=>by
  obtain ⟨b,off,k,v,h1,h2,h3,h4,h5,_⟩:=P1.out.dc i hi;exact ⟨b,off,k,v,h1,h2,h3,h4,h5⟩) (fun s hs=>(P1.out.rd s (AD.out s hs)).1) HPD.out.1 (fun t ht s hs=>eH (Rj.out 0 t ht) (P1.out.rd s (AD.out s hs)).2) (by have:=PR.out 0;omega) (by have:=PR.out 6;omega)).mono ?_
 rintro en w2 ⟨rfl,cs2,YY2,y2,k1,k2,k3⟩
 have Q2:∃ s6,gU kd aM w2 B base cs2 (bI (bI L 0 D) 6 [s6]) (CK YY2 6 [y2]):=by
  rcases P1.out.i with ⟨n0,Tx⟩ | ⟨s,h1,h2,h3,h4,h5⟩
  ·obtain ⟨s,_,_,hs⟩:=k3 n0 Tx
   exact ⟨s,hs⟩
  ·exact ⟨s,k2 s h1 h2 h3 (by rw [hK.e6];exact h4) (fun t ht=>eH (Rj.out 6 t (by rw [aB _ _ (by omega)] at ht;exact ht)) h5)⟩
 obtain ⟨s6,hk2⟩:=Q2;have K2:=hJ hk2;have R2:=hJ (R1.out.trans k1);have P2:=hJ (P1.out.cE k1.toKee);have X2:Hid (Px w2 T x/\ja base cs2 T):=⟨(k1.block T X1.out.lt FT.out).1.trans X1.out,(k1.block T X1.out.lt FT.out).2⟩;clear k1 k2 k3 hk2 K1 R1 P1 X1 FT c0 c1 c2 c3 c4 c5 c6 c7 c8 c9 c10 c11 c12 c13 c14;obtain ⟨c0,c1,c2,c3,c4,c5,c6,c7,c8,c9,c10,c11,c12,c13,c14⟩:=X2.out.1.cells
 go_wp2_with fail
 refine (KW hK.k K2.out hK.e0 hK.s0 F3 e3 hK.s3 x.s.a x.s.n x.s.c p.aj E P2.out.tl HPF.out.sb El (by omega) (fun y hy=>by have:=fit.sep y hy;omega) hel (fun i hi=>by
  obtain ⟨b,off,k,h1,h2,h3,_⟩:=P2.out.ec i hi;exact ⟨b,off,k,h1,h2,h3⟩) (fun s hs=>(P2.out.rd s (AE.out s hs)).1) HPD.out.2.1 (fun t ht s hs=>by
  rw [aB _ _ (by omega),cT] at ht;rcases List.mem_append.1 ht with ht | ht
  ·exact eH (Rj.out 0 t ht) (P2.out.rd s (AE.out s hs)).2
  ·exact HPD.out.2.2 t ht s hs) (by rw [aB _ _ (by omega),cT,List.length_append];have:=PR.out 0;omega) (by rw [aB _ _ (by omega),aB _ _ (by omega)];have:=PR.out 3;omega)).mono ?_
 rintro en w3 ⟨rfl,cs3,YY3,y3,k1,k2,k3⟩
 have Q3:∃ s3,gU kd aM w3 B base cs3 (bI (bI (bI (bI L 0 D) 6 [s6]) 0 E) 3 [s3]) (CK YY3 3 [y3]):=by
  rcases P2.out.s with ⟨n0,Tx⟩ | ⟨s,h1,h2,h3,h4,h5⟩
  ·obtain ⟨s,_,_,hs⟩:=k3 n0 Tx
   exact ⟨s,hs⟩
  ·exact ⟨s,k2 s h1 h2 h3 (by rw [e3];exact h4) (fun t ht=>eH (Rj.out 3 t (by rw [aB _ _ (by omega),aB _ _ (by omega),aB _ _ (by omega)] at ht;exact ht)) h5)⟩
 obtain ⟨s3,hk3⟩:=Q3;have K3:=hJ hk3;have R3:=hJ (R2.out.trans k1);have P3:=hJ (P2.out.cE k1.toKee);have X3:Hid (Px w3 T x/\ja base cs3 T):=⟨(k1.block T X2.out.1.lt X2.out.2).1.trans X2.out.1,(k1.block T X2.out.1.lt X2.out.2).2⟩;clear k1 k2 k3 hk3 K2 R2 P2 X2 c0 c1 c2 c3 c4 c5 c6 c7 c8 c9 c10 c11 c12 c13 c14;obtain ⟨c0,c1,c2,c3,c4,c5,c6,c7,c8,c9,c10,c11,c12,c13,c14⟩:=X3.out.1.cells
 go_wp2_with fail
 refine (OQ hK.k K3.out hK.e7 hK.s7 x.d.a x.d.n x.d.c p.kids P3.out.ty nu (by omega) (by rw [aB _ _ (by omega),aB _ _ (by omega),aB _ _ (by omega),aB _ _ (by omega)];have:=PR.out 7;omega)).mono ?_;rintro en w4 ⟨rfl,cs4,y4,k1,k2,k3⟩
 have Q4:∃ s7 YY,gU kd aM w4 B base cs4 (bI (bI (bI (bI (bI L 0 D) 6 [s6]) 0 E) 3 [s3]) 7 [s7]) YY:=by
  rcases P3.out.d with ⟨n0,Tx⟩ | ⟨s,h1,h2,h3,h4,h5⟩
  ·obtain ⟨s,_,_,hs⟩:=k3 n0 Tx
   exact ⟨s,_,hs⟩
  ·exact ⟨s,_,k2 s h1 h2 h3 (by rw [hK.e7];exact h4) (fun t ht=>eH (Rj.out 7 t (by rw [aB _ _ (by omega),aB _ _ (by omega),aB _ _ (by omega),aB _ _ (by omega)] at ht;exact ht)) h5)⟩
 obtain ⟨s7,YY4,hk4⟩:=Q4;have K4:=hJ hk4;have R4:=hJ (R3.out.trans k1);have P4:=hJ (P3.out.cE k1.toKee);have X4:Hid (Px w4 T x/\ja base cs4 T):=⟨(k1.block T X3.out.1.lt X3.out.2).1.trans X3.out.1,(k1.block T X3.out.1.lt X3.out.2).2⟩;clear k1 k2 k3 hk4 K3 R3 P3 X3 c0 c1 c2 c3 c4 c5 c6 c7 c8 c9 c10 c11 c12 c13 c14;obtain ⟨c0,c1,c2,c3,c4,c5,c6,c7,c8,c9,c10,c11,c12,c13,c14⟩:=X4.out.1.cells
 go_wp2_with fail
 refine (jd hK.k K4.out hK.e0 hK.s0 x.b.a x.b.n x.b.c p.data P4.out.tb (by omega) (by rw [aB _ _ (by omega),aB _ _ (by omega),cT,aB _ _ (by omega),cT,List.length_append,List.length_append];have:=PR.out 0;omega)).mono ?_;rintro en w5 ⟨rfl,cs5,y5,k1,k2,k3⟩
 have Q5:∃ (G:List au) (YY:Nat->List Value),G.length=1/\gU kd aM w5 B base cs5 (bI (bI (bI (bI (bI (bI L 0 D) 6 [s6]) 0 E) 3 [s3]) 7 [s7]) 0 G) YY:=by
  rcases P4.out.fc with ⟨_,n0,Tx⟩ | ⟨s,hF,h1,h2,h3⟩
  ·obtain ⟨s,_,_,hs⟩:=k3 n0 Tx
   exact ⟨[s],_,rfl,hs⟩
  ·have hm:s∈D++E++F:=by rw [hF];simp
   refine ⟨[s],_,rfl,k2 s h1 h2 h3 (by rw [hK.e0];exact (P4.out.rd s hm).1) (fun t ht=>?_)⟩;rw [aB _ _ (by omega),aB _ _ (by omega),cT,aB _ _ (by omega),cT] at ht;rcases List.mem_append.1 ht with ht | ht
   ·rcases List.mem_append.1 ht with ht | ht
    ·exact eH (Rj.out 0 t ht) (P4.out.rd s hm).2
    ·exact UC.out.2.2 t (List.mem_append_left _ ht) s (by rw [hF];simp)
   ·exact UC.out.2.2 t (List.mem_append_right _ ht) s (by rw [hF];simp)
 obtain ⟨G,YY5,hG,VM⟩:=Q5;have K5:=hJ VM;have R5:=hJ (R4.out.trans k1);have P5:=hJ (P4.out.cE k1.toKee);have X5:Hid (Px w5 T x/\ja base cs5 T):=⟨(k1.block T X4.out.1.lt X4.out.2).1.trans X4.out.1,(k1.block T X4.out.1.lt X4.out.2).2⟩;clear k1 k2 k3 VM K4 R4 P4 X4 c0 c1 c2 c3 c4 c5 c6 c7 c8 c9 c10 c11 c12 c13 c14;obtain ⟨c0,c1,c2,c3,c4,c5,c6,c7,c8,c9,c10,c11,c12,c13,c14⟩:=X5.out.1.cells
 go_wp2_with fail
 refine (OP hK.k K5.out hK.e1 hK.s1 x.t.a x.t.n x.t.c p.list P5.out.tn PA (by omega) (by rw [aB _ _ (by omega),aB _ _ (by omega),aB _ _ (by omega),aB _ _ (by omega),aB _ _ (by omega),aB _ _ (by omega)];have:=PR.out 1;omega)).mono ?_;rintro en w6 ⟨rfl,cs6,y6,k1,k2,k3⟩
 have Q6:∃ s1 YY,gU kd aM w6 B base cs6 (bI (bI (bI (bI (bI (bI (bI L 0 D) 6 [s6]) 0 E) 3 [s3]) 7 [s7]) 0 G) 1 [s1]) YY:=by
  rcases P5.out.t with ⟨n0,Tx⟩ | ⟨s,h1,h2,h3,h4,h5⟩
  ·obtain ⟨s,_,_,hs⟩:=k3 n0 Tx
   exact ⟨s,_,hs⟩
  ·exact ⟨s,_,k2 s h1 h2 h3 (by rw [hK.e1];exact h4) (fun t ht=>eH (Rj.out 1 t (by rw [aB _ _ (by omega),aB _ _ (by omega),aB _ _ (by omega),aB _ _ (by omega),aB _ _ (by omega),aB _ _ (by omega)] at ht;exact ht)) h5)⟩
 obtain ⟨s1,YY6,hk6⟩:=Q6;have K6:=hJ hk6;have R6:=hJ (R5.out.trans k1);clear k1 k2 k3 hk6 K5 R5 P5 X5 c0 c1 c2 c3 c4 c5 c6 c7 c8 c9 c10 c11 c12 c13 c14;go_wp2;refine Go.Great.bodyPost_end0 rfl rfl ?_;exact ⟨rfl,cs6,YY6,s6,s3,s7,s1,G,R6.out,K6.out,by omega,by omega,hG⟩
def kdS (j:Nat):eP:=match j with
 | 0=>gS
 | 1=>gZ
 | 3=>(gC (fun _ _ _=>.nilIface))
 | 6=>dJ
 | 7=>fL
 | j=>⟨3*j+2,1,0,0,fun _ _ _=>.nilIface⟩
def Da (j:Nat):World->Nat->(Nat->Value)->au->Value->Prop:=match j with
 | 0=>kZ
 | 1=>oY
 | 3=>oN
 | 6=>oQ
 | 7=>oZ
 | _=>fun _ _ _ _ _=>True
theorem qw:Ku kdS Da where
 q:=fun j hj=>by
  match j,hj with
  | 0,_=>rfl
  | 1,_=>rfl
  | 2,_=>rfl
  | 3,_=>rfl
  | 4,_=>rfl
  | 5,_=>rfl
  | 6,_=>rfl
  | 7,_=>rfl
  | 8,_=>rfl
  | 9,_=>rfl
  | 10,_=>rfl
  | 11,_=>rfl
  | 12,_=>rfl
  | n+13,h=>omega
 s:=fun j hj w w' base cs cs' k=>by
  match j,hj with
  | 0,_=>exact kZ.cE k
  | 1,_=>exact oY.cE k
  | 2,_=>exact fun _ _ h=>h
  | 3,_=>exact oN.cE k
  | 4,_=>exact fun _ _ h=>h
  | 5,_=>exact fun _ _ h=>h
  | 6,_=>exact oQ.cE k
  | 7,_=>exact oZ.cE k
  | 8,_=>exact fun _ _ h=>h
  | 9,_=>exact fun _ _ h=>h
  | 10,_=>exact fun _ _ h=>h
  | 11,_=>exact fun _ _ h=>h
  | 12,_=>exact fun _ _ h=>h
  | n+13,h=>omega
def zM (B:Nat)(vw:Value)(sr sc:Nat)(xs yj:List Value)(v:World):Prop:=v.cell? ⟨B,3,none⟩=some vw/\rU v vw sr sc yj/\∀ (k:Nat) (x y:Value),xs[k]?=some x->yj[k]?=some y->∃ ao n ca bo cb zs,x=.slice ao n ca/\y=.slice bo n cb/\ai v ao n ca zs/\ai v bo n cb zs
theorem KY (v v':World)(h:zM B vw sr sc xs yj v)(hg:v.grownBy v' none):zM B vw sr sc xs yj v' :=
 ⟨hg.cell h.1 (by simp),h.2.1.kept hg (by simp),fun k x y hx hy=>by
  obtain ⟨ao,n,ca,bo,cb,zs,e1,e2,e3,e4⟩:=h.2.2 k x y hx hy;exact ⟨ao,n,ca,bo,cb,zs,e1,e2,e3.ae hg,e4.ae hg⟩⟩
theorem TA {s:au}(hsame:kZ v base cs s y)(hx:s.v=x)(_hsn:s.n<=1099511620000):∃ ao n ca bo cb zs,x=.slice ao n ca/\y=.slice bo n cb/\ai v ao n ca zs/\ai v bo n cb zs:=by
 obtain ⟨ao,bo,cb,zs,f1,f2,f3,f4⟩:=hsame;exact ⟨ao,s.n,s.c,bo,cb,zs,by rw [<- hx,f1],f2,f3.OA,f4.OA⟩
def zN (B:Nat)(vw:Value)(sr sc:Nat)(xs yj:List Value)(v:World):Prop:=v.cell? ⟨B,6,none⟩=some vw/\rU v vw sr sc yj/\∀ (k:Nat) (x y:Value),xs[k]?=some x->yj[k]?=some y->∃ ao n ca bo cb,∃ Z:List Int,x=.slice ao n ca/\y=.slice bo n cb/\Nt v ao Z/\Nt v bo Z/\True/\Z.length=n/\n<=1099511627776
theorem KZ (v v':World)(h:zN B vw sr sc xs yj v)(hg:v.grownBy v' none):zN B vw sr sc xs yj v' :=
 ⟨hg.cell h.1 (by simp),h.2.1.kept hg (by simp),fun k x y hx hy=>by
  obtain ⟨ao,n,ca,bo,cb,Z,e1,e2,e3,e4,e5⟩:=h.2.2 k x y hx hy;exact ⟨ao,n,ca,bo,cb,Z,e1,e2,e3.ae hg,e4.ae hg,e5⟩⟩
theorem TC {s:au}(hsame:oY v base cs s y)(hx:s.v=x)(vI:s.n<=1099511620000):∃ ao n ca bo cb,∃ Z:List Int,x=.slice ao n ca/\y=.slice bo n cb/\Nt v ao Z/\Nt v bo Z/\True/\Z.length=n/\n<=1099511627776:=by
 obtain ⟨ao,bo,cb,Z,f1,f2,f3,f4,f5⟩:=hsame;exact ⟨ao,s.n,s.c,bo,cb,Z,by rw [<- hx,f1],f2,f3.nt,f4.nt,trivial,f5,by omega⟩
def zO (B:Nat)(vw:Value)(sr sc:Nat)(xs yj:List Value)(v:World):Prop:=v.cell? ⟨B,12,none⟩=some vw/\rU v vw sr sc yj/\∀ (k:Nat) (x y:Value),xs[k]?=some x->yj[k]?=some y->∃ ao n ca bo cb,∃ Z:List (List Int),x=.slice ao n ca/\y=.slice bo n cb/\Lz v ao Z/\Lz v bo Z/\Lb Z/\Z.length=n/\n<=1099511627776
theorem La (v v':World)(h:zO B vw sr sc xs yj v)(hg:v.grownBy v' none):zO B vw sr sc xs yj v' :=
 ⟨hg.cell h.1 (by simp),h.2.1.kept hg (by simp),fun k x y hx hy=>by
  obtain ⟨ao,n,ca,bo,cb,Z,e1,e2,e3,e4,e5⟩:=h.2.2 k x y hx hy;exact ⟨ao,n,ca,bo,cb,Z,e1,e2,e3.ae hg,e4.ae hg,e5⟩⟩
theorem TD {s:au}(hsame:oN v base cs s y)(hx:s.v=x)(vI:s.n<=1099511620000):∃ ao n ca bo cb,∃ Z:List (List Int),x=.slice ao n ca/\y=.slice bo n cb/\Lz v ao Z/\Lz v bo Z/\Lb Z/\Z.length=n/\n<=1099511627776:=by
 obtain ⟨ao,bo,cb,Z,f1,f2,f3,f4,f5,f6⟩:=hsame;exact ⟨ao,s.n,s.c,bo,cb,Z,by rw [<- hx,f1],f2,f3.lz,f4.lz,f5,f6,by omega⟩
def zQ (B:Nat)(vw:Value)(sr sc:Nat)(xs yj:List Value)(v:World):Prop:=v.cell? ⟨B,21,none⟩=some vw/\rU v vw sr sc yj/\∀ (k:Nat) (x y:Value),xs[k]?=some x->yj[k]?=some y->∃ ao n ca bo cb Z,x=.slice ao n ca/\y=.slice bo n cb/\Il v ao Z/\Il v bo Z/\Ib Z/\Z.length=n/\n<=1099511627776
theorem Lc (v v':World)(h:zQ B vw sr sc xs yj v)(hg:v.grownBy v' none):zQ B vw sr sc xs yj v' :=
 ⟨hg.cell h.1 (by simp),h.2.1.kept hg (by simp),fun k x y hx hy=>by
  obtain ⟨ao,n,ca,bo,cb,Z,e1,e2,e3,e4,e5⟩:=h.2.2 k x y hx hy;exact ⟨ao,n,ca,bo,cb,Z,e1,e2,e3.ae hg,e4.ae hg,e5⟩⟩
theorem TE {s:au}(hsame:oQ v base cs s y)(hx:s.v=x)(vI:s.n<=1099511620000):∃ ao n ca bo cb Z,x=.slice ao n ca/\y=.slice bo n cb/\Il v ao Z/\Il v bo Z/\Ib Z/\Z.length=n/\n<=1099511627776:=by
 obtain ⟨ao,bo,cb,Z,f1,f2,f3,f4,f5,f6⟩:=hsame;exact ⟨ao,s.n,s.c,bo,cb,Z,by rw [<- hx,f1],f2,f3.il,f4.il,f5,f6,by omega⟩
def zR (B:Nat)(vw:Value)(sr sc:Nat)(xs yj:List Value)(v:World):Prop:=v.cell? ⟨B,24,none⟩=some vw/\rU v vw sr sc yj/\∀ (k:Nat) (x y:Value),xs[k]?=some x->yj[k]?=some y->∃ ao n ca bo cb,∃ Z:List Kd,x=.slice ao n ca/\y=.slice bo n cb/\Kl v ao Z/\Kl v bo Z/\True/\Z.length=n/\n<=1099511627776
theorem Ld (v v':World)(h:zR B vw sr sc xs yj v)(hg:v.grownBy v' none):zR B vw sr sc xs yj v' :=
 ⟨hg.cell h.1 (by simp),h.2.1.kept hg (by simp),fun k x y hx hy=>by
  obtain ⟨ao,n,ca,bo,cb,Z,e1,e2,e3,e4,e5⟩:=h.2.2 k x y hx hy;exact ⟨ao,n,ca,bo,cb,Z,e1,e2,e3.ae hg,e4.ae hg,e5⟩⟩
theorem TF {s:au}(hsame:oZ v base cs s y)(hx:s.v=x)(vI:s.n<=1099511620000):∃ ao n ca bo cb,∃ Z:List Kd,x=.slice ao n ca/\y=.slice bo n cb/\Kl v ao Z/\Kl v bo Z/\True/\Z.length=n/\n<=1099511627776:=by
 obtain ⟨ao,bo,cb,Z,f1,f2,f3,f4,f5⟩:=hsame;exact ⟨ao,s.n,s.c,bo,cb,Z,by rw [<- hx,f1],f2,f3.kl,f4.kl,trivial,f5,by omega⟩
def Le (a0 a1 a3 a6 a7:Kn)(B j:Nat):Kn:=match j with
 | 0=>a0
 | 1=>a1
 | 3=>a3
 | 6=>a6
 | 7=>a7
 | j=>Ox B j
theorem iI {v:Value}(h:w.ownsRow base t 1 v n xs):∃ r c,rU w v r c xs/\(v.ownBlock=some r∨r=0):=by
 have hl:=h.1;rw [Nat.mul_one] at hl;rcases h.2 with ⟨rfl,h0⟩ | ⟨g,cap,cur,rfl,hb,hg,hn,hm,hs,ht⟩
 ·refine ⟨0,0,⟨⟨none,by rw [hl,h0],fun hp=>by omega⟩,fun i x hx=>?_⟩,Or.inr rfl⟩
  have:=(List.getElem?_eq_some_iff.1 hx).1;omega
 ·refine ⟨g,cap,⟨⟨_,by rw [hl],fun _=>rfl⟩,fun i x hx=>?_⟩,Or.inl rfl⟩
  rw [cell_of_row w g i _ _ (0,0) hg,<- Array.getElem?_toList];rw [<- ht,List.getElem?_take] at hx
  split at hx
  ·exact hx
  ·cases hx
theorem Db{w0 wl:World}{L:Nat->List au}(h:gU kdS Da w B base cs L ys)(hE:∀ j,j<13->j≠0->j≠1->j≠3->j≠6->j≠7->L j=[])(hm:(L 0).length+(L 1).length+(L 3).length+(L 6).length+(L 7).length<=1000000)(hg:w0.grownBy w none)(hB:w0.heap.size<=B)(PB:wl.grownBy w (some B))(hls:wl.heap.size<=base)(Xs:Tz w0) :
  Calls Tryz.prog 16 #[.pointer (some ⟨B,0,none⟩)] w fun en w'=>en=.returned (.bool true)/\w0.grownBy w' none/\wl.grownBy w' (some B):=by
 have LP:=Xs.lt;have agd:=Xs.ae hg;have qZ:=h.t.bB;have qR:=h.t.box;have hsz:=hg.size;have pass:w.cell? ⟨B,1,none⟩=some (.int .i64 0):=by rw [<- h.t.c1];exact qR.cell 1 (by omega)
 have hfr:∀ j,j<13->∀ s∈L j,s.g<w.heap.size/\s.g≠B/\s.n<=1099511620000:=fun j hj s hs=>by
  obtain ⟨_,_,a3,a4,a5⟩:=(h.k j hj).ok s hs;exact ⟨a4.lt,by have:=a5.1;omega,a3⟩
 have hge:∀ j,j<13->∀ s∈L j,base<=s.g:=fun j hj s hs=>((h.k j hj).ok s hs).2.2.2.2.1
 have gno:∀ j,j<13->gT w B (3*j+2):=fun j hj=>⟨by have:=qR.cell (3*j+4) (by omega);rw [h.t.gn j hj] at this;exact this,qR.fz (3*j+4) (by omega)⟩
 have p0:Sj gS w base cs (L 0) (ys 0) kZ:=h.k 0 (by omega);obtain ⟨r0,c0,k0,o0⟩:=iI p0.ob;obtain ⟨s0,d0,l0,_⟩:=iI p0.ow
 have rb0:r0<w.heap.size/\r0≠B/\((cs 2).ownBlock=some r0∨r0<base):=by
  rcases o0 with e | e
  ·have:=h.t.bk 2 (by omega) _ e;exact ⟨this.2,by omega,Or.inl e⟩
  ·exact ⟨by omega,by omega,Or.inr (by omega)⟩
 have kc0:Kc gS w B 0 (cs 2) r0 c0 (L 0):=⟨pass,qR.cell 2 (by omega),k0,fun s hs=>by
  obtain ⟨a1,a2,_,a4,a5⟩:=p0.ok s hs;refine ⟨a1,a2,by have:=a5.1;omega,fun e=>?_⟩;rcases rb0.2.2 with e' | e'
  ·exact a5.2 2 (by omega) (by rw [e];exact e')
  ·have:=a5.1;omega,p0.ap,by omega⟩
 have ly0:(L 0).length=(ys 0).length:=by have:=p0.ow.1;simpa using this.symm
 have u0:zM B (cs 3) s0 d0 ((L 0).map au.v) (ys 0) w:=⟨qR.cell 3 (by omega),l0,fun k x y hx hy=>by
  rw [List.getElem?_map] at hx;cases hs:(L 0)[k]? with
  | none=>rw [hs] at hx;simp at hx
  | some s =>
   rw [hs] at hx;simp at hx;exact TA (p0.same k s y hs hy) hx (p0.ok s (List.mem_of_getElem? hs)).2.2.1⟩
 have ok0:fU B w.heap.size (rf gS B w.heap.size (cs 2) r0 c0 (L 0) (zM B (cs 3) s0 d0 ((L 0).map au.v) (ys 0))) 0 :=
  yY rfl (by omega) ⟨rb0.1,rb0.2.1⟩ (hfr 0 (by omega)) (fun v hv hk=>rW B _ _ r0 c0 s0 d0 ((L 0).map au.v) (ys 0) v hk.lists hv.1 hk.row hv.2.1 (by rw [List.length_map];exact ly0) (by rw [List.length_map];exact hk.many) hv.2.2) KY
   (fun B ps hp vb r c L ag I w h1 h2 h3 h4 h5=>CQ B ps hp vb r c L ag I w h1 h2 h3 h4 h5) (fun B ps hp vb vg r c r2 c2 L M ag w h1 h2 h3 h4 h5=>Fj B ps hp vb vg r c r2 c2 L M ag w h1 h2 h3 h4 h5) (fun B ps hp vb vg r c bs ag L M t Q HH I w h1 h2 h3 h4 h5 h6 h7 h8 h9=>Fq B ps hp vb vg r c bs ag L M t Q HH I w h1 h2 h3 h4 h5 h6 h7 h8 h9)
 have p1:Sj gZ w base cs (L 1) (ys 1) oY:=h.k 1 (by omega);obtain ⟨r1,c1,k1,o1⟩:=iI p1.ob;obtain ⟨s1,d1,l1,_⟩:=iI p1.ow
 have rb1:r1<w.heap.size/\r1≠B/\((cs 5).ownBlock=some r1∨r1<base):=by
  rcases o1 with e | e
  ·have:=h.t.bk 5 (by omega) _ e;exact ⟨this.2,by omega,Or.inl e⟩
  ·exact ⟨by omega,by omega,Or.inr (by omega)⟩
 have kc1:Kc gZ w B 0 (cs 5) r1 c1 (L 1):=⟨pass,qR.cell 5 (by omega),k1,fun s hs=>by
  obtain ⟨a1,a2,_,a4,a5⟩:=p1.ok s hs;refine ⟨a1,a2,by have:=a5.1;omega,fun e=>?_⟩;rcases rb1.2.2 with e' | e'
  ·exact a5.2 5 (by omega) (by rw [e];exact e')
  ·have:=a5.1;omega,p1.ap,by omega⟩
 have ly1:(L 1).length=(ys 1).length:=by have:=p1.ow.1;simpa using this.symm
 have u1:zN B (cs 6) s1 d1 ((L 1).map au.v) (ys 1) w:=⟨qR.cell 6 (by omega),l1,fun k x y hx hy=>by
  rw [List.getElem?_map] at hx;cases hs:(L 1)[k]? with
  | none=>rw [hs] at hx;simp at hx
  | some s =>
   rw [hs] at hx;simp at hx;exact TC (p1.same k s y hs hy) hx (p1.ok s (List.mem_of_getElem? hs)).2.2.1⟩
 have ok1:fU B w.heap.size (rf gZ B w.heap.size (cs 5) r1 c1 (L 1) (zN B (cs 6) s1 d1 ((L 1).map au.v) (ys 1))) 1 :=
  yY rfl (by omega) ⟨rb1.1,rb1.2.1⟩ (hfr 1 (by omega)) (fun v hv hk=>vq B _ _ r1 c1 s1 d1 ((L 1).map au.v) (ys 1) v hk.lists hv.1 hk.row hv.2.1 (by rw [List.length_map];exact ly1) (by rw [List.length_map];exact hk.many) hv.2.2) KZ
   (fun B ps hp vb r c L ag I w h1 h2 h3 h4 h5=>Fm B ps hp vb r c L ag I w h1 h2 h3 h4 h5) (fun B ps hp vb vg r c r2 c2 L M ag w h1 h2 h3 h4 h5=>KF B ps hp vb vg r c r2 c2 L M ag w h1 h2 h3 h4 h5) (fun B ps hp vb vg r c bs ag L M t Q HH I w h1 h2 h3 h4 h5 h6 h7 h8 h9=>KJ B ps hp vb vg r c bs ag L M t Q HH I w h1 h2 h3 h4 h5 h6 h7 h8 h9)
 have p3:Sj (gC (fun _ _ _=>.nilIface)) w base cs (L 3) (ys 3) oN:=h.k 3 (by omega);obtain ⟨r3,c3,k3,o3⟩:=iI p3.ob;obtain ⟨s3,d3,l3,_⟩:=iI p3.ow
 have rb3:r3<w.heap.size/\r3≠B/\((cs 11).ownBlock=some r3∨r3<base):=by
  rcases o3 with e | e
  ·have:=h.t.bk 11 (by omega) _ e;exact ⟨this.2,by omega,Or.inl e⟩
  ·exact ⟨by omega,by omega,Or.inr (by omega)⟩
 have kc3:Kc (gC (fun _ _ _=>.nilIface)) w B 0 (cs 11) r3 c3 (L 3):=⟨pass,qR.cell 11 (by omega),k3,fun s hs=>by
  obtain ⟨a1,a2,_,a4,a5⟩:=p3.ok s hs;refine ⟨a1,a2,by have:=a5.1;omega,fun e=>?_⟩;rcases rb3.2.2 with e' | e'
  ·exact a5.2 11 (by omega) (by rw [e];exact e')
  ·have:=a5.1;omega,p3.ap,by omega⟩
 have ly3:(L 3).length=(ys 3).length:=by have:=p3.ow.1;simpa using this.symm
 have u3:zO B (cs 12) s3 d3 ((L 3).map au.v) (ys 3) w:=⟨qR.cell 12 (by omega),l3,fun k x y hx hy=>by
  rw [List.getElem?_map] at hx;cases hs:(L 3)[k]? with
  | none=>rw [hs] at hx;simp at hx
  | some s =>
   rw [hs] at hx;simp at hx;exact TD (p3.same k s y hs hy) hx (p3.ok s (List.mem_of_getElem? hs)).2.2.1⟩
 have ok3:fU B w.heap.size (Vg B w.heap.size (cs 11) r3 c3 (L 3) (zO B (cs 12) s3 d3 ((L 3).map au.v) (ys 3))) 3 :=
  Xr (by omega) ⟨rb3.1,rb3.2.1⟩ (hfr 3 (by omega)) ⟨by omega,by omega,fun s hs e=>by have:=hge 3 (by omega) s hs;omega⟩ (fun F v hv hk=>rX B _ _ r3 c3 s3 d3 ((L 3).map au.v) (ys 3) v hk.lists hv.1 hk.row hv.2.1 (by rw [List.length_map];exact ly3) (by rw [List.length_map];exact hk.many) hv.2.2) La
 have p6:Sj dJ w base cs (L 6) (ys 6) oQ:=h.k 6 (by omega);obtain ⟨r6,c6,k6,o6⟩:=iI p6.ob;obtain ⟨s6,d6,l6,_⟩:=iI p6.ow
 have rb6:r6<w.heap.size/\r6≠B/\((cs 20).ownBlock=some r6∨r6<base):=by
  rcases o6 with e | e
  ·have:=h.t.bk 20 (by omega) _ e;exact ⟨this.2,by omega,Or.inl e⟩
  ·exact ⟨by omega,by omega,Or.inr (by omega)⟩
 have kc6:Kc dJ w B 0 (cs 20) r6 c6 (L 6):=⟨pass,qR.cell 20 (by omega),k6,fun s hs=>by
  obtain ⟨a1,a2,_,a4,a5⟩:=p6.ok s hs;refine ⟨a1,a2,by have:=a5.1;omega,fun e=>?_⟩;rcases rb6.2.2 with e' | e'
  ·exact a5.2 20 (by omega) (by rw [e];exact e')
  ·have:=a5.1;omega,p6.ap,by omega⟩
 have ly6:(L 6).length=(ys 6).length:=by have:=p6.ow.1;simpa using this.symm
 have u6:zQ B (cs 21) s6 d6 ((L 6).map au.v) (ys 6) w:=⟨qR.cell 21 (by omega),l6,fun k x y hx hy=>by
  rw [List.getElem?_map] at hx;cases hs:(L 6)[k]? with
  | none=>rw [hs] at hx;simp at hx
  | some s =>
   rw [hs] at hx;simp at hx;exact TE (p6.same k s y hs hy) hx (p6.ok s (List.mem_of_getElem? hs)).2.2.1⟩
 have ok6:fU B w.heap.size (rf dJ B w.heap.size (cs 20) r6 c6 (L 6) (zQ B (cs 21) s6 d6 ((L 6).map au.v) (ys 6))) 6 :=
  yY rfl (by omega) ⟨rb6.1,rb6.2.1⟩ (hfr 6 (by omega)) (fun v hv hk=>rZ B _ _ r6 c6 s6 d6 ((L 6).map au.v) (ys 6) v hk.lists hv.1 hk.row hv.2.1 (by rw [List.length_map];exact ly6) (by rw [List.length_map];exact hk.many) hv.2.2) Lc
   (fun B ps hp vb r c L ag I w h1 h2 h3 h4 h5=>CR B ps hp vb r c L ag I w h1 h2 h3 h4 h5) (fun B ps hp vb vg r c r2 c2 L M ag w h1 h2 h3 h4 h5=>Fy B ps hp vb vg r c r2 c2 L M ag w h1 h2 h3 h4 h5) (fun B ps hp vb vg r c bs ag L M t Q HH I w h1 h2 h3 h4 h5 h6 h7 h8 h9=>FB B ps hp vb vg r c bs ag L M t Q HH I w h1 h2 h3 h4 h5 h6 h7 h8 h9)
 have p7:Sj fL w base cs (L 7) (ys 7) oZ:=h.k 7 (by omega);obtain ⟨r7,c7,k7,o7⟩:=iI p7.ob;obtain ⟨s7,d7,l7,_⟩:=iI p7.ow
 have rb7:r7<w.heap.size/\r7≠B/\((cs 23).ownBlock=some r7∨r7<base):=by
  rcases o7 with e | e
  ·have:=h.t.bk 23 (by omega) _ e;exact ⟨this.2,by omega,Or.inl e⟩
  ·exact ⟨by omega,by omega,Or.inr (by omega)⟩
 have kc7:Kc fL w B 0 (cs 23) r7 c7 (L 7):=⟨pass,qR.cell 23 (by omega),k7,fun s hs=>by
  obtain ⟨a1,a2,_,a4,a5⟩:=p7.ok s hs;refine ⟨a1,a2,by have:=a5.1;omega,fun e=>?_⟩;rcases rb7.2.2 with e' | e'
  ·exact a5.2 23 (by omega) (by rw [e];exact e')
  ·have:=a5.1;omega,p7.ap,by omega⟩
 have ly7:(L 7).length=(ys 7).length:=by have:=p7.ow.1;simpa using this.symm
 have u7:zR B (cs 24) s7 d7 ((L 7).map au.v) (ys 7) w:=⟨qR.cell 24 (by omega),l7,fun k x y hx hy=>by
  rw [List.getElem?_map] at hx;cases hs:(L 7)[k]? with
  | none=>rw [hs] at hx;simp at hx
  | some s =>
   rw [hs] at hx;simp at hx;exact TF (p7.same k s y hs hy) hx (p7.ok s (List.mem_of_getElem? hs)).2.2.1⟩
 have ok7:fU B w.heap.size (rf fL B w.heap.size (cs 23) r7 c7 (L 7) (zR B (cs 24) s7 d7 ((L 7).map au.v) (ys 7))) 7 :=
  yY rfl (by omega) ⟨rb7.1,rb7.2.1⟩ (hfr 7 (by omega)) (fun v hv hk=>vk B _ _ r7 c7 s7 d7 ((L 7).map au.v) (ys 7) v hk.lists hv.1 hk.row hv.2.1 (by rw [List.length_map];exact ly7) (by rw [List.length_map];exact hk.many) hv.2.2) Ld
   (fun B ps hp vb r c L ag I w h1 h2 h3 h4 h5=>Fz B ps hp vb r c L ag I w h1 h2 h3 h4 h5) (fun B ps hp vb vg r c r2 c2 L M ag w h1 h2 h3 h4 h5=>KL B ps hp vb vg r c r2 c2 L M ag w h1 h2 h3 h4 h5) (fun B ps hp vb vg r c bs ag L M t Q HH I w h1 h2 h3 h4 h5 h6 h7 h8 h9=>KU B ps hp vb vg r c bs ag L M t Q HH I w h1 h2 h3 h4 h5 h6 h7 h8 h9)
 have hall:∀ j,j<13->fU B w.heap.size (Le (rf gS B w.heap.size (cs 2) r0 c0 (L 0) (zM B (cs 3) s0 d0 ((L 0).map au.v) (ys 0))) (rf gZ B w.heap.size (cs 5) r1 c1 (L 1) (zN B (cs 6) s1 d1 ((L 1).map au.v) (ys 1))) (Vg B w.heap.size (cs 11) r3 c3 (L 3) (zO B (cs 12) s3 d3 ((L 3).map au.v) (ys 3))) (rf dJ B w.heap.size (cs 20) r6 c6 (L 6) (zQ B (cs 21) s6 d6 ((L 6).map au.v) (ys 6))) (rf fL B w.heap.size (cs 23) r7 c7 (L 7) (zR B (cs 24) s7 d7 ((L 7).map au.v) (ys 7))) B j) j:=fun j hj=>by
  match j,hj with
  | 0,_=>exact ok0
  | 1,_=>exact ok1
  | 2,_=>exact Ko B _
  | 3,_=>exact ok3
  | 4,_=>exact yX B _
  | 5,_=>exact Kp B _
  | 6,_=>exact ok6
  | 7,_=>exact ok7
  | 8,_=>exact Kq B _
  | 9,_=>exact Fh B _
  | 10,_=>exact CG B _
  | 11,_=>exact Kt B _
  | 12,_=>exact Sh B _
  | n+13,h=>omega
 have hown:∀ j,j<13->∀ b,(Le (rf gS B w.heap.size (cs 2) r0 c0 (L 0) (zM B (cs 3) s0 d0 ((L 0).map au.v) (ys 0))) (rf gZ B w.heap.size (cs 5) r1 c1 (L 1) (zN B (cs 6) s1 d1 ((L 1).map au.v) (ys 1))) (Vg B w.heap.size (cs 11) r3 c3 (L 3) (zO B (cs 12) s3 d3 ((L 3).map au.v) (ys 3))) (rf dJ B w.heap.size (cs 20) r6 c6 (L 6) (zQ B (cs 21) s6 d6 ((L 6).map au.v) (ys 6))) (rf fL B w.heap.size (cs 23) r7 c7 (L 7) (zR B (cs 24) s7 d7 ((L 7).map au.v) (ys 7))) B j).own b->∃ s∈L j,s.g=b:=fun j hj b hb=>by
  match j,hj with
  | 0,_=>exact hb
  | 1,_=>exact hb
  | 2,_=>exact hb.elim
  | 3,_=>exact hb
  | 4,_=>exact hb.elim
  | 5,_=>exact hb.elim
  | 6,_=>exact hb
  | 7,_=>exact hb
  | 8,_=>exact hb.elim
  | 9,_=>exact hb.elim
  | 10,_=>exact hb.elim
  | 11,_=>exact hb.elim
  | 12,_=>exact hb.elim
  | n+13,h=>omega
 have abV:∀ j,j<13->∀ b,(Le (rf gS B w.heap.size (cs 2) r0 c0 (L 0) (zM B (cs 3) s0 d0 ((L 0).map au.v) (ys 0))) (rf gZ B w.heap.size (cs 5) r1 c1 (L 1) (zN B (cs 6) s1 d1 ((L 1).map au.v) (ys 1))) (Vg B w.heap.size (cs 11) r3 c3 (L 3) (zO B (cs 12) s3 d3 ((L 3).map au.v) (ys 3))) (rf dJ B w.heap.size (cs 20) r6 c6 (L 6) (zQ B (cs 21) s6 d6 ((L 6).map au.v) (ys 6))) (rf fL B w.heap.size (cs 23) r7 c7 (L 7) (zR B (cs 24) s7 d7 ((L 7).map au.v) (ys 7))) B j).need b->(∃ s∈L j,s.g=b)∨(cs (3*j+2)).ownBlock=some b∨b<base:=fun j hj b hb=>by
  match j,hj with
  | 0,_ =>
   rcases hb with hb | hb
   ·exact Or.inl hb
   ·subst hb;exact Or.inr rb0.2.2
  | 1,_ =>
   rcases hb with hb | hb
   ·exact Or.inl hb
   ·subst hb;exact Or.inr rb1.2.2
  | 2,_=>exact hb.elim
  | 3,_ =>
   rcases hb with hb | hb | hb
   ·exact Or.inl hb
   ·subst hb;exact Or.inr rb3.2.2
   ·subst hb;exact Or.inr (Or.inr (by omega))
  | 4,_=>exact hb.elim
  | 5,_=>exact hb.elim
  | 6,_ =>
   rcases hb with hb | hb
   ·exact Or.inl hb
   ·subst hb;exact Or.inr rb6.2.2
  | 7,_ =>
   rcases hb with hb | hb
   ·exact Or.inl hb
   ·subst hb;exact Or.inr rb7.2.2
  | 8,_=>exact hb.elim
  | 9,_=>exact hb.elim
  | 10,_=>exact hb.elim
  | 11,_=>exact hb.elim
  | 12,_=>exact hb.elim
  | n+13,h=>omega
 have hzz:∀ j,j<13->(Le (rf gS B w.heap.size (cs 2) r0 c0 (L 0) (zM B (cs 3) s0 d0 ((L 0).map au.v) (ys 0))) (rf gZ B w.heap.size (cs 5) r1 c1 (L 1) (zN B (cs 6) s1 d1 ((L 1).map au.v) (ys 1))) (Vg B w.heap.size (cs 11) r3 c3 (L 3) (zO B (cs 12) s3 d3 ((L 3).map au.v) (ys 3))) (rf dJ B w.heap.size (cs 20) r6 c6 (L 6) (zQ B (cs 21) s6 d6 ((L 6).map au.v) (ys 6))) (rf fL B w.heap.size (cs 23) r7 c7 (L 7) (zR B (cs 24) s7 d7 ((L 7).map au.v) (ys 7))) B j).Z w:=fun j hj=>by
  match j,hj with
  | 0,_=>exact ⟨u0,kc0,gno 0 (by omega)⟩
  | 1,_=>exact ⟨u1,kc1,gno 1 (by omega)⟩
  | 2,_ =>
   have hp:=(h.k 2 (by omega)).ob;rw [hE 2 (by omega) (by omega) (by omega) (by omega) (by omega) (by omega)] at hp;obtain ⟨ao,c,e⟩:=gV hp;exact ⟨ao,c,by have:=qR.cell 8 (by omega);rw [show cs 8=_ from e] at this;exact this⟩
  | 3,_=>exact ⟨u3,⟨_,kc3⟩,gno 3 (by omega),agd⟩
  | 4,_ =>
   have hp:=(h.k 4 (by omega)).ob;rw [hE 4 (by omega) (by omega) (by omega) (by omega) (by omega) (by omega)] at hp;obtain ⟨ao,c,e⟩:=gV hp;exact ⟨ao,c,by have:=qR.cell 14 (by omega);rw [show cs 14=_ from e] at this;exact this⟩
  | 5,_ =>
   have hp:=(h.k 5 (by omega)).ob;rw [hE 5 (by omega) (by omega) (by omega) (by omega) (by omega) (by omega)] at hp;obtain ⟨ao,c,e⟩:=gV hp;exact ⟨ao,c,by have:=qR.cell 17 (by omega);rw [show cs 17=_ from e] at this;exact this⟩
  | 6,_=>exact ⟨u6,kc6,gno 6 (by omega)⟩
  | 7,_=>exact ⟨u7,kc7,gno 7 (by omega)⟩
  | 8,_ =>
   have hp:=(h.k 8 (by omega)).ob;rw [hE 8 (by omega) (by omega) (by omega) (by omega) (by omega) (by omega)] at hp;obtain ⟨ao,c,e⟩:=gV hp;exact ⟨ao,c,by have:=qR.cell 26 (by omega);rw [show cs 26=_ from e] at this;exact this⟩
  | 9,_ =>
   have hp:=(h.k 9 (by omega)).ob;rw [hE 9 (by omega) (by omega) (by omega) (by omega) (by omega) (by omega)] at hp;obtain ⟨ao,c,e⟩:=gV hp;exact ⟨ao,c,by have:=qR.cell 29 (by omega);rw [show cs 29=_ from e] at this;exact this⟩
  | 10,_ =>
   have hp:=(h.k 10 (by omega)).ob;rw [hE 10 (by omega) (by omega) (by omega) (by omega) (by omega) (by omega)] at hp;obtain ⟨ao,c,e⟩:=gV hp;exact ⟨ao,c,by have:=qR.cell 32 (by omega);rw [show cs 32=_ from e] at this;exact this⟩
  | 11,_ =>
   have hp:=(h.k 11 (by omega)).ob;rw [hE 11 (by omega) (by omega) (by omega) (by omega) (by omega) (by omega)] at hp;obtain ⟨ao,c,e⟩:=gV hp;exact ⟨ao,c,by have:=qR.cell 35 (by omega);rw [show cs 35=_ from e] at this;exact this⟩
  | 12,_ =>
   have hp:=(h.k 12 (by omega)).ob;rw [hE 12 (by omega) (by omega) (by omega) (by omega) (by omega) (by omega)] at hp;obtain ⟨ao,c,e⟩:=gV hp;exact ⟨ao,c,by have:=qR.cell 38 (by omega);rw [show cs 38=_ from e] at this;exact this⟩
  | n+13,h=>omega
 have het:∀ i j,i<13->j<13->i≠j->∀ s∈L i,∀ u∈L j,s.g≠u.g:=fun i j hi hj hne s hs u hu=>by
  have hi':i=0∨i=1∨i=3∨i=6∨i=7:=by
   apply Classical.byContradiction;intro hc;have:=hE i hi (fun e=>hc (by simp [e])) (fun e=>hc (by simp [e])) (fun e=>hc (by simp [e])) (fun e=>hc (by simp [e])) (fun e=>hc (by simp [e]));rw [this] at hs;simp at hs
  have hj':j=0∨j=1∨j=3∨j=6∨j=7:=by
   apply Classical.byContradiction;intro hc;have:=hE j hj (fun e=>hc (by simp [e])) (fun e=>hc (by simp [e])) (fun e=>hc (by simp [e])) (fun e=>hc (by simp [e])) (fun e=>hc (by simp [e]));rw [this] at hu;simp at hu
  refine ((h.k i hi).ok s hs).2.2.2.1.ne ((h.k j hj).ok u hu).2.2.2.1 ?_;rcases hi' with rfl | rfl | rfl | rfl | rfl <;> rcases hj' with rfl | rfl | rfl | rfl | rfl <;> first | exact absurd rfl hne | decide
 have hX:xI (Le (rf gS B w.heap.size (cs 2) r0 c0 (L 0) (zM B (cs 3) s0 d0 ((L 0).map au.v) (ys 0))) (rf gZ B w.heap.size (cs 5) r1 c1 (L 1) (zN B (cs 6) s1 d1 ((L 1).map au.v) (ys 1))) (Vg B w.heap.size (cs 11) r3 c3 (L 3) (zO B (cs 12) s3 d3 ((L 3).map au.v) (ys 3))) (rf dJ B w.heap.size (cs 20) r6 c6 (L 6) (zQ B (cs 21) s6 d6 ((L 6).map au.v) (ys 6))) (rf fL B w.heap.size (cs 23) r7 c7 (L 7) (zR B (cs 24) s7 d7 ((L 7).map au.v) (ys 7))) B):=fun i j hi hj hne b hb hn=>by
  obtain ⟨s,hs,rfl⟩:=hown i hi b hb;have hf:=((h.k i hi).ok s hs).2.2.2.2;rcases abV j hj _ hn with ⟨u,hu,e⟩ | e | e
  ·exact het i j hi hj hne s hs u hu e.symm
  ·exact hf.2 _ (by omega) e
  ·have:=hf.1;omega
 refine KC (I:=fun v=>w0.grownBy v none/\wl.grownBy v (some B)) (by omega) hall hX (fun v v' row hv Xt hr=>?_) (fun v i u hv=>⟨af hv.1 (aA v B i u) (by omega),gQ hv.2 (aA v B i u)⟩) ?_ w (Nat.le_refl _) hzz (by rw [<- h.t.c0];exact qR.cell 0 (by omega)) pass (qR.fz 1 (by omega)) ⟨hg,PB⟩
 ·have hrow:∀ i,row=some i->w.heap.size<=i∨∃ j,j<13/\∃ s∈L j,s.g=i:=fun i e=>by
   rcases hr i e with ⟨j,hj,ho⟩ | hi
   ·exact Or.inr ⟨j,hj,hown j hj i ho⟩
   ·exact Or.inl hi
  have hb:∀ i,row=some i->base<=i:=fun i e=>by
   rcases hrow i e with h1 | ⟨j,hj,s,hs,rfl⟩
   ·omega
   ·exact hge j hj s hs
  refine ⟨?_,?_⟩
  ·cases row with
   | none=>exact gQ hv.1 Xt
   | some i=>exact af hv.1 Xt (by have:=hb i rfl;omega)
  ·exact ⟨Xt.os.trans hv.2.os,Xt.tape.trans hv.2.tape,Xt.output.trans hv.2.output,Nat.le_trans hv.2.size Xt.size,fun i hi hne=>(Xt.block i (Nat.lt_of_lt_of_le hi hv.2.size) (fun e=>by have:=hb i e.symm;omega)).trans (hv.2.block i hi hne)⟩
 ·simp only [aT,Le,rf,Vg,Ox]
  omega
end Go.Proofs.YtgldkdbkaachkaaGreatDoor
