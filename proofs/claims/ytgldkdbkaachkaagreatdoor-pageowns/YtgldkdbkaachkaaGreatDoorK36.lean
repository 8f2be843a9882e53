import Derived.Test.YtgldkdbkaachkaaGreatDoorK19
set_option maxRecDepth 100000
set_option maxHeartbeats 4000000
namespace Go.Proofs.YtgldkdbkaachkaaGreatDoor
open Go.RowKit
theorem Li (x:Pv)(p:Pg)(w:World)(hp:Pm w x p)(he:qW x p)(ht:pA w)(hm:Mk w)(hk:p.kind=3):Calls Tryz.prog 8 #[.agg #[.int .i64 x.k,.slice x.i.a x.i.n x.i.c,.int .i64 x.l,.slice x.s.a x.s.n x.s.c,.slice x.d.a x.d.n x.d.c,.int .i64 x.x,.slice x.b.a x.b.n x.b.c,.slice x.t.a x.t.n x.t.c,.int .i64 x.h.v,.int .i64 x.h.c,.int .i64 x.h.r,.int .i64 x.h.h,.int .i64 x.h.k,.int .i64 x.h.f,.int .i64 x.h.n]] w fun en w'=>Xc p w en w':=by
 have e1:kW x.k=#[.int .i64 3,.func (.func 128) #[] #[],.func (.func 129) #[] #[],.func (.func 130) #[] #[]]:=by rw [hp.kind,hk];rfl
 have e2:iT x.k=true:=by rw [hp.kind,hk];rfl
 have HQ:Hid (iT p.kind=true):=by show _=_;rw [hk];rfl
 have HS:=hJ (EZ hp hk);have HP:=hJ hp;have HE:=hJ he;have HT:=hJ ht;have HM:=hJ hm;have HK:=hJ hk;have E1:=hJ e1;have E2:=hJ e2;clear hp he ht hm hk e1 e2;go_enter Tryz.func8,Tryz.ntmps8;go_upto_region 1 with fail
 have X1:=hJ (Px.new w x);have G1:=hJ (gP w x);generalize w.alloc (.cells #[.int .i64 x.k,.slice x.i.a x.i.n x.i.c,.int .i64 x.l,.slice x.s.a x.s.n x.s.c,.slice x.d.a x.d.n x.d.c,.int .i64 x.x,.slice x.b.a x.b.n x.b.c,.slice x.t.a x.t.n x.t.c,.int .i64 x.h.v,.int .i64 x.h.c,.int .i64 x.h.r,.int .i64 x.h.h,.int .i64 x.h.k,.int .i64 x.h.f,.int .i64 x.h.n] 30)=w1 at *;obtain ⟨c0,c1,c2,c3,c4,c5,c6,c7,c8,c9,c10,c11,c12,c13,c14⟩:=X1.out.cells
 go_wp2_with fail
 refine (eF x.k _).mono ?_;rintro en w2 ⟨rfl,hg2⟩;rw [E1.out,E2.out];have ga:=World.grownBy_alloc w2 (.cells #[.int .i64 3,.func (.func 128) #[] #[],.func (.func 129) #[] #[],.func (.func 130) #[] #[]] 73) none;have X3:=hJ ((X1.out.ae hg2).ae ga);have G3:=hJ (gQ (gQ G1.out hg2) ga);have K3:=hJ (eW.new w2 #[.int .i64 3,.func (.func 128) #[] #[],.func (.func 129) #[] #[],.func (.func 130) #[] #[]]);have hl2:w.heap.size<w2.heap.size:=Nat.lt_of_lt_of_le X1.out.lt hg2.size;clear hg2 ga X1 G1 c0 c1 c2 c3 c4 c5 c6 c7 c8 c9 c10 c11 c12 c13 c14;go_upto_region 2 with fail
 generalize w2.alloc (.cells #[.int .i64 3,.func (.func 128) #[] #[],.func (.func 129) #[] #[],.func (.func 130) #[] #[]] 73)=w3 at *;generalize w2.heap.size=T at *;obtain ⟨c0,c1,c2,c3,c4,c5,c6,c7,c8,c9,c10,c11,c12,c13,c14⟩:=X3.out.cells;obtain ⟨k0,k1,k2,k3⟩:=eW.rT K3.out;go_upto_region 4 with fail
 go_region_law
  (first
   | (have zz:=zS;go_simp;go_at_call 130;refine (ET f4 _).mono ?_;rintro en w5 ⟨⟨f5,rfl,pw⟩,aK⟩;have Ih:=hJ pw;clear pw;have heq:∀ W:World,(binOp .neq 77 (.agg #[.int .i64 f5.i,.int .i64 f5.l,.int .i64 f5.s,.int .i64 f5.d,.int .i64 f5.x,.int .i64 f5.b,.int .i64 f5.t,.int .i64 f5.h.v,.int .i64 f5.h.c,.int .i64 f5.h.r,.int .i64 f5.h.h,.int .i64 f5.h.k,.int .i64 f5.h.f,.int .i64 f5.h.n]) (.agg #[.int .i64 0,.int .i64 0,.int .i64 0,.int .i64 0,.int .i64 0,.int .i64 0,.int .i64 0,.int .i64 0,.int .i64 0,.int .i64 0,.int .i64 0,.int .i64 0,.int .i64 0,.int .i64 0])).run Tryz.prog W=.ok (.bool (!decide (eE f5=eE fz))) W:=(fun W=>kV f5 fz W);have JL:∀ (a b:Operand) (W:World),(eqGuard .neq 77 a b (.agg #[.int .i64 f5.i,.int .i64 f5.l,.int .i64 f5.s,.int .i64 f5.d,.int .i64 f5.x,.int .i64 f5.b,.int .i64 f5.t,.int .i64 f5.h.v,.int .i64 f5.h.c,.int .i64 f5.h.r,.int .i64 f5.h.h,.int .i64 f5.h.k,.int .i64 f5.h.f,.int .i64 f5.h.n]) (.agg #[.int .i64 0,.int .i64 0,.int .i64 0,.int .i64 0,.int .i64 0,.int .i64 0,.int .i64 0,.int .i64 0,.int .i64 0,.int .i64 0,.int .i64 0,.int .i64 0,.int .i64 0,.int .i64 0])).run Tryz.prog W=.ok () W:=(fun a b W=>gR a b f5 fz W))
   | (go_simp;go_at_call 27;refine (fp x _).mono ?_;rintro en w4 ⟨⟨f4,rfl,py⟩,hg4⟩;have zS:=hJ py;clear py;have gw:=gQ ((Qt.refl w3).drew.grown none) hg4;have X4:=X3.out.ae gw;have K4:=K3.out.ae gw;obtain ⟨d0,d1,d2,d3⟩:=eW.rT K4;obtain ⟨b0,b1,b2,b3,b4,b5,b6,b7,b8,b9,Ph,TG,TH,TI,Pj⟩:=X4.cells))
 all_goals
  have HF:Hid (f5=fz↔p=eV p):=by show _↔_;rw [Ih.out,zS.out];exact HS.out
  have X5:=hJ (X4.ae aK);have K5:=hJ (K4.ae aK);have G5:=hJ (gQ (gQ G3.out gw) aK);clear aK hg4 gw zS Ih heq JL X4 K4 d0 d1 d2 d3 b0 b1 b2 b3 b4 b5 b6 b7 b8 b9 Ph TG TH TI Pj c0 c1 c2 c3 c4 c5 c6 c7 c8 c9 c10 c11 c12 c13 c14 k0 k1 k2 k3 X3 K3 G3
  by_cases hz:eE f5=eE fz
  ·have HZ:=hJ (HF.out.1 (oz hz))
   have hz2:(!decide (eE f5=eE fz))=false:=by simp [hz]
   rw [hz2];clear hz hz2 HF;obtain ⟨c0,c1,c2,c3,c4,c5,c6,c7,c8,c9,c10,c11,c12,c13,c14⟩:=X5.out.cells;obtain ⟨k0,k1,k2,k3⟩:=eW.rT K5.out
   go_wp2_with fail
   refine (Oj x p _ (HP.out.ae G5.out) HE.out (HM.out.ae G5.out) HK.out).mono ?_;rintro en w6 ⟨⟨ao,j,c,b,e,rfl,hbr,jF⟩,bE⟩;have R6:=hJ hbr;have B6:=hJ jF;have G6:=hJ (gQ G5.out bE);clear hbr jF bE G5 X5 K5 c0 c1 c2 c3 c4 c5 c6 c7 c8 c9 c10 c11 c12 c13 c14 k0 k1 k2 k3
   by_cases he:e=0
   ·subst he
    go_wp2_with fail
    refine (iW ao j c b _ B6.out (R6.out.bt HP.out.ib HP.out.sb HP.out.db) (HT.out.ae G6.out)).mono ?_;rintro en w7 ⟨po,m,rfl,xz,TJ,Ii,cG⟩;have B7:=hJ xz;have N7:=hJ Ii;have G7:=hJ (gQ G6.out cG);have Ab:=G6.out.size;clear xz cG Ii G6;go_wp2
    go_ret2
    exact ⟨⟨_,_,_,_,rfl,.inr (.inr ⟨HQ.out,HZ.out,_,_,R6.out,.inr ⟨rfl,rfl,rfl⟩⟩),B7.out,iY (R6.out.bt HP.out.ib HP.out.sb HP.out.db),TJ,fun h=>by obtain ⟨g,h1,h2,h3⟩:=N7.out h;exact ⟨g,h1,by omega,h3⟩⟩,G7.out⟩
   ·have Oe:(e==0)=false:=by simp [he]
    have xw:(e != 0)=true:=by simp [he]
    have Og:=hJ he;clear he;go_wp2
    go_ret2
    exact ⟨⟨none,0,[],e,rfl,.inr (.inr ⟨HQ.out,HZ.out,_,_,R6.out,.inl ⟨Og.out,rfl,rfl⟩⟩),ai.empty _,Bt.nil,by omega,fun h=>by omega⟩,G6.out⟩
  ·have HZ:Hid (p≠eV p):=fun e=>hz (by rw [HF.out.2 e])
   have hz2:(!decide (eE f5=eE fz))=true:=by simp [hz]
   rw [hz2];clear hz hz2 HF;go_wp2
   go_ret2
   exact ⟨⟨none,0,[],81,rfl,.inr (.inl ⟨HQ.out,HZ.out,rfl,rfl⟩),ai.empty _,Bt.nil,by omega,fun h=>by omega⟩,G5.out⟩
end Go.Proofs.YtgldkdbkaachkaaGreatDoor
