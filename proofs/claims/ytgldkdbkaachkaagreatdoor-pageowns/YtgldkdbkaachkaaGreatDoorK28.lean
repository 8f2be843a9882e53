import Derived.Test.YtgldkdbkaachkaaGreatDoorK19
import Derived.Test.YtgldkdbkaachkaaGreatDoorK27
set_option maxRecDepth 100000
set_option maxHeartbeats 8000000
namespace Go.Proofs.YtgldkdbkaachkaaGreatDoor
open Go.RowKit
structure Dk9 (j:Int)(zs:List Int)(w:World)(en:Ending)(w':World):Prop where
 out:∃ (y:Pv) (p:Pg) (e:Int),en=.returned (.tuple #[.agg #[.int .i64 y.k,.slice y.i.a y.i.n y.i.c,.int .i64 y.l,.slice y.s.a y.s.n y.s.c,.slice y.d.a y.d.n y.d.c,.int .i64 y.x,.slice y.b.a y.b.n y.b.c,.slice y.t.a y.t.n y.t.c,.int .i64 y.h.v,.int .i64 y.h.c,.int .i64 y.h.r,.int .i64 y.h.h,.int .i64 y.h.k,.int .i64 y.h.f,.int .i64 y.h.n],.int .i64 e])/\y.k=0/\Pz w w' { y with k:=j } p/\mS j zs p e/\qW { y with k:=j } p
 gr:w.grownBy w' none
theorem OS (ao:Option Addr)(n c:Nat)(zs:List Int)(w:World)(hb:ai w ao n c zs)(bp:Bt zs)(_hn:zs.length=4092)(hm:Mk w) :
  Calls Tryz.prog 123 #[.slice ao n c] w fun en w'=>Dk9 1 zs w en w':=by
 have HB:=hJ hb;have HM:=hJ hm;clear hb hm;go_enter Tryz.func123,Tryz.ntmps123;go_upto_region 1 with fail
 have U1:=hJ (Px.new w zV);have G1:=hJ (gP w zV);simp only [zV,nS,zH] at U1 G1;generalize w.alloc (.cells #[.int .i64 0,.slice none 0 0,.int .i64 0,.slice none 0 0,.slice none 0 0,.int .i64 0,.slice none 0 0,.slice none 0 0,.int .i64 0,.int .i64 0,.int .i64 0,.int .i64 0,.int .i64 0,.int .i64 0,.int .i64 0] 30)=w1 at *
 go_wp2_with fail
 refine (Ep ao n c zs _ (HB.out.ae G1.out) bp).mono ?_;rintro en w2 ⟨⟨a,q,cap,e,L,rfl,hd,Ns,hib,hl,hqc,hcm,hnw⟩,hg2⟩;have PN:Hid (Pz w w2 { (⟨0,⟨a,q,cap⟩,0,nS,nS,0,nS,nS,zH⟩:Pv) with k:=1 } ⟨1,L,0,[],[],0,[],[],zH⟩):=Tm Ns hib hl (JS hd hl) (GX hd) hnw G1.out.size;have DR:Hid (mS 1 zs ⟨1,L,0,[],[],0,[],[],zH⟩ e):=.inl ⟨rfl,L,hd,fun _=>rfl⟩;have EN:Hid (qW { (⟨0,⟨a,q,cap⟩,0,nS,nS,0,nS,nS,zH⟩:Pv) with k:=1 } ⟨1,L,0,[],[],0,[],[],zH⟩):=GV (GX hd);have U2:=hJ (U1.out.ae hg2);have G2:=hJ (gQ G1.out hg2);clear hd Ns hib hl hnw hqc hcm hg2 U1 G1
 go_wp2_with (refine ax rfl _ _ rfl w.heap.size ⟨0,⟨a,q,cap⟩,0,nS,nS,0,nS,nS,zH⟩ zV rfl rfl U2.out ?_)
 intro w3 hx3 hg3 _;have P3:=hJ (PN.out.page U2.out hg3);have G3:=hJ (af G2.out hg3 (Nat.le_refl _));clear hg3 PN U2 G2;go_wp2;refine bodyPost_ret (aQ rfl _ _ w.heap.size ⟨0,⟨a,q,cap⟩,0,nS,nS,0,nS,nS,zH⟩ rfl hx3) rfl ?_;exact ⟨⟨⟨0,⟨a,q,cap⟩,0,nS,nS,0,nS,nS,zH⟩,_,_,rfl,rfl,P3.out,DR.out,EN.out⟩,G3.out⟩
theorem OT (ao:Option Addr)(n c:Nat)(zs:List Int)(w:World)(hb:ai w ao n c zs)(bp:Bt zs)(_hn:zs.length=4092)(hm:Mk w) :
  Calls Tryz.prog 126 #[.slice ao n c] w fun en w'=>Dk9 2 zs w en w':=by
 have HB:=hJ hb;have HM:=hJ hm;clear hb hm;go_enter Tryz.func126,Tryz.ntmps126;go_upto_region 1 with fail
 have U1:=hJ (Px.new w zV);have G1:=hJ (gP w zV);simp only [zV,nS,zH] at U1 G1;generalize w.alloc (.cells #[.int .i64 0,.slice none 0 0,.int .i64 0,.slice none 0 0,.slice none 0 0,.int .i64 0,.slice none 0 0,.slice none 0 0,.int .i64 0,.int .i64 0,.int .i64 0,.int .i64 0,.int .i64 0,.int .i64 0,.int .i64 0] 30)=w1 at *
 go_wp2_with fail
 refine (BR ao n c zs _ (HB.out.ae G1.out) bp).mono ?_;rintro en w2 ⟨⟨lv,a,q,cap,b',m',bh,e,L,K,rfl,hd,Wu,hlb,Ve,hqc,hcm,nu,hkn,_,_,hna⟩,hg2⟩;have PN:Hid (Pz w w2 { (⟨0,nS,lv,⟨a,q,cap⟩,⟨b',m',bh⟩,0,nS,nS,zH⟩:Pv) with k:=2 } ⟨2,[],lv,L,K,0,[],[],zH⟩):=KQ Wu hlb Ve (uP hd Ve hkn).1 nu hkn (uP hd Ve hkn).2 (uS hd) hna G1.out.size;have DR:Hid (mS 2 zs ⟨2,[],lv,L,K,0,[],[],zH⟩ e):=.inr (.inl ⟨rfl,lv,L,K,hd,fun _=>rfl⟩);have EN:Hid (qW { (⟨0,nS,lv,⟨a,q,cap⟩,⟨b',m',bh⟩,0,nS,nS,zH⟩:Pv) with k:=2 } ⟨2,[],lv,L,K,0,[],[],zH⟩):=Ki (uS hd).1 (uS hd).2 ⟨hqc,hcm⟩;have U2:=hJ (U1.out.ae hg2);have G2:=hJ (gQ G1.out hg2);clear hd Wu hlb Ve hqc hcm nu hkn hna hg2 U1 G1
 go_wp2_with (refine ax rfl _ _ rfl w.heap.size ⟨0,nS,lv,⟨a,q,cap⟩,⟨b',m',bh⟩,0,nS,nS,zH⟩ zV rfl rfl U2.out ?_)
 intro w3 hx3 hg3 _;have P3:=hJ (PN.out.page U2.out hg3);have G3:=hJ (af G2.out hg3 (Nat.le_refl _));clear hg3 PN U2 G2;go_wp2;refine bodyPost_ret (aQ rfl _ _ w.heap.size ⟨0,nS,lv,⟨a,q,cap⟩,⟨b',m',bh⟩,0,nS,nS,zH⟩ rfl hx3) rfl ?_;exact ⟨⟨⟨0,nS,lv,⟨a,q,cap⟩,⟨b',m',bh⟩,0,nS,nS,zH⟩,_,_,rfl,rfl,P3.out,DR.out,EN.out⟩,G3.out⟩
theorem OU (ao:Option Addr)(n c:Nat)(zs:List Int)(w:World)(hb:ai w ao n c zs)(bp:Bt zs)(hn:zs.length=4092)(hm:Mk w) :
  Calls Tryz.prog 129 #[.slice ao n c] w fun en w'=>Dk9 3 zs w en w':=by
 have HB:=hJ hb;have HM:=hJ hm;clear hb hm;go_enter Tryz.func129,Tryz.ntmps129;go_upto_region 1 with fail
 have U1:=hJ (Px.new w zV);have G1:=hJ (gP w zV);simp only [zV,nS,zH] at U1 G1;generalize w.alloc (.cells #[.int .i64 0,.slice none 0 0,.int .i64 0,.slice none 0 0,.slice none 0 0,.int .i64 0,.slice none 0 0,.slice none 0 0,.int .i64 0,.int .i64 0,.int .i64 0,.int .i64 0,.int .i64 0,.int .i64 0,.int .i64 0] 30)=w1 at *
 go_wp2_with fail
 refine (uC ao n c zs _ (HB.out.ae G1.out) bp).mono ?_;rintro en w2 ⟨a,q,rfl,hb4,OV,hg2⟩;have PN:Hid (Pz w w2 { (⟨0,nS,0,nS,nS,vN zs,⟨a,q,q⟩,nS,zH⟩:Pv) with k:=3 } ⟨3,[],0,[],[],vN zs,vD zs,[],zH⟩):=Tr hb4 (WY bp) (by rw [<- hb4.len];exact Sa hn) OV G1.out.size;have DR:Hid (mS 3 zs ⟨3,[],0,[],[],vN zs,vD zs,[],zH⟩ (vE zs)):=.inr (.inr (.inl ⟨rfl,rfl,fun _=>rfl⟩));have EN:Hid (qW { (⟨0,nS,0,nS,nS,vN zs,⟨a,q,q⟩,nS,zH⟩:Pv) with k:=3 } ⟨3,[],0,[],[],vN zs,vD zs,[],zH⟩):=RX;have U2:=hJ (U1.out.ae hg2);have G2:=hJ (gQ G1.out hg2);clear hb4 OV hg2 U1 G1;generalize vN zs=nx at *;generalize vD zs=D at *;generalize vE zs=e at *
 go_wp2_with (refine ax rfl _ _ rfl w.heap.size ⟨0,nS,0,nS,nS,nx,⟨a,q,q⟩,nS,zH⟩ zV rfl rfl U2.out ?_)
 intro w3 hx3 hg3 _;have P3:=hJ (PN.out.page U2.out hg3);have G3:=hJ (af G2.out hg3 (Nat.le_refl _));clear hg3 PN U2 G2;go_wp2;refine bodyPost_ret (aQ rfl _ _ w.heap.size ⟨0,nS,0,nS,nS,nx,⟨a,q,q⟩,nS,zH⟩ rfl hx3) rfl ?_;exact ⟨⟨⟨0,nS,0,nS,nS,nx,⟨a,q,q⟩,nS,zH⟩,_,_,rfl,rfl,P3.out,DR.out,EN.out⟩,G3.out⟩
theorem OW (ao:Option Addr)(n c:Nat)(zs:List Int)(w:World)(hb:ai w ao n c zs)(bp:Bt zs)(_hn:zs.length=4092)(hm:Mk w) :
  Calls Tryz.prog 132 #[.slice ao n c] w fun en w'=>Dk9 4 zs w en w':=by
 have HB:=hJ hb;have HM:=hJ hm;clear hb hm;go_enter Tryz.func132,Tryz.ntmps132;go_upto_region 1 with fail
 have U1:=hJ (Px.new w zV);have G1:=hJ (gP w zV);simp only [zV,nS,zH] at U1 G1;generalize w.alloc (.cells #[.int .i64 0,.slice none 0 0,.int .i64 0,.slice none 0 0,.slice none 0 0,.int .i64 0,.slice none 0 0,.slice none 0 0,.int .i64 0,.int .i64 0,.int .i64 0,.int .i64 0,.int .i64 0,.int .i64 0,.int .i64 0] 30)=w1 at *
 go_wp2_with fail
 refine (uy ao n c zs _ (HB.out.ae G1.out) bp).mono ?_;rintro en w2 ⟨a,q,rfl,hb4,Ve,Ci,hg2⟩;have PN:Hid (Pz w w2 { (⟨0,nS,0,nS,nS,uN zs,nS,⟨a,q,q⟩,zH⟩:Pv) with k:=4 } ⟨4,[],0,[],[],uN zs,[],uL zs,zH⟩):=Ts hb4 Ve (by rw [<- Ve];exact xC _) Ci G1.out.size;have DR:Hid (mS 4 zs ⟨4,[],0,[],[],uN zs,[],uL zs,zH⟩ (uE zs)):=.inr (.inr (.inr (.inl ⟨rfl,rfl,fun _=>rfl⟩)));have EN:Hid (qW { (⟨0,nS,0,nS,nS,uN zs,nS,⟨a,q,q⟩,zH⟩:Pv) with k:=4 } ⟨4,[],0,[],[],uN zs,[],uL zs,zH⟩):=RY (Xa _);have U2:=hJ (U1.out.ae hg2);have G2:=hJ (gQ G1.out hg2);clear hb4 Ve Ci hg2 U1 G1;generalize uN zs=nx at *;generalize uL zs=D at *;generalize uE zs=e at *
 go_wp2_with (refine ax rfl _ _ rfl w.heap.size ⟨0,nS,0,nS,nS,nx,nS,⟨a,q,q⟩,zH⟩ zV rfl rfl U2.out ?_)
 intro w3 hx3 hg3 _;have P3:=hJ (PN.out.page U2.out hg3);have G3:=hJ (af G2.out hg3 (Nat.le_refl _));clear hg3 PN U2 G2;go_wp2;refine bodyPost_ret (aQ rfl _ _ w.heap.size ⟨0,nS,0,nS,nS,nx,nS,⟨a,q,q⟩,zH⟩ rfl hx3) rfl ?_;exact ⟨⟨⟨0,nS,0,nS,nS,nx,nS,⟨a,q,q⟩,zH⟩,_,_,rfl,rfl,P3.out,DR.out,EN.out⟩,G3.out⟩
theorem OX (ao:Option Addr)(n c:Nat)(zs:List Int)(w:World)(hb:ai w ao n c zs)(bp:Bt zs)(_hn:zs.length=4092)(hm:Mk w) :
  Calls Tryz.prog 135 #[.slice ao n c] w fun en w'=>Dk9 5 zs w en w':=by
 have HB:=hJ hb;have HM:=hJ hm;clear hb hm;go_enter Tryz.func135,Tryz.ntmps135;go_upto_region 1 with fail
 have U1:=hJ (Px.new w zV);have G1:=hJ (gP w zV);simp only [zV,nS,zH] at U1 G1;generalize w.alloc (.cells #[.int .i64 0,.slice none 0 0,.int .i64 0,.slice none 0 0,.slice none 0 0,.int .i64 0,.slice none 0 0,.slice none 0 0,.int .i64 0,.int .i64 0,.int .i64 0,.int .i64 0,.int .i64 0,.int .i64 0,.int .i64 0] 30)=w1 at *
 go_wp2_with fail
 refine (Cq ao n c zs _ (HB.out.ae G1.out) bp (HM.out.ae G1.out)).mono ?_;rintro en w2 ⟨rfl,hg2⟩;have PN:Hid (Pz w w2 { (⟨0,nS,0,nS,nS,0,nS,nS,aH zs⟩:Pv) with k:=5 } ⟨5,[],0,[],[],0,[],[],aH zs⟩):=Tk _ _ (aH zs);have DR:Hid (mS 5 zs ⟨5,[],0,[],[],0,[],[],aH zs⟩ (aE zs)):=.inr (.inr (.inr (.inr ⟨rfl,rfl,fun _=>rfl⟩)));have EN:Hid (qW { (⟨0,nS,0,nS,nS,0,nS,nS,aH zs⟩:Pv) with k:=5 } ⟨5,[],0,[],[],0,[],[],aH zs⟩):=RZ _;have U2:=hJ (U1.out.ae hg2);have G2:=hJ (gQ G1.out hg2);clear  hg2 U1 G1;generalize aE zs=e at *;generalize aH zs=H at *;have ga:=World.grownBy_alloc w2 (.cells #[.int .i64 H.v,.int .i64 H.c,.int .i64 H.r,.int .i64 H.h,.int .i64 H.k,.int .i64 H.f,.int .i64 H.n] 28) none;have PN':=hJ (PN.out.ae ga);have Ad:=hJ (U2.out.ae ga);have FE:=hJ (gQ G2.out ga);have X2':=hJ (Hx.new w2 H.v H.c H.r H.h H.k H.f H.n);clear ga PN U2 G2;go_upto_region 2 with fail
 generalize w2.alloc (.cells #[.int .i64 H.v,.int .i64 H.c,.int .i64 H.r,.int .i64 H.h,.int .i64 H.k,.int .i64 H.f,.int .i64 H.n] 28)=w2' at *;generalize w2.heap.size=T at *;obtain ⟨c0,c1,c2,c3,c4,c5,c6⟩:=X2'.out.cells
 go_wp2_with (refine ax rfl _ _ rfl w.heap.size ⟨0,nS,0,nS,nS,0,nS,nS,H⟩ zV rfl rfl Ad.out ?_)
 intro w3 hx3 hg3 _;have P3:=hJ (PN'.out.page Ad.out hg3);have G3:=hJ (af FE.out hg3 (Nat.le_refl _));clear hg3 PN' Ad FE c0 c1 c2 c3 c4 c5 c6;go_wp2;refine bodyPost_ret (aQ rfl _ _ w.heap.size ⟨0,nS,0,nS,nS,0,nS,nS,H⟩ rfl hx3) rfl ?_;exact ⟨⟨⟨0,nS,0,nS,nS,0,nS,nS,H⟩,_,_,rfl,rfl,P3.out,DR.out,EN.out⟩,G3.out⟩
structure Dd9 (zs:List Int)(w:World)(en:Ending)(w':World):Prop where
 out:∃ (y:Pv) (p:Pg) (e:Int),en=.returned (.tuple #[.agg #[.int .i64 y.k,.slice y.i.a y.i.n y.i.c,.int .i64 y.l,.slice y.s.a y.s.n y.s.c,.slice y.d.a y.d.n y.d.c,.int .i64 y.x,.slice y.b.a y.b.n y.b.c,.slice y.t.a y.t.n y.t.c,.int .i64 y.h.v,.int .i64 y.h.c,.int .i64 y.h.r,.int .i64 y.h.h,.int .i64 y.h.k,.int .i64 y.h.f,.int .i64 y.h.n],.int .i64 e])/\gj zs p e/\Pz w w' y p/\qW y p
 gr:w.grownBy w' none
theorem ri (ao:Option Addr)(n c:Nat)(zs:List Int)(w:World)(hb:ai w ao n c zs)(bp:Bt zs)(hc:n<=c)(ht:pA w)(hm:Mk w) :
  Calls Tryz.prog 10 #[.slice ao n c] w fun en w'=>Dd9 zs w en w':=by
 have HB:=hJ hb;have DA:=hJ (Od bp);have HT:=hJ ht;have HM:=hJ hm;clear hb ht hm;go_enter Tryz.func10,Tryz.ntmps10;go_upto_region 1 with fail
 have U1:=hJ (Px.new w zV);have G1:=hJ (gP w zV);simp only [zV,nS,zH] at U1 G1;generalize w.alloc (.cells #[.int .i64 0,.slice none 0 0,.int .i64 0,.slice none 0 0,.slice none 0 0,.int .i64 0,.slice none 0 0,.slice none 0 0,.int .i64 0,.int .i64 0,.int .i64 0,.int .i64 0,.int .i64 0,.int .i64 0,.int .i64 0] 30)=w1 at *
 go_wp2_with fail
 refine (Kh ao n c zs _ (HB.out.ae G1.out) bp (HT.out.ae G1.out) hc).mono ?_;rintro en w2 ⟨po,m,rfl,hb2,hg2⟩;have U2:=hJ (U1.out.ae hg2);have G2:=hJ (gQ G1.out hg2);have HO:=hJ hb2;clear hb2 hg2 U1 G1
 by_cases he:cZ zs=0
 ·rw [he]
  have HE:=hJ he;have YC:=hJ (JR he);have hm:m=4092:=by rw [<- HO.out.len];exact YC.out
  subst hm;obtain ⟨g0,o0,rfl,ru,hcell⟩:=HO.out.at (by omega);have cb:=hcell 0 (by omega);rw [Nat.add_zero] at cb;have hkb:=DA.out.getD 0;obtain ⟨kn,hkn⟩:∃ kn:Nat,(bD zs).getD 0 0=(kn:Int):=⟨((bD zs).getD 0 0).toNat,by omega⟩;rw [hkn] at cb;have NT:=hJ hkn;have kw:IntKind.i64.wrap (kn:Int)=(kn:Int):=by simp [IntKind.wrap,IntKind.bits,IntKind.signed];omega
  clear he hcell hkb hkn ru
  go_wp2_with fail
  refine (eF (kn:Int) _).mono ?_;rintro en w3 ⟨rfl,hg3⟩;have hl3:w.heap.size<w3.heap.size:=Nat.lt_of_lt_of_le U2.out.lt hg3.size;have Ad:=hJ (U2.out.ae hg3);have FE:=hJ (gQ G2.out hg3);have OY:=hJ (HO.out.ae hg3);clear hg3 U2 G2 HO cb
  by_cases Df:kn=1
  ·subst Df
   have e1:kW (((1:Nat)):Int)=#[.int .i64 1,.func (.func 122) #[] #[],.func (.func 123) #[] #[],.func (.func 124) #[] #[]]:=rfl;have e2:iT (((1:Nat)):Int)=true:=rfl;rw [e1,e2];clear e1 e2;have ga:=World.grownBy_alloc w3 (.cells #[.int .i64 1,.func (.func 122) #[] #[],.func (.func 123) #[] #[],.func (.func 124) #[] #[]] 73) none;have U4:=hJ (Ad.out.ae ga);have G4:=hJ (gQ FE.out ga);have O4:=hJ (OY.out.ae ga);have K4:=hJ (eW.new w3 #[.int .i64 1,.func (.func 122) #[] #[],.func (.func 123) #[] #[],.func (.func 124) #[] #[]]);clear ga Ad FE OY;go_upto_region 5 with fail
   generalize w3.alloc (.cells #[.int .i64 1,.func (.func 122) #[] #[],.func (.func 123) #[] #[],.func (.func 124) #[] #[]] 73)=w4 at *;generalize w3.heap.size=T at *;obtain ⟨k0,k1,k2,k3⟩:=eW.rT K4.out
   go_wp2_with fail
   refine (OS _ 4092 4092 (bD zs) _ O4.out DA.out YC.out (HM.out.ae G4.out)).mono ?_;rintro en w5 ⟨⟨y,p,e,rfl,hy0,wj,hdr,hen⟩,aK⟩;have ga:=gP w5 zV;have zG:=hJ ((wj.ae ga).from G4.out.size);have DR:=hJ hdr;have EN:=hJ hen;have HY:=hJ hy0;have U5:=hJ ((U4.out.ae aK).ae ga);have K5:=hJ ((K4.out.ae aK).ae ga);have G5:=hJ (gQ (gQ G4.out aK) ga);have X5:=hJ (Px.new w5 zV);have hl5:w.heap.size<w5.heap.size/\T<w5.heap.size:=⟨Nat.lt_of_lt_of_le U4.out.lt aK.size,Nat.lt_of_lt_of_le K4.out.lt aK.size⟩;clear ga wj hdr hen hy0 aK U4 G4 O4 K4 k0 k1 k2 k3;simp only [zV,nS,zH] at zG U5 K5 G5 X5
   go_wp2_with (refine ax rfl _ _ rfl w5.heap.size y zV rfl rfl X5.out ?_)
   intro w6 Af bE _;have U6:=hJ (U5.out.kept bE (fun e=>by have:=Option.some.inj e;omega));have K6:=hJ (K5.out.kept bE (fun e=>by have:=Option.some.inj e;omega));have P6:=hJ (zG.out.page X5.out bE);have G6:=hJ (af G5.out bE (by omega));have X6:=hJ Af;clear Af bE zG U5 K5 G5 X5;generalize w5.heap.size=B at *;have Ig:Hid ((bD zs).getD 0 0=1):=by show _=_;rw [NT.out];rfl
   by_cases he:e=0
   ·subst he
    have HD:Hid (gj zs p 0):=⟨fun h=>absurd rfl h,.inr (.inr ⟨HE.out,by rw [Ig.out];exact DR.out⟩)⟩;obtain ⟨k0,k1,k2,k3⟩:=eW.rT K6.out;have c0:=X6.out.cells.1;have f0:=X6.out.frozen 0;clear DR;go_upto_region 11 with fail
    have eU:w6.grownBy (w6.setCell ⟨B,0,none⟩ (.int .i64 1)) (some B):=ay w6 B 0 (.int .i64 1);have X7:=hJ (X6.out.mJ 1);have U7:=hJ (U6.out.kept eU (fun e=>by have:=Option.some.inj e;omega));have P7:=hJ (P6.out.page X6.out eU);have G7:=hJ (af G6.out eU (by omega));clear eU U6 K6 P6 G6 X6 k0 k1 k2 k3 c0 f0;have HZ:Hid (({ y with k:=1 }:Pv).k=1):=rfl;generalize (w6.setCell ⟨B,0,none⟩ (.int .i64 1))=w7 at *;obtain ⟨y',hy'⟩:∃ y':Pv,({ y with k:=1 }:Pv)=y':=⟨_,rfl⟩;rw [hy'] at X7 P7 EN HZ
    go_wp2_with (refine bP rfl _ rfl B y' rfl X7.out (ax rfl _ _ rfl w.heap.size y' zV rfl rfl U7.out ?_))
    intro w8 Tt bU _;have P8:=hJ (P7.out.page U7.out bU);have G8:=hJ (af G7.out bU (Nat.le_refl _));clear bU P7 G7 U7 X7;go_wp2;refine bodyPost_ret (aQ rfl _ _ w.heap.size y' rfl Tt) rfl ?_;exact ⟨⟨y',p,0,rfl,HD.out,P8.out,EN.out⟩,G8.out⟩
   ·have Oe:(e==0)=false:=by simp [he]
    have xw:(e != 0)=true:=by simp [he]
    have HD:Hid (gj zs zP e):=⟨fun _=>rfl,.inr (.inr ⟨HE.out,by
     rw [Ig.out];exact kX DR.out he⟩)⟩
    clear DR he
    go_wp2_with (refine ax rfl _ _ rfl w.heap.size zV zV rfl rfl U6.out ?_)
    intro w7 Tu cG _;have G7:=hJ (af G6.out cG (Nat.le_refl _));clear cG G6 U6;go_wp2;refine bodyPost_ret (aQ rfl _ _ w.heap.size zV rfl Tu) rfl ?_;exact ⟨⟨zV,zP,_,rfl,HD.out,jA _ _,jw⟩,G7.out⟩
  ·skip
   by_cases hk2:kn=2
   ·subst hk2
    have e1:kW (((2:Nat)):Int)=#[.int .i64 2,.func (.func 125) #[] #[],.func (.func 126) #[] #[],.func (.func 127) #[] #[]]:=rfl;have e2:iT (((2:Nat)):Int)=true:=rfl;rw [e1,e2];clear e1 e2;have ga:=World.grownBy_alloc w3 (.cells #[.int .i64 2,.func (.func 125) #[] #[],.func (.func 126) #[] #[],.func (.func 127) #[] #[]] 73) none;have U4:=hJ (Ad.out.ae ga);have G4:=hJ (gQ FE.out ga);have O4:=hJ (OY.out.ae ga);have K4:=hJ (eW.new w3 #[.int .i64 2,.func (.func 125) #[] #[],.func (.func 126) #[] #[],.func (.func 127) #[] #[]]);clear ga Ad FE OY;go_upto_region 5 with fail
    generalize w3.alloc (.cells #[.int .i64 2,.func (.func 125) #[] #[],.func (.func 126) #[] #[],.func (.func 127) #[] #[]] 73)=w4 at *;generalize w3.heap.size=T at *;obtain ⟨k0,k1,k2,k3⟩:=eW.rT K4.out
    go_wp2_with fail
    refine (OT _ 4092 4092 (bD zs) _ O4.out DA.out YC.out (HM.out.ae G4.out)).mono ?_;rintro en w5 ⟨⟨y,p,e,rfl,hy0,wj,hdr,hen⟩,aK⟩;have ga:=gP w5 zV;have zG:=hJ ((wj.ae ga).from G4.out.size);have DR:=hJ hdr;have EN:=hJ hen;have HY:=hJ hy0;have U5:=hJ ((U4.out.ae aK).ae ga);have K5:=hJ ((K4.out.ae aK).ae ga);have G5:=hJ (gQ (gQ G4.out aK) ga);have X5:=hJ (Px.new w5 zV);have hl5:w.heap.size<w5.heap.size/\T<w5.heap.size:=⟨Nat.lt_of_lt_of_le U4.out.lt aK.size,Nat.lt_of_lt_of_le K4.out.lt aK.size⟩;clear ga wj hdr hen hy0 aK U4 G4 O4 K4 k0 k1 k2 k3;simp only [zV,nS,zH] at zG U5 K5 G5 X5
    go_wp2_with (refine ax rfl _ _ rfl w5.heap.size y zV rfl rfl X5.out ?_)
    intro w6 Af bE _;have U6:=hJ (U5.out.kept bE (fun e=>by have:=Option.some.inj e;omega));have K6:=hJ (K5.out.kept bE (fun e=>by have:=Option.some.inj e;omega));have P6:=hJ (zG.out.page X5.out bE);have G6:=hJ (af G5.out bE (by omega));have X6:=hJ Af;clear Af bE zG U5 K5 G5 X5;generalize w5.heap.size=B at *;have Ig:Hid ((bD zs).getD 0 0=2):=by show _=_;rw [NT.out];rfl
    by_cases he:e=0
    ·subst he
     have HD:Hid (gj zs p 0):=⟨fun h=>absurd rfl h,.inr (.inr ⟨HE.out,by rw [Ig.out];exact DR.out⟩)⟩;obtain ⟨k0,k1,k2,k3⟩:=eW.rT K6.out;have c0:=X6.out.cells.1;have f0:=X6.out.frozen 0;clear DR;go_upto_region 11 with fail
     have eU:w6.grownBy (w6.setCell ⟨B,0,none⟩ (.int .i64 2)) (some B):=ay w6 B 0 (.int .i64 2);have X7:=hJ (X6.out.mJ 2);have U7:=hJ (U6.out.kept eU (fun e=>by have:=Option.some.inj e;omega));have P7:=hJ (P6.out.page X6.out eU);have G7:=hJ (af G6.out eU (by omega));clear eU U6 K6 P6 G6 X6 k0 k1 k2 k3 c0 f0;have HZ:Hid (({ y with k:=2 }:Pv).k=2):=rfl;generalize (w6.setCell ⟨B,0,none⟩ (.int .i64 2))=w7 at *;obtain ⟨y',hy'⟩:∃ y':Pv,({ y with k:=2 }:Pv)=y':=⟨_,rfl⟩;rw [hy'] at X7 P7 EN HZ
     go_wp2_with (refine bP rfl _ rfl B y' rfl X7.out (ax rfl _ _ rfl w.heap.size y' zV rfl rfl U7.out ?_))
     intro w8 Tt bU _;have P8:=hJ (P7.out.page U7.out bU);have G8:=hJ (af G7.out bU (Nat.le_refl _));clear bU P7 G7 U7 X7;go_wp2;refine bodyPost_ret (aQ rfl _ _ w.heap.size y' rfl Tt) rfl ?_;exact ⟨⟨y',p,0,rfl,HD.out,P8.out,EN.out⟩,G8.out⟩
    ·have Oe:(e==0)=false:=by simp [he]
     have xw:(e != 0)=true:=by simp [he]
     have HD:Hid (gj zs zP e):=⟨fun _=>rfl,.inr (.inr ⟨HE.out,by
      rw [Ig.out];exact kX DR.out he⟩)⟩
     clear DR he
     go_wp2_with (refine ax rfl _ _ rfl w.heap.size zV zV rfl rfl U6.out ?_)
     intro w7 Tu cG _;have G7:=hJ (af G6.out cG (Nat.le_refl _));clear cG G6 U6;go_wp2;refine bodyPost_ret (aQ rfl _ _ w.heap.size zV rfl Tu) rfl ?_;exact ⟨⟨zV,zP,_,rfl,HD.out,jA _ _,jw⟩,G7.out⟩
   ·skip
    by_cases hk3:kn=3
    ·subst hk3
     have e1:kW (((3:Nat)):Int)=#[.int .i64 3,.func (.func 128) #[] #[],.func (.func 129) #[] #[],.func (.func 130) #[] #[]]:=rfl;have e2:iT (((3:Nat)):Int)=true:=rfl;rw [e1,e2];clear e1 e2;have ga:=World.grownBy_alloc w3 (.cells #[.int .i64 3,.func (.func 128) #[] #[],.func (.func 129) #[] #[],.func (.func 130) #[] #[]] 73) none;have U4:=hJ (Ad.out.ae ga);have G4:=hJ (gQ FE.out ga);have O4:=hJ (OY.out.ae ga);have K4:=hJ (eW.new w3 #[.int .i64 3,.func (.func 128) #[] #[],.func (.func 129) #[] #[],.func (.func 130) #[] #[]]);clear ga Ad FE OY;go_upto_region 5 with fail
     generalize w3.alloc (.cells #[.int .i64 3,.func (.func 128) #[] #[],.func (.func 129) #[] #[],.func (.func 130) #[] #[]] 73)=w4 at *;generalize w3.heap.size=T at *;obtain ⟨k0,k1,k2,k3⟩:=eW.rT K4.out
     go_wp2_with fail
     refine (OU _ 4092 4092 (bD zs) _ O4.out DA.out YC.out (HM.out.ae G4.out)).mono ?_;rintro en w5 ⟨⟨y,p,e,rfl,hy0,wj,hdr,hen⟩,aK⟩;have ga:=gP w5 zV;have zG:=hJ ((wj.ae ga).from G4.out.size);have DR:=hJ hdr;have EN:=hJ hen;have HY:=hJ hy0;have U5:=hJ ((U4.out.ae aK).ae ga);have K5:=hJ ((K4.out.ae aK).ae ga);have G5:=hJ (gQ (gQ G4.out aK) ga);have X5:=hJ (Px.new w5 zV);have hl5:w.heap.size<w5.heap.size/\T<w5.heap.size:=⟨Nat.lt_of_lt_of_le U4.out.lt aK.size,Nat.lt_of_lt_of_le K4.out.lt aK.size⟩;clear ga wj hdr hen hy0 aK U4 G4 O4 K4 k0 k1 k2 k3;simp only [zV,nS,zH] at zG U5 K5 G5 X5
     go_wp2_with (refine ax rfl _ _ rfl w5.heap.size y zV rfl rfl X5.out ?_)
     intro w6 Af bE _;have U6:=hJ (U5.out.kept bE (fun e=>by have:=Option.some.inj e;omega));have K6:=hJ (K5.out.kept bE (fun e=>by have:=Option.some.inj e;omega));have P6:=hJ (zG.out.page X5.out bE);have G6:=hJ (af G5.out bE (by omega));have X6:=hJ Af;clear Af bE zG U5 K5 G5 X5;generalize w5.heap.size=B at *;have Ig:Hid ((bD zs).getD 0 0=3):=by show _=_;rw [NT.out];rfl
     by_cases he:e=0
     ·subst he
      have HD:Hid (gj zs p 0):=⟨fun h=>absurd rfl h,.inr (.inr ⟨HE.out,by rw [Ig.out];exact DR.out⟩)⟩;obtain ⟨k0,k1,k2,k3⟩:=eW.rT K6.out;have c0:=X6.out.cells.1;have f0:=X6.out.frozen 0;clear DR;go_upto_region 11 with fail
      have eU:w6.grownBy (w6.setCell ⟨B,0,none⟩ (.int .i64 3)) (some B):=ay w6 B 0 (.int .i64 3);have X7:=hJ (X6.out.mJ 3);have U7:=hJ (U6.out.kept eU (fun e=>by have:=Option.some.inj e;omega));have P7:=hJ (P6.out.page X6.out eU);have G7:=hJ (af G6.out eU (by omega));clear eU U6 K6 P6 G6 X6 k0 k1 k2 k3 c0 f0;have HZ:Hid (({ y with k:=3 }:Pv).k=3):=rfl;generalize (w6.setCell ⟨B,0,none⟩ (.int .i64 3))=w7 at *;obtain ⟨y',hy'⟩:∃ y':Pv,({ y with k:=3 }:Pv)=y':=⟨_,rfl⟩;rw [hy'] at X7 P7 EN HZ
      go_wp2_with (refine bP rfl _ rfl B y' rfl X7.out (ax rfl _ _ rfl w.heap.size y' zV rfl rfl U7.out ?_))
      intro w8 Tt bU _;have P8:=hJ (P7.out.page U7.out bU);have G8:=hJ (af G7.out bU (Nat.le_refl _));clear bU P7 G7 U7 X7;go_wp2;refine bodyPost_ret (aQ rfl _ _ w.heap.size y' rfl Tt) rfl ?_;exact ⟨⟨y',p,0,rfl,HD.out,P8.out,EN.out⟩,G8.out⟩
     ·have Oe:(e==0)=false:=by simp [he]
      have xw:(e != 0)=true:=by simp [he]
      have HD:Hid (gj zs zP e):=⟨fun _=>rfl,.inr (.inr ⟨HE.out,by
       rw [Ig.out];exact kX DR.out he⟩)⟩
      clear DR he
      go_wp2_with (refine ax rfl _ _ rfl w.heap.size zV zV rfl rfl U6.out ?_)
      intro w7 Tu cG _;have G7:=hJ (af G6.out cG (Nat.le_refl _));clear cG G6 U6;go_wp2;refine bodyPost_ret (aQ rfl _ _ w.heap.size zV rfl Tu) rfl ?_;exact ⟨⟨zV,zP,_,rfl,HD.out,jA _ _,jw⟩,G7.out⟩
    ·skip
     by_cases hk4:kn=4
     ·subst hk4
      have e1:kW (((4:Nat)):Int)=#[.int .i64 4,.func (.func 131) #[] #[],.func (.func 132) #[] #[],.func (.func 133) #[] #[]]:=rfl;have e2:iT (((4:Nat)):Int)=true:=rfl;rw [e1,e2];clear e1 e2;have ga:=World.grownBy_alloc w3 (.cells #[.int .i64 4,.func (.func 131) #[] #[],.func (.func 132) #[] #[],.func (.func 133) #[] #[]] 73) none;have U4:=hJ (Ad.out.ae ga);have G4:=hJ (gQ FE.out ga);have O4:=hJ (OY.out.ae ga);have K4:=hJ (eW.new w3 #[.int .i64 4,.func (.func 131) #[] #[],.func (.func 132) #[] #[],.func (.func 133) #[] #[]]);clear ga Ad FE OY;go_upto_region 5 with fail
      generalize w3.alloc (.cells #[.int .i64 4,.func (.func 131) #[] #[],.func (.func 132) #[] #[],.func (.func 133) #[] #[]] 73)=w4 at *;generalize w3.heap.size=T at *;obtain ⟨k0,k1,k2,k3⟩:=eW.rT K4.out
      go_wp2_with fail
      refine (OW _ 4092 4092 (bD zs) _ O4.out DA.out YC.out (HM.out.ae G4.out)).mono ?_;rintro en w5 ⟨⟨y,p,e,rfl,hy0,wj,hdr,hen⟩,aK⟩;have ga:=gP w5 zV;have zG:=hJ ((wj.ae ga).from G4.out.size);have DR:=hJ hdr;have EN:=hJ hen;have HY:=hJ hy0;have U5:=hJ ((U4.out.ae aK).ae ga);have K5:=hJ ((K4.out.ae aK).ae ga);have G5:=hJ (gQ (gQ G4.out aK) ga);have X5:=hJ (Px.new w5 zV);have hl5:w.heap.size<w5.heap.size/\T<w5.heap.size:=⟨Nat.lt_of_lt_of_le U4.out.lt aK.size,Nat.lt_of_lt_of_le K4.out.lt aK.size⟩;clear ga wj hdr hen hy0 aK U4 G4 O4 K4 k0 k1 k2 k3;simp only [zV,nS,zH] at zG U5 K5 G5 X5
      go_wp2_with (refine ax rfl _ _ rfl w5.heap.size y zV rfl rfl X5.out ?_)
      intro w6 Af bE _;have U6:=hJ (U5.out.kept bE (fun e=>by have:=Option.some.inj e;omega));have K6:=hJ (K5.out.kept bE (fun e=>by have:=Option.some.inj e;omega));have P6:=hJ (zG.out.page X5.out bE);have G6:=hJ (af G5.out bE (by omega));have X6:=hJ Af;clear Af bE zG U5 K5 G5 X5;generalize w5.heap.size=B at *;have Ig:Hid ((bD zs).getD 0 0=4):=by show _=_;rw [NT.out];rfl
      by_cases he:e=0
      ·subst he
       have HD:Hid (gj zs p 0):=⟨fun h=>absurd rfl h,.inr (.inr ⟨HE.out,by rw [Ig.out];exact DR.out⟩)⟩;obtain ⟨k0,k1,k2,k3⟩:=eW.rT K6.out;have c0:=X6.out.cells.1;have f0:=X6.out.frozen 0;clear DR;go_upto_region 11 with fail
       have eU:w6.grownBy (w6.setCell ⟨B,0,none⟩ (.int .i64 4)) (some B):=ay w6 B 0 (.int .i64 4);have X7:=hJ (X6.out.mJ 4);have U7:=hJ (U6.out.kept eU (fun e=>by have:=Option.some.inj e;omega));have P7:=hJ (P6.out.page X6.out eU);have G7:=hJ (af G6.out eU (by omega));clear eU U6 K6 P6 G6 X6 k0 k1 k2 k3 c0 f0;have HZ:Hid (({ y with k:=4 }:Pv).k=4):=rfl;generalize (w6.setCell ⟨B,0,none⟩ (.int .i64 4))=w7 at *;obtain ⟨y',hy'⟩:∃ y':Pv,({ y with k:=4 }:Pv)=y':=⟨_,rfl⟩;rw [hy'] at X7 P7 EN HZ
       go_wp2_with (refine bP rfl _ rfl B y' rfl X7.out (ax rfl _ _ rfl w.heap.size y' zV rfl rfl U7.out ?_))
       intro w8 Tt bU _;have P8:=hJ (P7.out.page U7.out bU);have G8:=hJ (af G7.out bU (Nat.le_refl _));clear bU P7 G7 U7 X7;go_wp2;refine bodyPost_ret (aQ rfl _ _ w.heap.size y' rfl Tt) rfl ?_;exact ⟨⟨y',p,0,rfl,HD.out,P8.out,EN.out⟩,G8.out⟩
      ·have Oe:(e==0)=false:=by simp [he]
       have xw:(e != 0)=true:=by simp [he]
       have HD:Hid (gj zs zP e):=⟨fun _=>rfl,.inr (.inr ⟨HE.out,by
        rw [Ig.out];exact kX DR.out he⟩)⟩
       clear DR he
       go_wp2_with (refine ax rfl _ _ rfl w.heap.size zV zV rfl rfl U6.out ?_)
       intro w7 Tu cG _;have G7:=hJ (af G6.out cG (Nat.le_refl _));clear cG G6 U6;go_wp2;refine bodyPost_ret (aQ rfl _ _ w.heap.size zV rfl Tu) rfl ?_;exact ⟨⟨zV,zP,_,rfl,HD.out,jA _ _,jw⟩,G7.out⟩
     ·skip
      by_cases VM:kn=5
      ·subst VM
       have e1:kW (((5:Nat)):Int)=#[.int .i64 5,.func (.func 134) #[] #[],.func (.func 135) #[] #[],.func (.func 136) #[] #[]]:=rfl;have e2:iT (((5:Nat)):Int)=true:=rfl;rw [e1,e2];clear e1 e2;have ga:=World.grownBy_alloc w3 (.cells #[.int .i64 5,.func (.func 134) #[] #[],.func (.func 135) #[] #[],.func (.func 136) #[] #[]] 73) none;have U4:=hJ (Ad.out.ae ga);have G4:=hJ (gQ FE.out ga);have O4:=hJ (OY.out.ae ga);have K4:=hJ (eW.new w3 #[.int .i64 5,.func (.func 134) #[] #[],.func (.func 135) #[] #[],.func (.func 136) #[] #[]]);clear ga Ad FE OY;go_upto_region 5 with fail
       generalize w3.alloc (.cells #[.int .i64 5,.func (.func 134) #[] #[],.func (.func 135) #[] #[],.func (.func 136) #[] #[]] 73)=w4 at *;generalize w3.heap.size=T at *;obtain ⟨k0,k1,k2,k3⟩:=eW.rT K4.out
       go_wp2_with fail
       refine (OX _ 4092 4092 (bD zs) _ O4.out DA.out YC.out (HM.out.ae G4.out)).mono ?_;rintro en w5 ⟨⟨y,p,e,rfl,hy0,wj,hdr,hen⟩,aK⟩;have ga:=gP w5 zV;have zG:=hJ ((wj.ae ga).from G4.out.size);have DR:=hJ hdr;have EN:=hJ hen;have HY:=hJ hy0;have U5:=hJ ((U4.out.ae aK).ae ga);have K5:=hJ ((K4.out.ae aK).ae ga);have G5:=hJ (gQ (gQ G4.out aK) ga);have X5:=hJ (Px.new w5 zV);have hl5:w.heap.size<w5.heap.size/\T<w5.heap.size:=⟨Nat.lt_of_lt_of_le U4.out.lt aK.size,Nat.lt_of_lt_of_le K4.out.lt aK.size⟩;clear ga wj hdr hen hy0 aK U4 G4 O4 K4 k0 k1 k2 k3;simp only [zV,nS,zH] at zG U5 K5 G5 X5
       go_wp2_with (refine ax rfl _ _ rfl w5.heap.size y zV rfl rfl X5.out ?_)
       intro w6 Af bE _;have U6:=hJ (U5.out.kept bE (fun e=>by have:=Option.some.inj e;omega));have K6:=hJ (K5.out.kept bE (fun e=>by have:=Option.some.inj e;omega));have P6:=hJ (zG.out.page X5.out bE);have G6:=hJ (af G5.out bE (by omega));have X6:=hJ Af;clear Af bE zG U5 K5 G5 X5;generalize w5.heap.size=B at *;have Ig:Hid ((bD zs).getD 0 0=5):=by show _=_;rw [NT.out];rfl
       by_cases he:e=0
       ·subst he
        have HD:Hid (gj zs p 0):=⟨fun h=>absurd rfl h,.inr (.inr ⟨HE.out,by rw [Ig.out];exact DR.out⟩)⟩;obtain ⟨k0,k1,k2,k3⟩:=eW.rT K6.out;have c0:=X6.out.cells.1;have f0:=X6.out.frozen 0;clear DR;go_upto_region 11 with fail
        have eU:w6.grownBy (w6.setCell ⟨B,0,none⟩ (.int .i64 5)) (some B):=ay w6 B 0 (.int .i64 5);have X7:=hJ (X6.out.mJ 5);have U7:=hJ (U6.out.kept eU (fun e=>by have:=Option.some.inj e;omega));have P7:=hJ (P6.out.page X6.out eU);have G7:=hJ (af G6.out eU (by omega));clear eU U6 K6 P6 G6 X6 k0 k1 k2 k3 c0 f0;have HZ:Hid (({ y with k:=5 }:Pv).k=5):=rfl;generalize (w6.setCell ⟨B,0,none⟩ (.int .i64 5))=w7 at *;obtain ⟨y',hy'⟩:∃ y':Pv,({ y with k:=5 }:Pv)=y':=⟨_,rfl⟩;rw [hy'] at X7 P7 EN HZ
        go_wp2_with (refine bP rfl _ rfl B y' rfl X7.out (ax rfl _ _ rfl w.heap.size y' zV rfl rfl U7.out ?_))
        intro w8 Tt bU _;have P8:=hJ (P7.out.page U7.out bU);have G8:=hJ (af G7.out bU (Nat.le_refl _));clear bU P7 G7 U7 X7;go_wp2;refine bodyPost_ret (aQ rfl _ _ w.heap.size y' rfl Tt) rfl ?_;exact ⟨⟨y',p,0,rfl,HD.out,P8.out,EN.out⟩,G8.out⟩
       ·have Oe:(e==0)=false:=by simp [he]
        have xw:(e != 0)=true:=by simp [he]
        have HD:Hid (gj zs zP e):=⟨fun _=>rfl,.inr (.inr ⟨HE.out,by
         rw [Ig.out];exact kX DR.out he⟩)⟩
        clear DR he
        go_wp2_with (refine ax rfl _ _ rfl w.heap.size zV zV rfl rfl U6.out ?_)
        intro w7 Tu cG _;have G7:=hJ (af G6.out cG (Nat.le_refl _));clear cG G6 U6;go_wp2;refine bodyPost_ret (aQ rfl _ _ w.heap.size zV rfl Tu) rfl ?_;exact ⟨⟨zV,zP,_,rfl,HD.out,jA _ _,jw⟩,G7.out⟩
      ·skip
       have e2:iT (kn:Int)=false:=by
        cases hh:iT (kn:Int) with
        | false=>rfl
        | true=>exact absurd (lN.1 hh) (by omega)
       have e1:kW (kn:Int)=#[.int .i64 0,.nilFunc,.nilFunc,.nilFunc]:=(sQ (fun j hj e=>by
        have e3:iT (kn:Int)=true:=by rw [e,lN];omega
        rw [e2] at e3;cases e3)).1
       have HD:Hid (gj zs zP 80):=⟨fun _=>rfl,.inr (.inl ⟨HE.out,by rw [NT.out];exact e2,rfl⟩)⟩;rw [e1,e2];clear e1 e2;have ga:=World.grownBy_alloc w3 (.cells #[.int .i64 0,.nilFunc,.nilFunc,.nilFunc] 73) none;have U4:=hJ (Ad.out.ae ga);have G4:=hJ (gQ FE.out ga);clear ga Ad FE OY
       go_wp2_with (refine ax rfl _ _ rfl w.heap.size zV zV rfl rfl U4.out ?_)
       intro w6 Af bE _;have G6:=hJ (af G4.out bE (Nat.le_refl _));clear bE G4 U4;go_wp2;refine bodyPost_ret (aQ rfl _ _ w.heap.size zV rfl Af) rfl ?_;exact ⟨⟨zV,zP,_,rfl,HD.out,jA _ _,jw⟩,G6.out⟩
 ·have Oe:(cZ zs==0)=false:=by simp [he]
  have xw:(cZ zs != 0)=true:=by simp [he]
  have HD:Hid (gj zs zP (cZ zs)):=⟨fun _=>rfl,.inl ⟨he,rfl⟩⟩;clear he;generalize cZ zs=e at *
  go_wp2_with (refine ax rfl _ _ rfl w.heap.size zV zV rfl rfl U2.out ?_)
  intro w3 hx3 hg3 hs3;have G3:=hJ (af G2.out hg3 (Nat.le_refl _));clear hg3 hs3;go_wp2;refine bodyPost_ret (aQ rfl _ _ w.heap.size zV rfl hx3) rfl ?_;exact ⟨⟨zV,zP,_,rfl,HD.out,jA _ _,jw⟩,G3.out⟩
theorem rj (ao:Option Addr)(n c:Nat)(zs:List Int)(w:World)(hb:ai w ao n c zs)(bp:Bt zs)(hc:n<=c)(ht:pA w)(hm:Mk w) :
  Calls Tryz.prog 10 #[.slice ao n c] w fun en w'=>Dd8 zs w en w':=by
 refine (ri ao n c zs w hb bp hc ht hm).mono ?_;rintro en w' ⟨⟨y,p,e,h1,h2,h3,h4⟩,hg⟩;exact ⟨⟨y,p,e,h1,h2,h3.pn,h4⟩,hg⟩
theorem FH:(Tryz.prog.info? 24).map (fun i=>(i.zero,i.size,i.bytes))=some (some (.slice none 0 0),1,24):=by kernel_rfl
theorem KT:(Tryz.prog.info? 69).map (fun i=>(i.zero,i.size,i.bytes))=some (some (.agg #[.int .i64 0,.int .i64 0]),2,16):=by kernel_rfl
theorem OZ (w:World)(a b:Value)(t:TypeId):∀ j u,[a,b][j]?=some u->(w.alloc (.cells #[a,b] t)).cell? ((⟨w.heap.size,0,none⟩:Addr).add j)=some u:=by
 intro j u hu;rw [Addr.add_lit,Nat.zero_add,cell_of_row _ w.heap.size j _ _ (0,0) (heap_alloc_new w _)];simpa using hu
theorem KU (B:Nat)(ps:Int)(hp:0<=ps/\ps<=1)(vb CH:Value)(r c base ag:Nat)(L M0:List au)(t:Nat)(Q:Nat->Prop)(HH:Nat)(I:World->Prop)(w:World)(h:Gs fL Q HH I w B ps vb CH r c base ag L M0 (cH t 0))(ht:t<=1000)(hM:if t=0 then M0=[] else M0.length=L.length)(Ah:r≠B)(hid:ag<=1000000)
  (hbd:∀ s∈L,s.n+t+1<=1099511627776)
  (rV:∀ w w' row,I w->w.grownBy w' row->(∀ i,row=some i->Q i)->I w') (pE:∀ w v,I w->I (w.setCell ⟨B,fL.q+2,none⟩ v)) (mV:∀ w s j v,s∈L->j<s.C->I w->I (w.setCell ⟨s.g,s.o+j,none⟩ v)) :
  Calls Tryz.prog 101 #[.pointer (some ⟨B,0,none⟩),.int .i64 ag,.int .i64 t] w fun en w'=>en=.returned (.int .i64 ((ag+L.length:Nat):Int))/\∃ vg M,M.length=L.length/\Gs fL Q HH I w' B ps vb vg r c base ag L M (cH t L.length):=by
 obtain ⟨i0,LA,hz0,hz1,hz2⟩:=info_parts FH;obtain ⟨i1,jN,Dm,EC,rG⟩:=info_parts KT;have iA:=h.bc.many;obtain ⟨vo,dZ,dh⟩:=h.bc.row.val;rw [List.length_map] at dZ dh;have jx:=hJ dh;have jP:=hJ rV;have HIS:=hJ mV;have jp:=hJ pE;have pB:=hJ hbd;have H0:=hJ h;have SP:=hJ hM;clear h dh rV pE mV hbd hM;subst dZ;go_enter Tryz.func101,Tryz.ntmps101;go_wp2;go_loopw [1,7] (fun oP si wr=>∃ i:Nat,i<=L.length/\si=.int .i64 i/\oP=.int .i64 ((ag+i:Nat):Int)/\∃ vg M,(if t=0 then M.length=i else M.length=L.length)/\Gs fL Q HH I wr B ps (.slice vo L.length c) vg r c base ag L M (cH t i)) (fun _ si _=>L.length - (intOf si).toNat)
 case atStart =>
  refine ⟨0,Nat.zero_le _,rfl,rfl,CH,M0,?_,H0.out⟩;have:=SP.out
  by_cases e:t=0
  ·rw [if_pos e] at this ⊢;rw [this];rfl
  ·rw [if_neg e] at this ⊢;exact this
 case round =>
  obtain ⟨i,hi,rfl,rfl,vg,M,Hu,hG⟩:=hrel;have HG:=hJ hG;have k2:wr.cell? ⟨B,23,none⟩=some (.slice vo L.length c):=hG.bc.lists;have pC:=hJ Hu;clear hG Hu H0
  by_cases hlt:i<L.length
  ·obtain ⟨s,hs⟩:∃ s,L[i]?=some s:=⟨L[i],List.getElem?_eq_getElem hlt⟩
   have HS:=hJ hs;obtain ⟨ao,eY,hao⟩:=(HG.out.bc.ok s (List.mem_of_getElem? hs)).1.val;obtain rfl:=jx.out (by omega)
   have cr:wr.cell? ⟨r,i,none⟩=some (.slice ao s.n s.c):=by
    rw [<- eY];exact HG.out.bc.row.cells i _ (by rw [List.getElem?_map,hs];rfl)
   have mM:=hJ eY;have p0:(0:Int)<=(i:Int):=by omega
   have p1:(i:Int)<(L.length:Int):=by omega
   clear hs hao eY
   go_upto_if 21 with fail
   go_cut [1,7] from 9 to 64 (fun s1 s7 wx=>s1=.int .i64 ((ag:Int)+(i:Int)+1)/\s7=.int .i64 (i:Int)/\∃ vg M,(if t=0 then M.length=i+1 else M.length=L.length)/\Gs fL Q HH I wx B ps (.slice (some ⟨r,0,none⟩) L.length c) vg r c base ag L M (cH t i))
   case first =>
    by_cases Dq:t=0
    ·subst Dq
     have rY:Hid (M.length=i):=by have:=pC.out;exact hJ (by simpa using this)
     have SQ:M.length<=1000000:=by have:=rY.out;omega
     have k4:wr.cell? ⟨B,25,none⟩=some vg:=HG.out.gl;have f4:wr.frozen? ⟨B,25,none⟩=false:=HG.out.gz
     have SR:∀ o:Obj,(wr.alloc o).cell? ⟨B,25,none⟩=some vg:=fun o=>by
      rw [World.cell?_alloc_lt _ _ _ (World.block_lt_of_cell? _ _ k4)];exact k4
     have SS:∀ o:Obj,(wr.alloc o).cell? ⟨B,23,none⟩=some (.slice (some ⟨r,0,none⟩) L.length c):=fun o=>by
      rw [World.cell?_alloc_lt _ _ _ (World.block_lt_of_cell? _ _ k2)];exact k2
     have SU:∀ o:Obj,(wr.alloc o).cell? ⟨r,i,none⟩=some (.slice ao s.n s.c):=fun o=>by
      rw [World.cell?_alloc_lt _ _ _ (World.block_lt_of_cell? _ _ cr)];exact cr
     have zA:Hid (∀ (w':World) (o:Obj),w'.heap=(wr.alloc o).heap->w'.ownsRow base 24 1 vg M.length (M.map au.v)):=fun w' o e=>by
      have:=HG.out.own.alloc o;unfold World.ownsRow at this ⊢;rw [e];exact this
     have gp:Hid (∀ (w':World) (t:TypeId),w'.heap=(wr.alloc (.cells #[.slice ao s.n s.c] t)).heap->∀ j u,[Value.slice ao s.n s.c][j]?=some u->w'.cell? ((⟨wr.heap.size,0,none⟩:Addr).add j)=some u):=fun w' t e j u hu=>by
      rw [World.cell?_of_block (w:=wr.alloc (.cells #[.slice ao s.n s.c] t)) (by rw [e])];exact cell_one_new wr _ t j u hu
     have wL:=HG.out.rB.2.2.1;have Fs:=hJ HG.out.Cy;have Ck:=hJ HG.out.rB;go_wp2
     go_region_law
      ((refine step_append_lies _ (by rfl) _ _ _ (by rfl) base 24 i0 (.slice none 0 0) 1 24 Tryz.underlying42 LA hz0 hz1 hz2 (by rfl) (by decide) vg M.length (M.map au.v) (by rfl) (by exact zA.out _ _ rfl) ⟨wr.heap.size,0,none⟩ 1 1 [.slice ao s.n s.c] (by rfl) (by rfl) (by exact gp.out _ _ rfl) (by intro u hu;simp at hu;subst hu;rfl) (by omega) (by unfold maxLen;omega) (by omega) (by simp;omega) (wr.heap.size+1) (by simp) ?_;intro g1 c1 w1 hown1 hg1 dI iZ;have nB:some B≠vg.ownBlock:=(fun e=>by have:=Fs.out B e.symm;have:=Ck.out;omega);have nr:some r≠vg.ownBlock:=(fun e=>by have:=Fs.out r e.symm;have:=Ck.out;omega);have SV:w1.cell? ⟨B,25,none⟩=some vg:=hg1.cell (SR _) nB;have Hv:w1.cell? ⟨B,23,none⟩=some (.slice (some ⟨r,0,none⟩) L.length c):=hg1.cell (SS _) nB;have Hw:w1.cell? ⟨r,i,none⟩=some (.slice ao s.n s.c):=hg1.cell (SU _) nr;have SX:∀ v,(w1.setCell ⟨B,25,none⟩ v).cell? ⟨B,23,none⟩=some (.slice (some ⟨r,0,none⟩) L.length c):=(fun v=>by rw [World.cell?_setCell_other _ _ _ _ (eG (by omega))];exact Hv);have SY:∀ v,(w1.setCell ⟨B,25,none⟩ v).cell? ⟨r,i,none⟩=some (.slice ao s.n s.c):=(fun v=>by rw [World.cell?_setCell_other _ _ _ _ (fun e=>Ah (by injection e with e1;exact e1.symm))];exact Hw);have je:=gQ ((((Qt.refl (wr.alloc (.cells #[.slice ao s.n s.c] 24))).drew)).grown _) hg1;have SZ:w1.frozen? ⟨B,25,none⟩=false:=((je.frozen_far ⟨B,25,none⟩ (by simpa using Nat.lt_succ_of_lt (World.block_lt_of_cell? _ _ k4)) nB).trans (((World.grownBy_alloc wr (.cells #[.slice ao s.n s.c] 24) none).frozen_far ⟨B,25,none⟩ (World.block_lt_of_cell? _ _ k4) (by simp)).trans f4))))
     all_goals
      have HE:Hid (Gs fL Q HH I (w1.setCell ⟨B,25,none⟩ (.slice (some ⟨g1,0,none⟩) (M.length+1) c1)) B ps (.slice (some ⟨r,0,none⟩) L.length c) (.slice (some ⟨g1,0,none⟩) (M.length+1) c1) r c base ag L (M++[s]) (cH 0 i)) :=
       HG.out.enter (.cells #[.slice ao s.n s.c] 24) (by rw [rY.out];exact HS.out) (by rw [rY.out];simp [cH]) jP.out jp.out (by decide) je (by rw [mM.out];exact hown1) (by
        rcases dI with h | h
        ·exact Or.inl h.symm
        ·exact Or.inr ⟨g1,rfl,by omega⟩) Ah
      clear SV Hv Hw SX SY SZ hg1 je hown1 dI iZ
      go_wp2_with fail
      go_meet
      case rel =>
       exact ⟨rfl,rfl,_,M++[s],by simp [rY.out],HE.out⟩
    ·have htb:((t:Int)==0)=false:=by simp;omega
     go_wp2_with fail
     go_meet
     case rel =>
      refine ⟨rfl,rfl,vg,M,?_,HG.out⟩;have:=pC.out;rw [if_neg Dq] at this ⊢;exact this
   case rest =>
    obtain ⟨rfl,rfl,uT,MM,gq,mR⟩:=hcut;have dP:=hJ mR;have Hy:=hJ gq
    have Hz:i<MM.length:=by
     by_cases e:t=0
     ·rw [if_pos e] at gq;omega
     ·rw [if_neg e] at gq;omega
    obtain ⟨rg,cg,mj,_,_⟩:=mR.own.form (by omega);subst mj;clear mR gq HG pC k2 cr;obtain ⟨m,hm⟩:∃ m,MM[i]?=some m:=⟨MM[i]'(by omega),List.getElem?_eq_getElem (by omega)⟩;have fD:=hJ hm;clear hm;have k4:wc.cell? ⟨B,25,none⟩=some (.slice (some ⟨rg,0,none⟩) MM.length cg):=dP.out.gl;have hmk:=dP.out.each i m fD.out;obtain ⟨am,zB,zX⟩:=hmk.1.val
    have cm:wc.cell? ⟨rg,i,none⟩=some (.slice am m.n m.c):=by
     rw [<- zB];have CA:=(List.getElem?_eq_some_iff.1 fD.out).1;exact (dP.out.own.cellAt i (by omega)).trans (by rw [List.getElem?_map,fD.out];rfl)
    have Ta:(i:Int)<(MM.length:Int):=by omega
    have fm:wc.frozen? ⟨rg,i,none⟩=false:=dP.out.own.frozenAt i
    have oU:m.n+1<=1099511627776:=by
     obtain ⟨s',hs',hn',_⟩:=hmk.2.2.2;have:=pB.out s' (List.mem_of_getElem? hs');rw [hn'];unfold cH;simp;omega
    have Tc:=hmk.1.le;have oV:Hid (m.N=m.n*2):=hmk.1.hN;have zC:=hJ zX;have Ia:=hJ zB;have qu:=hJ Hz;have Td:rg≠B:=by have:=dP.out.Cy rg rfl;have:=dP.out.rB;omega
    clear hmk zX zB Hz
    go_wp2_with fail
    obtain ⟨I1,PY⟩:∃ I1:Int,I1=((ag+i+1:Nat):Int):=⟨_,rfl⟩;obtain ⟨I2,Xn⟩:∃ I2:Int,I2=2*(m.n:Int)+ps:=⟨_,rfl⟩;refine (qs B ps (ag+i+1) m.n _ _ _ dP.out.bc.pass hp (by omega) (by omega) rfl).mono ?_;rintro en w4 ⟨rfl,hg4⟩;rw [<- PY,<- Xn]
    have Ie:Hid (∀ (x:Nat) (v:Value),[Value.int .i64 I1,.int .i64 I2][x]?=some v->v=fL.f ps (ag+i+1) (m.N+x)):=fun x v hx=>by
     have hN:=oV.out
     match x with
     | 0 =>
      have e:fL.f ps (ag+i+1) (m.N+0)=.int .i64 I1:=by rw [hN,PY];exact OI _ _ _
      rw [e];exact (Option.some.inj hx).symm
     | 1 =>
      have e:fL.f ps (ag+i+1) (m.N+1)=.int .i64 I2:=by rw [hN,Xn];exact OJ _ _ _
      rw [e];exact (Option.some.inj hx).symm
     | x+2=>simp at hx
    have ga:=World.grownBy_alloc w4 (.cells #[.int .i64 I1,.int .i64 I2] 69) none;have HY:=hJ (Dn.new w4 (.int .i64 I1) (.int .i64 I2));have FD:=hJ (gQ hg4 ga);have dP:=hJ (dP.out.more jP.out (gQ hg4 ga));clear hg4 ga PY Xn;go_upto_region 8 with fail
    generalize w4.alloc (.cells #[.int .i64 I1,.int .i64 I2] 69)=w5 at *;generalize w4.heap.size=U at *;have k4:=FD.out.cell k4 (by simp);have cm:=FD.out.cell cm (by simp);have fm:w5.frozen? ⟨rg,i,none⟩=false:=dP.out.own.frozenAt i;obtain ⟨y0,y1⟩:=HY.out.cells
    have ya:∀ (o:Obj) (x:Nat) (v:Value),w5.cell? ⟨U,x,none⟩=some v->(w5.alloc o).cell? ⟨U,x,none⟩=some v:=fun o x v hv=>by
     rw [World.cell?_alloc_lt _ _ _ (World.block_lt_of_cell? _ _ hv)];exact hv
    have ya0:=fun o=>ya o 0 _ y0
    have ya1:=fun o=>ya o 1 _ y1
    have g0:(0:Int)<=(i:Int):=by omega
    clear ya FD
    have sW:Hid (Gs fL Q HH I (w5.alloc (.cells #[.int .i64 I1,.int .i64 I2] 69)).drew B ps (.slice (some ⟨r,0,none⟩) L.length c) (.slice (some ⟨rg,0,none⟩) MM.length cg) r c base ag L MM (cH t i)) :=
     dP.out.more jP.out (gQ (World.grownBy_alloc _ _ none) ((Qt.refl _).drew.grown none))
    have Py:∀ o:Obj,(w5.alloc o).cell? ⟨B,25,none⟩=some (.slice (some ⟨rg,0,none⟩) MM.length cg):=fun o=>by
     rw [World.cell?_alloc_lt _ _ _ (World.block_lt_of_cell? _ _ k4)];exact k4
    have kbm:∀ o:Obj,(w5.alloc o).cell? ⟨rg,i,none⟩=some (.slice am m.n m.c):=fun o=>by
     rw [World.cell?_alloc_lt _ _ _ (World.block_lt_of_cell? _ _ cm)];exact cm
    have gp:Hid (∀ (w':World) (ty:TypeId),w'.heap=(w5.alloc (.cells #[.int .i64 I1,.int .i64 I2] ty)).heap->∀ j u,[Value.int .i64 I1,.int .i64 I2][j]?=some u->w'.cell? ((⟨w5.heap.size,0,none⟩:Addr).add j)=some u):=fun w' ty e j u hu=>by
     rw [World.cell?_of_block (w:=w5.alloc (.cells #[.int .i64 I1,.int .i64 I2] ty)) (by rw [e])];exact OZ w5 _ _ ty j u hu
    rcases Nat.lt_or_ge m.n m.c with hroom | hfull
    ·obtain rfl:=zC.out (by omega)
     have Jd:Hid (∀ (w':World),w'.heap=(w5.alloc (.cells #[.int .i64 I1,.int .i64 I2] 69)).heap->∀ j,j<[Value.int .i64 I1,.int .i64 I2].length->(w'.cell? ⟨m.g,m.o+m.n*2+j,none⟩).isSome=true/\w'.frozen? ⟨m.g,m.o+m.n*2+j,none⟩=false):=fun w' e j hj=>by
      have Dm:j<2:=by simpa using hj
      have hok:=(sW.out.each i m fD.out);have hr:=hok.1.room hroom;have hN:=oV.out;obtain ⟨⟨u,hu⟩,hf⟩:=hok.2.1 (m.N+j) (by unfold fL at hr;simp only at hr;omega);rw [show m.o+m.n*2+j=m.o+(m.N+j) by omega,World.cell?_of_block (w:=(w5.alloc (.cells #[.int .i64 I1,.int .i64 I2] 69)).drew) (by rw [e];rfl),World.frozen?_of_block (w:=(w5.alloc (.cells #[.int .i64 I1,.int .i64 I2] 69)).drew) (by rw [e];rfl)];rw [hu];exact ⟨rfl,hf⟩
     have PG:Hid (∀ X,X=(w5.alloc (.cells #[.int .i64 I1,.int .i64 I2] 69)).drew.setCells m.g (m.o+m.n*2) [.int .i64 I1,.int .i64 I2]->Gs fL Q HH I X B ps (.slice (some ⟨r,0,none⟩) L.length c) (.slice (some ⟨rg,0,none⟩) MM.length cg) r c base ag L MM (cH t i)/\Kf fL Q X (.slice (some ⟨rg,0,none⟩) MM.length cg) base ag L MM (cH t i) ps i ⟨.slice (some ⟨m.g,m.o,none⟩) (m.n+1) m.c,m.g,m.o,m.n+1,m.c,m.N+fL.W,m.C⟩):=fun X hX=>by
      rw [hX];exact sW.out.room fD.out hroom oU [Value.int .i64 I1,.int .i64 I2] rfl Ie.out _ (by rw [oV.out]) jP.out HIS.out
     have zD:Hid (∀ X,Gs fL Q HH I X B ps (.slice (some ⟨r,0,none⟩) L.length c) (.slice (some ⟨rg,0,none⟩) MM.length cg) r c base ag L MM (cH t i)->X.cell? ⟨rg,i,none⟩=some (.slice (some ⟨m.g,m.o,none⟩) m.n m.c)):=fun X hX=>by
      rw [<- Ia.out];exact (hX.own.cellAt i (by have:=qu.out;omega)).trans (by rw [List.getElem?_map,fD.out];rfl)
     go_region_law
      ((refine bS (by rfl) _ _ _ (by rfl) 69 i1 2 Tryz.underlying24 jN EC m.g m.o m.n m.c (by rfl) ⟨w5.heap.size,0,none⟩ 1 1 [.int .i64 I1,.int .i64 I2] (by rfl) (by rfl) (by exact gp.out _ _ rfl) (by intro u hu;simp at hu;rcases hu with rfl | rfl <;> rfl) (by omega) (by exact Jd.out _ rfl) ?_;intro X hX;have fy:=PG.out X hX;have Te:X.cell? ⟨B,25,none⟩=some (.slice (some ⟨rg,0,none⟩) MM.length cg):=fy.1.gl;have Tf:=zD.out X fy.1;have Tg:X.frozen? ⟨rg,i,none⟩=false:=fy.1.own.frozenAt i;have oW:=hJ fy;clear fy hX))
     all_goals
      have HP:=hJ (oW.out.1.put oW.out.2 qu.out jP.out);rw [dY] at HP;go_wp2;go_roundw
      case rel =>
       refine ⟨i+1,by omega,by go_num,by go_num,_,_,?_,HP.out⟩;have h3:=Hy.out;rw [List.length_set];exact h3
      case measure=>simp [intOf];omega
    ·have HOLD:Hid (∀ (w':World),w'.heap=(w5.alloc (.cells #[.int .i64 I1,.int .i64 I2] 69)).heap->∀ b,am=some b->∀ j u,((List.range m.N).map fun j=>fL.f ps (ag+i+1) j)[j]?=some u->w'.cell? (b.add j)=some u):=fun w' e b hb j u hu=>by
      have hj:j<m.N:=by have:=(List.getElem?_eq_some_iff.1 hu).1;simpa using this
      have hN:=oV.out;have hb':=zC.out (by omega);rw [hb] at hb';have hb2:=Option.some.inj hb';subst hb2;rw [List.getElem?_map,List.getElem?_range hj] at hu;have Th:=Option.some.inj hu;rw [Addr.add_lit,World.cell?_of_block (w:=(w5.alloc (.cells #[.int .i64 I1,.int .i64 I2] 69)).drew) (by rw [e];rfl),<- Th];exact sW.out.mm i m fD.out j hj
     have vK:Hid (am=none->m.n=0/\m.c=0):=fun e=>by
      rcases Nat.eq_zero_or_pos m.c with h0 | h0
      ·omega
      ·have:=zC.out h0;rw [e] at this;cases this
     obtain ⟨OL,sX⟩:∃ OL,OL=(List.range m.N).map fun j=>fL.f ps (ag+i+1) j:=⟨_,rfl⟩
     have zE:OL.length=m.n*2:=by rw [sX];simpa using oV.out
     have oX:Hid (∀ gX cX X H,(w5.alloc (.cells #[.int .i64 I1,.int .i64 I2] 69)).drew.grownBy X none->(w5.alloc (.cells #[.int .i64 I1,.int .i64 I2] 69)).drew.heap.size<=H->X.ownsRow H 69 2 (.slice (some ⟨gX,0,none⟩) (m.n+1) cX) (m.n+1) (OL++[.int .i64 I1,.int .i64 I2])->Gs fL Q HH I X B ps (.slice (some ⟨r,0,none⟩) L.length c) (.slice (some ⟨rg,0,none⟩) MM.length cg) r c base ag L MM (cH t i)/\Kf fL Q X (.slice (some ⟨rg,0,none⟩) MM.length cg) base ag L MM (cH t i) ps i ⟨.slice (some ⟨gX,0,none⟩) (m.n+1) cX,gX,0,m.n+1,cX,m.N+fL.W,cX*fL.W⟩):=fun gX cX X H h1 h2 h3=>by
      rw [sX] at h3;exact sW.out.full fD.out [Value.int .i64 I1,.int .i64 I2] rfl Ie.out jP.out h1 h2 oU h3
     rw [<- sX] at HOLD;clear sX
     have zD:Hid (∀ X,Gs fL Q HH I X B ps (.slice (some ⟨r,0,none⟩) L.length c) (.slice (some ⟨rg,0,none⟩) MM.length cg) r c base ag L MM (cH t i)->X.cell? ⟨rg,i,none⟩=some (.slice am m.n m.c)):=fun X hX=>by
      rw [<- Ia.out];exact (hX.own.cellAt i (by have:=qu.out;omega)).trans (by rw [List.getElem?_map,fD.out];rfl)
     go_region_law
      ((refine step_append_grows (by rfl) _ _ _ (by rfl) 69 i1 (.agg #[.int .i64 0,.int .i64 0]) 2 16 Tryz.underlying24 jN Dm EC rG (by rfl) (by decide) am m.n m.c OL (by rfl) vK.out zE (by exact HOLD.out _ rfl) ⟨w5.heap.size,0,none⟩ 1 1 [.int .i64 I1,.int .i64 I2] (by rfl) (by rfl) (by exact gp.out _ _ rfl) (by intro u hu;simp at hu;rcases hu with rfl | rfl <;> rfl) (by omega) (by unfold maxLen;omega) (by omega) ?_;intro v' X eR Fv;obtain ⟨gX,cX,Tj,_,_⟩:=eR.form (by omega);subst Tj;have fy:=oX.out gX cX X _ Fv (by exact Nat.le_refl _) eR;have Te:X.cell? ⟨B,25,none⟩=some (.slice (some ⟨rg,0,none⟩) MM.length cg):=fy.1.gl;have Tf:=zD.out X fy.1;have Tg:X.frozen? ⟨rg,i,none⟩=false:=fy.1.own.frozenAt i;have oW:=hJ fy;clear fy eR Fv))
     all_goals
      have HP:=hJ (oW.out.1.put oW.out.2 qu.out jP.out);rw [dY] at HP;go_wp2;go_roundw
      case rel =>
       refine ⟨i+1,by omega,by go_num,by go_num,_,_,?_,HP.out⟩;have h3:=Hy.out;rw [List.length_set];exact h3
      case measure=>simp [intOf];omega
  ·have hin:i=L.length:=by omega
   subst hin;go_wp2;go_ret;refine ⟨rfl,vg,M,?_,HG.out⟩;have:=pC.out
   by_cases e:t=0
   ·rwa [if_pos e] at this
   ·rwa [if_neg e] at this
end Go.Proofs.YtgldkdbkaachkaaGreatDoor
