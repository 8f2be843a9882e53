import Derived.Test.YtgldkdbkaachkaaGreatDoorK32
set_option maxRecDepth 100000
set_option maxHeartbeats 8000000
namespace Go.Proofs.YtgldkdbkaachkaaGreatDoor
open Go.RowKit
theorem FW (y x:Pv)(p:Pg)(base:Nat)(b:Yw)(w:World)(hl:GY w base y p b)(hx:Pm w x p):Calls Tryz.prog 17 #[.agg #[.int .i64 y.k,.slice y.i.a y.i.n y.i.c,.int .i64 y.l,.slice y.s.a y.s.n y.s.c,.slice y.d.a y.d.n y.d.c,.int .i64 y.x,.slice y.b.a y.b.n y.b.c,.slice y.t.a y.t.n y.t.c,.int .i64 y.h.v,.int .i64 y.h.c,.int .i64 y.h.r,.int .i64 y.h.h,.int .i64 y.h.k,.int .i64 y.h.f,.int .i64 y.h.n],.agg #[.int .i64 x.k,.slice x.i.a x.i.n x.i.c,.int .i64 x.l,.slice x.s.a x.s.n x.s.c,.slice x.d.a x.d.n x.d.c,.int .i64 x.x,.slice x.b.a x.b.n x.b.c,.slice x.t.a x.t.n x.t.c,.int .i64 x.h.v,.int .i64 x.h.c,.int .i64 x.h.r,.int .i64 x.h.h,.int .i64 x.h.k,.int .i64 x.h.f,.int .i64 x.h.n]] w fun en w'=>en=.returned (.bool true)/\w.grownBy w' none:=by
 have HL:=hJ hl;have HX:=hJ hx;clear hl hx;go_enter Tryz.func17,Tryz.ntmps17;go_upto_region 1 with fail
 have Y1:=hJ ((Px.new w y).ae (gP _ x));have X1:Hid (Px ((w.alloc (.cells #[.int .i64 y.k,.slice y.i.a y.i.n y.i.c,.int .i64 y.l,.slice y.s.a y.s.n y.s.c,.slice y.d.a y.d.n y.d.c,.int .i64 y.x,.slice y.b.a y.b.n y.b.c,.slice y.t.a y.t.n y.t.c,.int .i64 y.h.v,.int .i64 y.h.c,.int .i64 y.h.r,.int .i64 y.h.h,.int .i64 y.h.k,.int .i64 y.h.f,.int .i64 y.h.n] 30)).alloc (.cells #[.int .i64 x.k,.slice x.i.a x.i.n x.i.c,.int .i64 x.l,.slice x.s.a x.s.n x.s.c,.slice x.d.a x.d.n x.d.c,.int .i64 x.x,.slice x.b.a x.b.n x.b.c,.slice x.t.a x.t.n x.t.c,.int .i64 x.h.v,.int .i64 x.h.c,.int .i64 x.h.r,.int .i64 x.h.h,.int .i64 x.h.k,.int .i64 x.h.f,.int .i64 x.h.n] 30)) (w.heap.size+1) x):=heap_alloc2_new w _ _;have G1:=hJ (aN w (.cells #[.int .i64 y.k,.slice y.i.a y.i.n y.i.c,.int .i64 y.l,.slice y.s.a y.s.n y.s.c,.slice y.d.a y.d.n y.d.c,.int .i64 y.x,.slice y.b.a y.b.n y.b.c,.slice y.t.a y.t.n y.t.c,.int .i64 y.h.v,.int .i64 y.h.c,.int .i64 y.h.r,.int .i64 y.h.h,.int .i64 y.h.k,.int .i64 y.h.f,.int .i64 y.h.n] 30) (.cells #[.int .i64 x.k,.slice x.i.a x.i.n x.i.c,.int .i64 x.l,.slice x.s.a x.s.n x.s.c,.slice x.d.a x.d.n x.d.c,.int .i64 x.x,.slice x.b.a x.b.n x.b.c,.slice x.t.a x.t.n x.t.c,.int .i64 x.h.v,.int .i64 x.h.c,.int .i64 x.h.r,.int .i64 x.h.h,.int .i64 x.h.k,.int .i64 x.h.f,.int .i64 x.h.n] 30));generalize (w.alloc (.cells #[.int .i64 y.k,.slice y.i.a y.i.n y.i.c,.int .i64 y.l,.slice y.s.a y.s.n y.s.c,.slice y.d.a y.d.n y.d.c,.int .i64 y.x,.slice y.b.a y.b.n y.b.c,.slice y.t.a y.t.n y.t.c,.int .i64 y.h.v,.int .i64 y.h.c,.int .i64 y.h.r,.int .i64 y.h.h,.int .i64 y.h.k,.int .i64 y.h.f,.int .i64 y.h.n] 30)).alloc (.cells #[.int .i64 x.k,.slice x.i.a x.i.n x.i.c,.int .i64 x.l,.slice x.s.a x.s.n x.s.c,.slice x.d.a x.d.n x.d.c,.int .i64 x.x,.slice x.b.a x.b.n x.b.c,.slice x.t.a x.t.n x.t.c,.int .i64 x.h.v,.int .i64 x.h.c,.int .i64 x.h.r,.int .i64 x.h.h,.int .i64 x.h.k,.int .i64 x.h.f,.int .i64 x.h.n] 30)=w1 at *;obtain ⟨c0,c1,c2,c3,c4,c5,c6,c7,c8,c9,c10,c11,c12,c13,c14⟩:=X1.out.cells;obtain ⟨d0,d1,d2,d3,d4,d5,d6,d7,d8,d9,d10,d11,d12,d13,d14⟩:=Y1.out.cells
 go_wp2_with fail
 refine (gm y x p p _ ((HL.out.ae G1.out).pm.1) (HX.out.ae G1.out)).mono ?_;rintro en w2 ⟨⟨b2,rfl,hb2⟩,hg2⟩;obtain rfl:b2=true:=hb2.2 rfl;have G2:=hJ (gQ G1.out hg2);have Y2:=hJ (Y1.out.ae hg2);have L2:=hJ (HL.out.ae G2.out);clear hb2 hg2 X1 Y1 G1 c0 c1 c2 c3 c4 c5 c6 c7 c8 c9 c10 c11 c12 c13 c14 d0 d1 d2 d3 d4 d5 d6 d7 d8 d9 d10 d11 d12 d13 d14;obtain ⟨d0,d1,d2,d3,d4,d5,d6,d7,d8,d9,d10,d11,d12,d13,d14⟩:=Y2.out.cells;clear d0 d2 d5 d8 d9 d10 d11 d12 d13 d14;rw [L2.out.yi] at d1;rw [L2.out.ys] at d3;rw [L2.out.yd] at d4;rw [L2.out.yb] at d6;rw [L2.out.yt] at d7;simp only at d1 d3 d4 d6 d7;have q1:=bM L2.out.it.own;have q2:=bM L2.out.sp.own;have q3:=bM L2.out.kd;have q4:=bM L2.out.li;have e1:=L2.out.it.Oq;have e2:=L2.out.sp.Oq
 have e3:w2.cell? ⟨b.K,p.kids.length*2,none⟩=some (.int .i64 201):=by
  rw [L2.out.kd.cellAt _ (by omega),List.getElem?_append_right (by rw [uh];exact Nat.le_refl _),uh,Nat.sub_self];rfl
 have e4:w2.cell? ⟨b.T,p.list.length,none⟩=some (.int .i64 201):=by
  rw [L2.out.li.cellAt _ (by omega),List.getElem?_map,List.getElem?_append_right (Nat.le_refl _),Nat.sub_self];rfl
 have e5:=L2.out.sp.ho.cell (j:=0) (by simp);have e5':w2.cell? ⟨b.h,0,none⟩=some (.int .u8 201):=e5;clear e5;obtain ⟨ni,Yv⟩:∃ n,p.items.length=n:=⟨_,rfl⟩;obtain ⟨ns,hns⟩:∃ n,p.aj.length=n:=⟨_,rfl⟩;obtain ⟨nk,hnk⟩:∃ n,p.kids.length=n:=⟨_,rfl⟩;obtain ⟨nl,Wf⟩:∃ n,p.list.length=n:=⟨_,rfl⟩;rw [Yv] at d1 q1 e1;rw [hns] at d3 q2 e2;rw [hnk] at d4 q3 e3;rw [Wf] at d7 q4 e4;have HNI:=hJ Yv;have HNS:=hJ hns;clear Yv hns hnk Wf;have g1:(ni:Int)+1<=(b.c:Int):=by omega
 have g2:(ns:Int)+1<=(b.d:Int):=by omega
 have g3:(nk:Int)+1<=(b.e:Int):=by omega
 have g4:(nl:Int)+1<=(b.t:Int):=by omega
 have h1:(ni:Int)<(ni:Int)+1:=by omega
 have h2:(ns:Int)<(ns:Int)+1:=by omega
 have h3:(nk:Int)<(nk:Int)+1:=by omega
 have h4:(nl:Int)<(nl:Int)+1:=by omega
 go_upto_region 2 with fail
 go_cut [5] from 15 to 62 (fun s wx=>s=.bool true/\wx=w2.drew)
 case first =>
  go_region
  all_goals
   go_wp2_with fail
   go_meet
   case rel=>exact ⟨rfl,rfl⟩
 case rest =>
  obtain ⟨rfl,rfl⟩:=hcut;have gd:=(Qt.refl w2).drew.grown none;have L3:=hJ (L2.out.ae gd);have Y3:=hJ (Y2.out.ae gd);have G3:=hJ (gQ G2.out gd);have d1':w2.drew.cell? ⟨w.heap.size,1,none⟩=_:=gd.cell d1 (by simp);have d3':w2.drew.cell? ⟨w.heap.size,3,none⟩=_:=gd.cell d3 (by simp);have d6':w2.drew.cell? ⟨w.heap.size,6,none⟩=_:=gd.cell d6 (by simp);have Ql:w2.drew.cell? ⟨b.B,ns,none⟩=_:=gd.cell e2 (by simp);have ab0:w2.drew.cell? ⟨b.h,0,none⟩=_:=gd.cell e5' (by simp);clear d1 d3 d4 d6 d7 e1 e2 e3 e4 e5' gd L2 Y2 G2;generalize w2.drew=w3 at *;go_wp2;go_loopw [5,6,7,8] (fun so si _ _ wr=>∃ i:Nat,i<=ni/\si=.int .i64 i/\so=.bool true/\wr=w3) (fun _ si _ _ _=>ni - (intOf si).toNat)
  case atStart=>exact ⟨0,Nat.zero_le _,rfl,rfl,rfl⟩
  case round =>
   obtain ⟨i,hi,rfl,rfl,hwr⟩:=hrel;obtain rfl:w3=wr:=hwr.symm
   by_cases hlt:i<ni
   ·have QR:i<p.items.length:=by rw [HNI.out];exact hlt
    obtain ⟨a1,a2,_,_⟩:=L3.out.it.cells i QR;obtain ⟨o1,o2⟩:=L3.out.it.ko i QR;have O1:=hJ o1;have O2:=hJ o2;have t1:(i:Int)<(ni:Int):=by omega
    have t0:(0:Int)<=(i:Int):=by omega
    clear o1 o2 QR;generalize hk:(p.items.getD i aG).key=key at *;generalize hv:(p.items.getD i aG).val=val at *;clear hk hv
    go_wp2_with fail
    refine (lQ _ key.length _ key _ O1.out rfl).mono ?_;rintro en w4 ⟨rfl,hw4⟩;obtain rfl:w3=w4:=hw4.symm
    go_wp2_with fail
    refine (lQ _ val.length _ val _ O2.out rfl).mono ?_;rintro en w4 ⟨rfl,hw4⟩;obtain rfl:w3=w4:=hw4.symm;go_wp2;go_roundw
    case rel=>exact ⟨i+1,by omega,by go_num,rfl,by trivial⟩
    case measure=>simp [intOf];omega
   ·obtain rfl:i=ni:=by omega
    have t1:¬ (i:Int)<(i:Int):=by omega
    go_wp2;go_loopw [5,9] (fun so si wr=>∃ j:Nat,j<=ns/\si=.int .i64 j/\so=.bool true/\wr=w3) (fun _ si _=>ns - (intOf si).toNat)
    case atStart=>exact ⟨0,Nat.zero_le _,rfl,rfl,rfl⟩
    case round =>
     obtain ⟨j,hj,rfl,rfl,hwr⟩:=hrel;obtain rfl:w3=wr:=hwr.symm
     by_cases BF:j<ns
     ·have rG:j<p.aj.length:=by rw [HNS.out];exact BF
      have a1:=L3.out.sp.cell j rG;have O1:=hJ (L3.out.sp.ko j rG);have t2:(j:Int)<(ns:Int):=by omega
      have t0:(0:Int)<=(j:Int):=by omega
      clear rG;generalize p.aj.getD j []=key at *
      go_wp2_with fail
      refine (lQ _ key.length _ key _ O1.out rfl).mono ?_;rintro en w4 ⟨rfl,hw4⟩;obtain rfl:w3=w4:=hw4.symm;go_wp2;go_roundw
      case rel=>exact ⟨j+1,by omega,by go_num,rfl,by trivial⟩
      case measure=>simp [intOf];omega
     ·obtain rfl:j=ns:=by omega
      have t2:¬ (j:Int)<(j:Int):=by omega
      go_upto_region 13 with fail
      go_cut [10] from 107 to 118 (fun s wx=>s=.slice (some ⟨b.h,0,none⟩) 1 1/\wx=w3.drew)
      case first =>
       go_region
       all_goals
        go_wp2_with fail
        go_meet
        case rel=>exact ⟨rfl,rfl⟩
      case rest =>
       obtain ⟨rfl,rfl⟩:=hcut;have gd:=(Qt.refl w3).drew.grown none;have amU:w3.drew.cell? ⟨w.heap.size,6,none⟩=_:=gd.cell d6' (by simp);have e6:w3.drew.cell? ⟨b.h,0,none⟩=_:=gd.cell ab0 (by simp);have OD:=hJ (L3.out.da.ae gd);have G4:=hJ (gQ G3.out gd);clear gd d1' d3' d6' Ql ab0;generalize w3.drew=w5 at *
       go_wp2_with fail
       refine (lQ _ p.data.length _ p.data _ OD.out rfl).mono ?_;rintro en w6 ⟨rfl,PC⟩;obtain rfl:w5=w6:=PC.symm;go_wp2;go_ret;exact ⟨rfl,G4.out⟩
end Go.Proofs.YtgldkdbkaachkaaGreatDoor
