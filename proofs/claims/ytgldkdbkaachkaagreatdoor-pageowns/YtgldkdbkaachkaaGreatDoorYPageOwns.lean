import Derived.Test.YtgldkdbkaachkaaGreatDoorK39
import Derived.Test.YtgldkdbkaachkaaGreatDoorK33
import Derived.Test.YtgldkdbkaachkaaGreatDoorK40
import Derived.Test.YtgldkdbkaachkaaGreatDoorK32
import Derived.Test.YtgldkdbkaachkaaGreatDoorK19
import Derived.Test.YtgldkdbkaachkaaGreatDoorK41
import Derived.LaidMore
import Derived.Stop.Joined
import Derived.SevenTiedAt
import Derived.WalkKit
import Derived.ProofKit
import Derived.OpenShut
import Derived.ShutString
import Derived.ChangeOld
import Derived.Below
import Derived.SizedLaws
import Derived.Deep.Slices
import Derived.Test.YtgldkdbkaachkaaGreatDoorRows
import Derived.Test.YtgldkdbkaachkaaGreatDoorCards
import Derived.Test.YtgldkdbkaachkaaGreatDoorTie
set_option maxRecDepth 100000
set_option maxHeartbeats 8000000
namespace Go.Proofs.YtgldkdbkaachkaaGreatDoor
open Go.RowKit
theorem Pw {p:Pg}{zs:List Int}{e:Int}(h:uM p zs e)(hi:Ib p.items)(hs:Lb p.aj)(hd:Bt p.data):Bt zs:=by
 rcases h with ⟨_,_,h⟩ | ⟨_,_,_,h⟩ | ⟨_,_,b,f,h1,⟨_,_,h⟩ | ⟨_,_,h2⟩⟩
 ·rw [h];exact Bt.nil
 ·rw [h];exact Bt.nil
 ·rw [h];exact Bt.nil
 ·rw [h2];exact iY (h1.bt hi hs hd)
theorem wM (x:Pv)(p:Pg)(w:World)(hp:Pm w x p)(ht:pA w)(hm:Mk w)(Xs:Tz w):Calls Tryz.prog 3 #[.agg #[.int .i64 x.k,.slice x.i.a x.i.n x.i.c,.int .i64 x.l,.slice x.s.a x.s.n x.s.c,.slice x.d.a x.d.n x.d.c,.int .i64 x.x,.slice x.b.a x.b.n x.b.c,.slice x.t.a x.t.n x.t.c,.int .i64 x.h.v,.int .i64 x.h.c,.int .i64 x.h.r,.int .i64 x.h.h,.int .i64 x.h.k,.int .i64 x.h.f,.int .i64 x.h.n]] w fun en w'=>en=.returned (.bool true)/\w.grownBy w' none:=by
 have HP:=hJ hp;have HT:=hJ ht;have HM:=hJ hm;have HTZ:=hJ Xs;have jp:=hJ hp.ib;have HSB:=hJ hp.sb;have HDB:=hJ hp.db;clear hp ht hm Xs;go_enter Tryz.func3,Tryz.ntmps3;go_upto_region 1 with fail
 have X1:=hJ (Px.new w x);have G1:=hJ (gP w x);generalize w.alloc (.cells #[.int .i64 x.k,.slice x.i.a x.i.n x.i.c,.int .i64 x.l,.slice x.s.a x.s.n x.s.c,.slice x.d.a x.d.n x.d.c,.int .i64 x.x,.slice x.b.a x.b.n x.b.c,.slice x.t.a x.t.n x.t.c,.int .i64 x.h.v,.int .i64 x.h.c,.int .i64 x.h.r,.int .i64 x.h.h,.int .i64 x.h.k,.int .i64 x.h.f,.int .i64 x.h.n] 30)=w1 at *;obtain ⟨BX,hBX⟩:∃ BX,w.heap.size=BX:=⟨_,rfl⟩;rw [hBX] at X1 ⊢
 go_wp2_with fail
 refine (Gf _ (HT.out.ae G1.out) (HM.out.ae G1.out)).mono ?_;rintro en w2 ⟨rfl,hg2⟩;have X2:=hJ (X1.out.ae hg2);have G2:=hJ (gQ G1.out hg2);clear hg2 X1 G1;obtain ⟨c0,c1,c2,c3,c4,c5,c6,c7,c8,c9,c10,c11,c12,c13,c14⟩:=X2.out.cells
 go_wp2_with fail
 refine (Kk x p _ (HP.out.ae G2.out)).mono ?_;rintro en w3 ⟨⟨b3,rfl,hb3⟩,hg3⟩;have X3:=hJ (X2.out.ae hg3);have G3:=hJ (gQ G2.out hg3);clear hg3 X2 G2 c0 c1 c2 c3 c4 c5 c6 c7 c8 c9 c10 c11 c12 c13 c14;cases b3 with
 | false =>
  clear hb3;go_wp2;go_ret;exact ⟨rfl,G3.out⟩
 | true =>
  have FP:=hJ (hb3 rfl)
  as_aux_lemma =>
   clear hb3;obtain ⟨c0,c1,c2,c3,c4,c5,c6,c7,c8,c9,c10,c11,c12,c13,c14⟩:=X3.out.cells
   by_cases h1:100<x.i.n
   ·have yE:(100:Int)<(x.i.n:Int):=by omega
    go_wp2;go_ret;exact ⟨rfl,G3.out⟩
   have yE:¬ (100:Int)<(x.i.n:Int):=by omega
   by_cases h2:100<x.s.n
   ·have uA:(100:Int)<(x.s.n:Int):=by omega
    go_wp2;go_ret;exact ⟨rfl,G3.out⟩
   have uA:¬ (100:Int)<(x.s.n:Int):=by omega
   by_cases h3:1021<x.t.n
   ·have qD:(1021:Int)<(x.t.n:Int):=by omega
    go_wp2;go_ret;exact ⟨rfl,G3.out⟩
   have qD:¬ (1021:Int)<(x.t.n:Int):=by omega
   go_wp2_with fail
   refine (uR x p _ (HP.out.ae G3.out) FP.out).mono ?_;rintro en w4 ⟨⟨ao4,n4,m4,zs,e4,rfl,Vn,hb4,hn4,hm4⟩,hg4⟩;have PE:=hJ Vn;have B4:=hJ hb4;have X4:=hJ (X3.out.ae hg4);have G4:=hJ (gQ G3.out hg4);clear Vn hb4 hg4 X3 G3 c0 c1 c2 c3 c4 c5 c6 c7 c8 c9 c10 c11 c12 c13 c14 h1 h2 h3 yE uA qD
   as_aux_lemma =>
    by_cases he:e4=0
    ·subst he
     have PD:=hJ PE.out.back.1;have TR:Hid (zs.length=4096):=PD.out.len;have HZB:Hid (Bt zs):=Pw PE.out jp.out HSB.out HDB.out;have hn:n4=4096:=by have:=B4.out.len;have:=TR.out;omega
     as_aux_lemma =>
      subst hn;have K5:=hJ (Sn w4);have ga:=World.grownBy_alloc w4 (.cells ql 49 (0,0)) none;have G5:=hJ (gQ G4.out ga);have B5:=hJ (B4.out.ae ga);have X5:=hJ (X4.out.ae ga);have hB0:=G4.out.size;have hXB:=X4.out.lt;have Dh:Hid (∀ ad,ao4=some ad->ad.block<w4.heap.size):=fun ad e=>Oz B4.out e (by omega)
      clear ga hn4;obtain ⟨c0,c1,c2,c3,c4,c5,c6,c7,c8,c9,c10,c11,c12,c13,c14⟩:=X5.out.cells
      go_wp2_with (refine mY rfl rfl ?_)
      obtain ⟨w5,Bd⟩:∃ w5,w4.alloc (.cells ql 49 (0,0))=w5:=⟨_,rfl⟩;rw [Bd] at K5 G5 B5 X5 c0 c1 c2 c3 c4 c5 c6 c7 c8 c9 c10 c11 c12 c13 c14 ⊢;obtain ⟨B,hB⟩:∃ B,w4.heap.size=B:=⟨_,rfl⟩;have hs5:w5.heap.size=B+1:=by rw [<- Bd,<- hB];simp
      rw [hB] at K5 hB0 hXB Dh ⊢;clear Bd hB G4 B4 X4;refine (Ll x p _ (HP.out.ae G5.out) FP.out).mono ?_;rintro en w6 ⟨⟨y,bk,rfl,hlt⟩,bE⟩;have ga:=gP w6 y;have L7:=hJ (hlt.ae ga);have X7:=hJ ((X5.out.ae bE).ae ga);have B7:=hJ ((B5.out.ae bE).ae ga);have K7:=hJ ((K5.out.kept bE (by simp)).kept ga (by simp));have Z7:=hJ (Px.new w6 y);have G7:=hJ (gQ (gQ G5.out bE) ga);have zZ:=bE.size;clear hlt bE ga X5 B5 K5 G5 c0 c1 c2 c3 c4 c5 c6 c7 c8 c9 c10 c11 c12 c13 c14;go_upto_region 9 with fail
      have Ab:w6.heap.size<(w6.alloc (.cells #[.int .i64 y.k,.slice y.i.a y.i.n y.i.c,.int .i64 y.l,.slice y.s.a y.s.n y.s.c,.slice y.d.a y.d.n y.d.c,.int .i64 y.x,.slice y.b.a y.b.n y.b.c,.slice y.t.a y.t.n y.t.c,.int .i64 y.h.v,.int .i64 y.h.c,.int .i64 y.h.r,.int .i64 y.h.h,.int .i64 y.h.k,.int .i64 y.h.f,.int .i64 y.h.n] 30)).heap.size:=by simp
      generalize w6.alloc (.cells #[.int .i64 y.k,.slice y.i.a y.i.n y.i.c,.int .i64 y.l,.slice y.s.a y.s.n y.s.c,.slice y.d.a y.d.n y.d.c,.int .i64 y.x,.slice y.b.a y.b.n y.b.c,.slice y.t.a y.t.n y.t.c,.int .i64 y.h.v,.int .i64 y.h.c,.int .i64 y.h.r,.int .i64 y.h.h,.int .i64 y.h.k,.int .i64 y.h.f,.int .i64 y.h.n] 30)=w7 at *;generalize w6.heap.size=T at *;obtain ⟨base,hbase⟩:∃ base,w7.heap.size=base:=⟨_,rfl⟩;have UG:Hid (Cd w w7 B base):=⟨⟨hB0,by omega⟩,hbase⟩;have HC0:Hid (Cb w w7 B base w7 uX (fun _=>[]) w7.heap.size):=⟨⟨_,Sp qw K7.out (by omega) (by omega)⟩,G7.out,(Qt.refl _).grown (some B),fun i t ht=>by simp at ht,fun _ _ _ _ _ _=>rfl⟩;have hBl:B<w5.heap.size:=by omega
      clear K7 hbase G7
      as_aux_lemma =>
       go_wp2;go_loopw [8,9,10,11,12,13,14,15] (fun si _ _ _ _ _ _ _ wr=>∃ i:Nat,i<=2/\si=.int .i64 i/\∃ (cs:Nat->Value) (L:Nat->List au),Cb w w7 B base wr cs L wr.heap.size/\∀ j,(L j).length<=20000*i) (fun si _ _ _ _ _ _ _ _=>2 - (intOf si).toNat)
       case atStart=>exact ⟨0,by omega,rfl,uX,fun _=>[],HC0.out,fun j=>by simp⟩
       case round =>
        obtain ⟨i,QR,rfl,cs,L,hC,hL⟩:=hrel;have HC:=hJ hC;have Be:=hJ hL;clear hC hL HC0
        as_aux_lemma =>
         by_cases hlt:i<2
         ·have YG:=hJ (L7.out.Vi HC.out.gl hBl)
          have Yx:=hJ (B7.out.kept HC.out.gl (fun ad e _ e2=>by have:=Dh.out ad e;have:=Option.some.inj e2;omega));have HX:=hJ (X7.out.kept HC.out.gl (fun e=>by have:=Option.some.inj e;omega));have HZ:=hJ (Z7.out.kept HC.out.gl (fun e=>by have:=Option.some.inj e;omega));obtain ⟨d0,d1,d2,d3,d4,d5,d6,d7,d8,d9,d10,d11,d12,d13,d14⟩:=HZ.out.cells
          go_wp2_with fail
          refine (ld y p _ YG.out.pm.1 (YG.out.en FP.out) (HT.out.ae HC.out.g) (HM.out.ae HC.out.g)).mono ?_;rintro en w9 ⟨⟨ao9,n9,zs9,e9,rfl,ab3,Dz,_,_,nR⟩,qQ⟩;obtain ⟨rfl,rfl⟩:=PE.out.qf ab3;have hn9:n9=4096:=by have:=Dz.len;have:=TR.out;omega
          subst hn9;obtain ⟨G,rfl,hG,hrw⟩:=nR (by omega);have C9:=hJ (HC.out.n qQ);have R9:=hJ hrw;have F9:=hJ (HC.out.new hG);have Bb9:=hJ (Yx.out.ae qQ);have X9:=hJ (HX.out.ae qQ);have xZ:=qQ.size;have hHG:=hG;clear ab3 Dz nR hrw qQ HC YG Yx HX HZ d0 d1 d2 d3 d4 d5 d6 d7 d8 d9 d10 d11 d12 d13 d14
          as_aux_lemma =>
           go_wp2_with fail
           refine (bq ao4 4096 m4 zs _ Bb9.out (by omega)).mono ?_;rintro en fI ⟨rfl,rP,aW,Ef⟩;obtain ⟨KE,ab4⟩:=C9.out.uW aW w9.heap.size (Nat.le_refl _) Ef;have h41:Hid ((dr cs 41 (.slice (some ⟨w9.heap.size,0,none⟩) 0 0) 41).ownBlock=some w9.heap.size):=by show _=_;rw [fw];rfl
           have YH:=hJ ab4;have F10:=hJ (KE.block G R9.out.lt F9.out).2;have IW:=hJ (R9.out.ae aW);have ab5:=hJ (Bb9.out.ae aW);have X10:=hJ (X9.out.ae aW);have RM:=hJ (Rw.aP rP);have hGD:=R9.out.lt;generalize dr cs 41 (.slice (some ⟨w9.heap.size,0,none⟩) 0 0)=ab6 at *;generalize w9.heap.size=D at *;clear rP aW KE ab4 C9 F9 R9 Bb9 X9
           as_aux_lemma =>
            go_wp2_with fail
            refine (ri (some ⟨D,0,none⟩) 4096 4096 zs _ (RM.out.all 4096 4096 TR.out.symm) HZB.out (Nat.le_refl _) (HT.out.ae YH.out.g) (HM.out.ae YH.out.g)).mono ?_;rintro en BN ⟨⟨z,q,e,rfl,OV,Dk,_⟩,gY⟩;obtain ⟨rfl,rfl⟩:=PD.out.qf OV;obtain ⟨D',E',F',hd⟩:=Dk.pd;have ga:=gP BN z;have LN:=hJ ((hd.wait Dk.pn.pm (fun d h=>YH.out.new h)).cE (pF.of (B:=B) ga).toKee);have ab7:=hJ (Dk.pn.pm.ae ga);have HPF:Hid (Pf8 z p):=⟨Dk.pn.pm.ib,Dk.pn.pm.il,Dk.pn.pm.sb,Dk.pn.pm.sl,Dk.pn.pm.kl,Dk.pn.pm.data.len,Dk.pn.pm.tl,FP.out⟩;have Nu:=gY.size;have V12:Hid (Px (BN.alloc (.cells #[.int .i64 z.k,.slice z.i.a z.i.n z.i.c,.int .i64 z.l,.slice z.s.a z.s.n z.s.c,.slice z.d.a z.d.n z.d.c,.int .i64 z.x,.slice z.b.a z.b.n z.b.c,.slice z.t.a z.t.n z.t.c,.int .i64 z.h.v,.int .i64 z.h.c,.int .i64 z.h.r,.int .i64 z.h.h,.int .i64 z.h.k,.int .i64 z.h.f,.int .i64 z.h.n] 30)) BN.heap.size z/\ja base ab6 BN.heap.size):=⟨Px.new BN z,YH.out.new Nu⟩;have C12:=hJ ((YH.out.n gY).n ga);have Jr:=hJ ((IW.out.ae gY).ae ga);have ab8:=hJ ((ab5.out.ae gY).ae ga);have Vo:=hJ ((X10.out.ae gY).ae ga);have UZ:=hJ ((RM.out.ae gY).ae ga);clear OV Dk hd ga gY YH IW ab5 X10 RM
            as_aux_lemma =>
             go_upto_region 15 with fail
             generalize BN.alloc (.cells #[.int .i64 z.k,.slice z.i.a z.i.n z.i.c,.int .i64 z.l,.slice z.s.a z.s.n z.s.c,.slice z.d.a z.d.n z.d.c,.int .i64 z.x,.slice z.b.a z.b.n z.b.c,.slice z.t.a z.t.n z.t.c,.int .i64 z.h.v,.int .i64 z.h.c,.int .i64 z.h.r,.int .i64 z.h.h,.int .i64 z.h.k,.int .i64 z.h.f,.int .i64 z.h.n] 30)=QU at *;generalize BN.heap.size=V at *
             go_wp2_with fail
             refine (cw (some ⟨G,0,none⟩) ao4 4096 4096 4096 m4 zs zs _ (Jr.out.all 4096 4096 TR.out.symm) ab8.out rfl).mono ?_;rintro en JA ⟨rfl,ab9⟩;obtain rfl:QU=JA:=ab9.symm;obtain ⟨c0,c1,c2,c3,c4,c5,c6,c7,c8,c9,c10,c11,c12,c13,c14⟩:=Vo.out.cells;obtain ⟨d0,d1,d2,d3,d4,d5,d6,d7,d8,d9,d10,d11,d12,d13,d14⟩:=V12.out.1.cells
             go_wp2_with fail
             refine (gm z x p p _ ab7.out (HP.out.ae C12.out.g)).mono ?_;rintro en Nv ⟨⟨Pj,rfl,acd⟩,iH⟩;obtain rfl:Pj=true:=acd.2 rfl;have C14:=hJ (C12.out.n iH);have R14:=hJ (Jr.out.ae iH);have D14:=hJ (UZ.out.ae iH);have W14:=hJ (LN.out.cE (pF.of (B:=B) iH).toKee);have YI:Hid (Px Nv V z/\ja base ab6 V):=⟨V12.out.1.ae iH,V12.out.2⟩;clear acd iH C12 Jr UZ LN V12 ab8 Vo ab7 ab9 c0 c1 c2 c3 c4 c5 c6 c7 c8 c9 c10 c11 c12 c13 c14 d0 d1 d2 d3 d4 d5 d6 d7 d8 d9 d10 d11 d12 d13 d14
             as_aux_lemma =>
              go_wp2_with fail
              refine (jf _ _).mono ?_;rintro en Wj ⟨rfl,XK⟩;obtain rfl:Nv=Wj:=XK.symm
              go_wp2_with fail
              refine (jf _ _).mono ?_;rintro en Wj ⟨rfl,XK⟩;obtain rfl:Nv=Wj:=XK.symm
              go_wp2_with fail
              refine (Xu UG.out C14.out R14.out F10.out hHG TR.out (by have:=Be.out 0;omega)).mono ?_;rintro en Wl ⟨rfl,ace,s16,Ny,Lv⟩;have UE:=hJ Ny;have W16:=hJ (W14.out.cE Lv.toKee);have V16:Hid (Px Wl V z/\ja base ace V):=⟨(Lv.block V YI.out.1.lt YI.out.2).1.trans YI.out.1,(Lv.block V YI.out.1.lt YI.out.2).2⟩;have XL:Hid ((ace 41).ownBlock=some D):=by show _=_;rw [Lv.Si.1];exact h41.out
              have D16:Hid (Rw Wl D zs):=(Lv.Si.2 D h41.out D14.out.lt).trans D14.out
              have XM:Hid (∀ j,(bI L 0 [s16] j).length<=20000*i+1):=fun j=>by
               have:=Be.out j;unfold bI
               split
               ·rename_i e;subst e;rw [List.length_append];simp only [List.length_cons,List.length_nil];omega
               ·omega
              generalize bI L 0 [s16]=L16 at *;clear Ny Lv C14 R14 D14 W14 YI F10 h41
              as_aux_lemma =>
               obtain ⟨d0,d1,d2,d3,d4,d5,d6,d7,d8,d9,d10,d11,d12,d13,d14⟩:=V16.out.1.cells
               go_wp2_with fail
               refine (Xw UG.out UE.out W16.out HPF.out (by omega) (fun j=>by have:=XM.out j;omega)).mono ?_;rintro en YK ⟨rfl,TS,L17,Nz,XN,acf⟩;have Wm:=hJ Nz;have agK:Hid ((TS 41).ownBlock=some D):=by show _=_;rw [XN.Si.1];exact XL.out
               have D17:Hid (Rw YK D zs):=(XN.Si.2 D XL.out D16.out.lt).trans D16.out;have agL:Hid (∀ j,(L17 j).length<=20000*(i+1)):=fun j=>by have:=acf j;have:=XM.out j;omega
               clear Nz XN acf UE W16 V16 D16 XL XM d0 d1 d2 d3 d4 d5 d6 d7 d8 d9 d10 d11 d12 d13 d14;have S0:Hid (Cb w w7 B base YK TS L17 YK.heap.size/\∃ cur,YK.heap[D]?=some (.cells cur 5 (0,0))/\cur.size=4096):=⟨Wm.out,_,D17.out,by simp [TR.out]⟩;clear Wm D17
               as_aux_lemma =>
                go_wp2;go_loopw [15] (fun sj wx=>∃ j:Nat,j<=4096/\sj=.int .i64 j/\Cb w w7 B base wx TS L17 YK.heap.size/\wx.heap.size=YK.heap.size/\∃ cur,wx.heap[D]?=some (.cells cur 5 (0,0))/\cur.size=4096) (fun sj _=>4096 - (intOf sj).toNat)
                case atStart=>exact ⟨0,by omega,rfl,S0.out.1,rfl,S0.out.2⟩
                case round =>
                 obtain ⟨j,hj,rfl,hcj,hsj,cur,hcu,hcs⟩:=hrel;have CJ:=hJ hcj;have HCU:=hJ hcu;clear hcj S0
                 by_cases xJ:j<4096
                 ·have cj:wr.cell? ⟨D,j,none⟩=some (cur[j]'(by omega)):=(cell_of_row wr D j _ _ _ hcu).trans (Array.getElem?_eq_getElem (by omega))
                  have fj:wr.frozen? ⟨D,j,none⟩=false:=frozen_of_row wr D j _ _ hcu;clear hcu;have CN:=hJ (CJ.out.off UG.out agK.out (aA wr D j (.int .u8 238)));have Eg:Hid ((wr.setCell ⟨D,j,none⟩ (.int .u8 238)).heap[D]?=some (.cells (cur.setIfInBounds j (.int .u8 238)) 5 (0,0))):=heap_setCell_same wr D j cur _ _ HCU.out;go_wp2;go_roundw
                  case rel=>exact ⟨j+1,by omega,by go_num,CN.out,by simpa using hsj,_,Eg.out,by simpa using hcs⟩
                  case measure=>simp [intOf];omega
                 ·have agM:j=4096:=by omega
                  subst agM;clear hcu;go_wp2;go_roundw
                  case rel=>exact ⟨i+1,by omega,by go_num,TS,L17,by rw [hsj];exact CJ.out,agL.out⟩
                  case measure=>simp [intOf];omega
         ·obtain ⟨ys,hk⟩:=HC.out.k
          have Jt:=hJ hk;have HG:=hJ HC.out.g;have HGL:=hJ HC.out.gl;have vK:=hJ HC.out.no;clear hk HC
          as_aux_lemma =>
           go_wp2_with fail
           refine (Db Jt.out (fun j _ h1 h2 h3 h4 h5=>vK.out j h1 h2 h3 h4 h5) (by have a:=Be.out 0;have b:=Be.out 1;have c:=Be.out 3;have d:=Be.out 6;have e:=Be.out 7;omega) HG.out UG.out.b.1 HGL.out (Nat.le_of_eq UG.out.l) HTZ.out).mono ?_;rintro en w40 ⟨rfl,ach,Ip⟩;have XO:=hJ ach;have YG:=hJ (L7.out.Vi Ip hBl);have HX:=hJ (X7.out.kept Ip (fun e=>by have:=Option.some.inj e;omega));have HZ:=hJ (Z7.out.kept Ip (fun e=>by have:=Option.some.inj e;omega));clear ach Ip Jt HG HGL;obtain ⟨c0,c1,c2,c3,c4,c5,c6,c7,c8,c9,c10,c11,c12,c13,c14⟩:=HX.out.cells;obtain ⟨d0,d1,d2,d3,d4,d5,d6,d7,d8,d9,d10,d11,d12,d13,d14⟩:=HZ.out.cells
           go_wp2_with fail
           refine (FW y x p _ bk _ YG.out (HP.out.ae XO.out)).mono ?_;rintro en w41 ⟨rfl,aci⟩;have agN:=hJ (gQ XO.out aci);clear aci XO YG HX HZ c0 c1 c2 c3 c4 c5 c6 c7 c8 c9 c10 c11 c12 c13 c14 d0 d1 d2 d3 d4 d5 d6 d7 d8 d9 d10 d11 d12 d13 d14;go_wp2;go_ret;exact ⟨rfl,agN.out⟩
    ·have he':(e4 != 0)=true:=by simp [he]
     have xw:(e4==0)=false:=by simp [he]
     go_wp2;go_ret;exact ⟨rfl,G4.out⟩
end Go.Proofs.YtgldkdbkaachkaaGreatDoor
namespace Go.Proofs.YtgldkdbkaachkaaGreatDoor.pageOwns
open Go.ChangeShapes Go.WideShapes Go.ChangeAt Go.WideMaps Go.WideElems Go.RowKit Go.Deep
open Go.ChangeMaps (open_string shut_string)
theorem own:ownKnob Tryz.prog.godebug=none:=by kernel_rfl
theorem laidOut:laidOutB Tryz.prog=true:=by kernel_rfl
theorem acj:Tryz.prog.bytesOf 5=1:=by kernel_rfl
theorem YL:Tryz.prog.bytesOf 3=8:=by kernel_rfl
set_option linter.unusedVariables false
theorem lifted (os:Os)(started:os.Started)(H:Type)(enc:TypeId × Value->H) :
  ReturnsInHanded {} Tryz.checked os 3 .any (fun w args=>(Rows.pageOwnsSpec.pre enc Tryz.prog Tryz.f3 [] false w args/\laidMetH Tryz.prog [("math/bits.deBruijn32tab",Rows.laid_math_bits_deBruijn32tab),("math/bits.deBruijn64tab",Rows.laid_math_bits_deBruijn64tab),("internal/strconv.uint64pow10",Rows.laid_internal_strconv_uint64pow10),("coppice/crc.fourSteps",Rows.laid_coppice_crc_fourSteps),("coppice/meta.frontMark",Rows.laid_coppice_meta_frontMark),("coppice/meta.endMark",Rows.laid_coppice_meta_endMark)] w)/\sizedMet enc Tryz.prog Tryz.f3 (OpenSpec.ofChange Rows.pageOwnsSpec) false w args) (Rows.pageOwnsSpec.post enc Tryz.prog Tryz.f3 false true false false):=by
 refine returnsInHanded_of_change_and (C:=Tryz.checked) (X:=fun w _=>laidMetH Tryz.prog [("math/bits.deBruijn32tab",Rows.laid_math_bits_deBruijn32tab),("math/bits.deBruijn64tab",Rows.laid_math_bits_deBruijn64tab),("internal/strconv.uint64pow10",Rows.laid_internal_strconv_uint64pow10),("coppice/crc.fourSteps",Rows.laid_coppice_crc_fourSteps),("coppice/meta.frontMark",Rows.laid_coppice_meta_frontMark),("coppice/meta.endMark",Rows.laid_coppice_meta_endMark)] w) (fun _ _ _ hh h=>h.of_heap hh) own started (by kernel_rfl) Tryz.func3
  (ChangeSpec.witness_shaped (enc:=enc) (C:=Tryz.checked) (os:=os) (X:=fun w _=>laidMetH Tryz.prog [("math/bits.deBruijn32tab",Rows.laid_math_bits_deBruijn32tab),("math/bits.deBruijn64tab",Rows.laid_math_bits_deBruijn64tab),("internal/strconv.uint64pow10",Rows.laid_internal_strconv_uint64pow10),("coppice/crc.fourSteps",Rows.laid_coppice_crc_fourSteps),("coppice/meta.frontMark",Rows.laid_coppice_meta_frontMark),("coppice/meta.endMark",Rows.laid_coppice_meta_endMark)] w) false (World.doorLaid Tryz.prog 400 os) #[.agg #[.int .i64 0,.slice none 0 0,.int .i64 0,.slice none 0 0,.slice none 0 0,.int .i64 0,.slice none 0 0,.slice none 0 0,.int .i64 0,.int .i64 0,.int .i64 0,.int .i64 0,.int .i64 0,.int .i64 0,.int .i64 0]] 8 rfl (World.shaped_of_RefB (by kernel_rfl) (by kernel_rfl)) (by kernel_rfl) (by kernel_rfl) (by kernel_rfl) (Lp os _)) ?_
 intro W base args ds gs before Vp hW _ _ hL _;have hval:∀ (j:Nat) t v,Tryz.f3.params[j]?=some t->args[j]?=some v->Value.okWide Tryz.prog W .any base t v:=Vp;have hW':=hW;obtain ⟨p,q,xa,hV,rfl,hfz,hnd⟩:=hW;have hA:DataW.TrodAll enc Tryz.prog W 0 (fun _=>true) true Tryz.f3.params.toList args.toList ds p:=xa;rw [Tryz.params3] at hA hval;obtain ⟨v0,vs0,d0,ds0,p0,q0,hargs,rfl,rfl,h0,r0⟩:=trodAll_cons hA;obtain ⟨rfl,rfl,rfl⟩:=trodAll_nil r0;obtain rfl:args=#[v0]:=by cases args;simp_all
 obtain ⟨rfl,rfl⟩:=trodVars_none hV;obtain ⟨x0,p0q,rfl,m0,r0q⟩:=Lu (hval 0 30 v0 rfl rfl) h0;have k0:=h0;have lt0:∀ x∈p0,x.block<W.heap.size:=by obtain ⟨m,hm⟩:=k0;exact DataW.trod_lt m _ _ _ hm
 clear xa Vp;refine (wM x0 p0q W m0 (vC hL).1 (vC hL).2.1 (vC hL).2.2).mono fun e W' ⟨he,hg⟩=>?_
 subst he;have bel:=Nl hg;exact ⟨_,rfl,_,_,_,[],_,[],hW',trodAll_mk1 (shut_bool Tryz.underlying4 _),(trodAll_cons_mk (Below.trod laidOut (by kernel_rfl) (of_decide_eq_true (by kernel_rfl)) k0 bel lt0) trodAll_mk0),rfl,bel.frame _,fun h=>by cases h⟩
theorem over:Rows.pageOwnsRow.holds Tryz.pinned (OpenSpec.ofChange Rows.pageOwnsSpec) :=
 OpenClaim.holds_of_wide 3 Tryz.f3 rfl rfl rfl rfl rfl rfl rfl ⟨rfl,rfl,rfl,rfl,rfl⟩ rfl rfl rfl rfl rfl (by kernel_rfl) Tryz.func3 (by kernel_rfl)
  (of_decide_eq_true (by kernel_rfl)) (by unfold Func.isWrapper;first | (rw [if_pos (by decide +kernel)];kernel_rfl) | (rw [if_neg (by decide +kernel)];exact ⟨rfl,rfl⟩))
  (fun os started H enc _=>lifted os started H enc)
end Go.Proofs.YtgldkdbkaachkaaGreatDoor.pageOwns
namespace Go.Proofs.YtgldkdbkaachkaaGreatDoor
open Go
theorem pageOwns_card:Rows.PageOwnsCardSaid :=
 Claim7.holds_tied_plain_at .later [] [.data,.data,.data,.data,.data,.data] true (true,"5427b8651e7289e8747ab82bc4bf3cf899f51655d7e394bbf4653455f793758f") false
  pageOwns.over (fun _ h=>by cases h) (by kernel_rfl) (fun _ h=>by cases h) pageOwns_row_tie rfl ⟨rfl,rfl⟩ (by kernel_rfl) rfl
  (fun f fn hf hfn=>by
   obtain rfl:f=3:=Option.some.inj ((show Tryz.prog.funcNamed "coppice/coppicelaw8.PageOwns"=some 3 by kernel_rfl).symm.trans hf) |>.symm;obtain rfl:fn=Tryz.f3:=(Option.some.inj (Tryz.func3.symm.trans hfn)).symm
   exact ⟨by kernel_rfl,fun j t ht=>by
    rw [Tryz.params3] at ht;have hm:t∈[30]:=by simpa using Array.mem_of_getElem? ht
    have hall:([30].all fun u=>!Tryz.prog.wantsStandIn u)=true:=by kernel_rfl
    exact (show Tryz.prog.wantsStandIn t=false by simpa using List.all_eq_true.1 hall t hm)⟩)
  (by kernel_rfl)
#print axioms pageOwns_card
end Go.Proofs.YtgldkdbkaachkaaGreatDoor
