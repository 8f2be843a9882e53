import Derived.Test.YtgldkdbkaachkaaGreatDoorK32
set_option maxRecDepth 100000
set_option maxHeartbeats 8000000
namespace Go.Proofs.YtgldkdbkaachkaaGreatDoor
open Go.RowKit
theorem XJ:(jH.drop 4092).take 4=[173,110,120,245]:=by
 have h:jH=body [sY]++[173,110,120,245]:=by unfold jH;rw [zU,List.append_assoc]
 rw [h,List.drop_left' Xz]
 rfl
theorem agD:Bt jH:=by
 have h:jH=body [sY]++fe 4118310573:=by unfold jH;rw [zU,Vj,List.append_assoc]
 rw [h];exact (GF vz).app (fun z hz=>Al _ z hz)
theorem Pu {w w':World}{I T:Nat}{x:It}{y:Pv}(h:Il w (some ⟨I,0,none⟩) [x])(hx:Px w T y)(hg:w.grownBy w' (some T))(hne:I≠T):Il w' (some ⟨I,0,none⟩) [x]:=by
 refine ⟨fun i hi=>?_⟩;obtain ⟨b,off,ao,n,c,bo,m,d,e,q1,q2,q3,q4,q5,q6,q7,q8,q9⟩:=h.row i hi;injection e with e
 injection e with e1 e2 _
 subst e1 e2;have ne:some I≠some T:=fun e=>hne (Option.some.inj e)
 exact ⟨I,0,ao,n,c,bo,m,d,rfl,hg.cell q1 ne,hg.cell q2 ne,hg.cell q3 ne,hg.cell q4 ne,q5.page hx hg,q6,q7,q8.page hx hg,q9⟩
theorem Gf (w:World)(ht:pA w)(hm:Mk w):Calls Tryz.prog 4 #[] w fun en w'=>en=.returned (.bool true)/\w.grownBy w' none:=by
 obtain ⟨i0,hi,hz0,hz1,hz2⟩:=info_parts bF;have HT:=hJ ht;have HM:=hJ hm;clear ht hm;have v1:=fun (W:World) (C:Array Value) (n c:Nat)=>GK W C n c _ rfl
 have v2:=fun (W:World) (o:Obj) (C:Array Value) (n c:Nat)=>GK (W.alloc o) C n c (W.heap.size+1) (size_alloc W o).symm
 go_enter Tryz.func4,Tryz.ntmps4;go_upto_region 2 with fail
 have HIL:=hJ (Il.agl ((w.alloc (.cells #[.int .u8 107] 5 (1,2))).alloc (.cells #[.int .u8 118,.int .u8 118] 5 (2,3))) sY (some ⟨w.heap.size,0,none⟩) (some ⟨w.heap.size+1,0,none⟩) 1 1 2 2 (w.heap.size+2) (by rw [size_alloc,size_alloc])
  ((ai.QN w 5 #[.int .u8 107] (1,2) [107] 1 _ rfl rfl rfl).on _) (ai.QN _ 5 #[.int .u8 118,.int .u8 118] (2,3) [118,118] 2 _ rfl rfl (size_alloc w _).symm) ⟨by omega,by omega⟩ ⟨by omega,by omega⟩ 2 0 rfl rfl)
 have qG:=hJ (gQ (gQ (World.grownBy_alloc w (.cells #[.int .u8 107] 5 (1,2)) none) (World.grownBy_alloc _ (.cells #[.int .u8 118,.int .u8 118] 5 (2,3)) none)) (World.grownBy_alloc _ (.cells #[.slice (some ⟨w.heap.size,0,none⟩) 1 1,.slice (some ⟨w.heap.size+1,0,none⟩) 2 2,.int .i64 2,.int .i64 0] 63) none));have hs0:(((w.alloc (.cells #[.int .u8 107] 5 (1,2))).alloc (.cells #[.int .u8 118,.int .u8 118] 5 (2,3))).alloc (.cells #[.slice (some ⟨w.heap.size,0,none⟩) 1 1,.slice (some ⟨w.heap.size+1,0,none⟩) 2 2,.int .i64 2,.int .i64 0] 63)).heap.size=w.heap.size+3:=by rw [size_alloc,size_alloc,size_alloc]
 generalize ((w.alloc (.cells #[.int .u8 107] 5 (1,2))).alloc (.cells #[.int .u8 118,.int .u8 118] 5 (2,3))).alloc (.cells #[.slice (some ⟨w.heap.size,0,none⟩) 1 1,.slice (some ⟨w.heap.size+1,0,none⟩) 2 2,.int .i64 2,.int .i64 0] 63)=w0 at *;clear v1 v2;have hI3:w.heap.size+1+1+1=w0.heap.size:=by omega
 rw [hI3];have ab1:Hid (Il w0 (some ⟨w.heap.size+1+1,0,none⟩) [sY]):=HIL.out;clear HIL hI3;have hIT:w.heap.size+1+1<w0.heap.size:=by omega
 generalize w.heap.size+1+1=I at *;have ga:=World.grownBy_alloc w0 (.cells #[.int .i64 1,.slice (some ⟨I,0,none⟩) 1 1,.int .i64 0,.slice none 0 0,.slice none 0 0,.int .i64 0,.slice none 0 0,.slice none 0 0,.int .i64 0,.int .i64 0,.int .i64 0,.int .i64 0,.int .i64 0,.int .i64 0,.int .i64 0] 30) none;have X1:Hid (Px (w0.alloc (.cells #[.int .i64 1,.slice (some ⟨I,0,none⟩) 1 1,.int .i64 0,.slice none 0 0,.slice none 0 0,.int .i64 0,.slice none 0 0,.slice none 0 0,.int .i64 0,.int .i64 0,.int .i64 0,.int .i64 0,.int .i64 0,.int .i64 0,.int .i64 0] 30)) w0.heap.size ⟨1,⟨some ⟨I,0,none⟩,1,1⟩,0,nS,nS,0,nS,nS,zH⟩):=Px.new w0 ⟨1,⟨some ⟨I,0,none⟩,1,1⟩,0,nS,nS,0,nS,nS,zH⟩;have P1:Hid (Pm (w0.alloc (.cells #[.int .i64 1,.slice (some ⟨I,0,none⟩) 1 1,.int .i64 0,.slice none 0 0,.slice none 0 0,.int .i64 0,.slice none 0 0,.slice none 0 0,.int .i64 0,.int .i64 0,.int .i64 0,.int .i64 0,.int .i64 0,.int .i64 0,.int .i64 0] 30)) ⟨1,⟨some ⟨I,0,none⟩,1,1⟩,0,nS,nS,0,nS,nS,zH⟩ pgK):=⟨rfl,rfl,rfl,rfl,ab1.out.ae ga,vz,rfl,(by show 1<=_;omega),Lz.zero _ _,jv,rfl,(by show 0<=_;omega),Kl.zero _ _,rfl,(by show 0<=_;omega),ai.empty _,Bt.nil,(by show 0<=_;omega),Nt.zero _ _,rfl,(by show 0<=_;omega)⟩;have G1:=hJ (gQ qG.out ga);clear ga ab1 qG;generalize w0.alloc (.cells #[.int .i64 1,.slice (some ⟨I,0,none⟩) 1 1,.int .i64 0,.slice none 0 0,.slice none 0 0,.int .i64 0,.slice none 0 0,.slice none 0 0,.int .i64 0,.int .i64 0,.int .i64 0,.int .i64 0,.int .i64 0,.int .i64 0,.int .i64 0] 30)=w1 at *;have hT:w.heap.size<w0.heap.size:=by omega
 have hTs:w0.heap.size<w1.heap.size:=X1.out.lt;clear hs0;generalize w0.heap.size=T at *;obtain ⟨c0,c1,c2,c3,c4,c5,c6,c7,c8,c9,c10,c11,c12,c13,c14⟩:=X1.out.cells
 go_wp2_with fail
 refine (ld ⟨1,⟨some ⟨I,0,none⟩,1,1⟩,0,nS,nS,0,nS,nS,zH⟩ pgK _ P1.out (GV (by decide)) (HT.out.ae G1.out) (HM.out.ae G1.out)).mono ?_;rintro en w2 ⟨⟨ao,n,zs,e,rfl,Vn,hb2,_,_,NW⟩,hg2⟩;obtain ⟨rfl,rfl⟩:=Vn.qf Pp;obtain rfl:n=4096:=by rw [<- hb2.len];exact Ik
 obtain ⟨g,rfl,UW,hr2⟩:=NW (by omega);have R2:=hJ hr2;have X2:=hJ (X1.out.ae hg2);have P2:=hJ (P1.out.ae hg2);have G2:=hJ (gQ G1.out hg2);clear Vn hb2 NW hr2 hg2 X1 P1 G1 c0 c1 c2 c3 c4 c5 c6 c7 c8 c9 c10 c11 c12 c13 c14
 go_wp2_with fail
 refine (jf _ _).mono ?_;rintro en w3 ⟨rfl,rfl⟩;have ga:=World.grownBy_alloc w3 (.cells #[.int .u8 1,.int .u8 1,.int .u8 0,.int .u8 1,.int .u8 107,.int .u8 7,.int .u8 0,.int .u8 0,.int .u8 4,.int .u8 118,.int .u8 118] 5) none;have L3:=hJ (ai.QN w3 5 #[.int .u8 1,.int .u8 1,.int .u8 0,.int .u8 1,.int .u8 107,.int .u8 7,.int .u8 0,.int .u8 0,.int .u8 4,.int .u8 118,.int .u8 118] (0,0) [1,1,0,1,107,7,0,0,4,118,118] 11 _ rfl rfl rfl);have R3:=hJ (R2.out.ae ga);have X3:=hJ (X2.out.ae ga);have P3:=hJ (P2.out.ae ga);have G3:=hJ (gQ G2.out ga);clear ga R2 X2 P2 G2
 go_wp2_with fail
 generalize w3.alloc (.cells #[.int .u8 1,.int .u8 1,.int .u8 0,.int .u8 1,.int .u8 107,.int .u8 7,.int .u8 0,.int .u8 0,.int .u8 4,.int .u8 118,.int .u8 118] 5)=w4 at *;generalize w3.heap.size=K at *;refine (cw _ _ 11 11 4096 11 _ _ _ (R3.out.AL 0 11 4096 (by rw [Ik];omega)) L3.out (by rw [List.drop_zero];exact List.take_left' rfl)).mono ?_;rintro en w5 ⟨rfl,rfl⟩;clear L3;have ga:=World.grownBy_alloc w5 (.cells #[.int .u8 173,.int .u8 110,.int .u8 120,.int .u8 245] 5) none;have L5:=hJ (ai.QN w5 5 #[.int .u8 173,.int .u8 110,.int .u8 120,.int .u8 245] (0,0) [173,110,120,245] 4 _ rfl rfl rfl);have R5:=hJ (R3.out.ae ga);have X5:=hJ (X3.out.ae ga);have P5:=hJ (P3.out.ae ga);have G5:=hJ (gQ G3.out ga);clear ga R3 X3 P3 G3
 go_wp2_with fail
 generalize w5.alloc (.cells #[.int .u8 173,.int .u8 110,.int .u8 120,.int .u8 245] 5)=w6 at *;generalize w5.heap.size=K2 at *;refine (cw _ _ 4 4 4 4 _ _ _ (R5.out.AL 4092 4 4 (by rw [Ik];omega)) L5.out XJ).mono ?_;rintro en w7 ⟨rfl,rfl⟩;clear L5;have B7:=hJ (R5.out.all 4096 4096 Ik.symm);have BT7:Hid (Bt jH):=agD
 go_wp2_with fail
 refine (rj _ 4096 4096 jH _ B7.out BT7.out (Nat.le_refl _) (HT.out.ae G5.out) (HM.out.ae G5.out)).mono ?_;rintro en w8 ⟨⟨y,q,f,rfl,OV,wj,_⟩,bU⟩;obtain ⟨rfl,rfl⟩:=OV.qf Pp.back.1;have ga:=gP w8 y;have Q8:=hJ (wj.ae ga).pm;have Y8:=hJ (Px.new w8 y);have X8:=hJ ((X5.out.ae bU).ae ga);have P8:=hJ ((P5.out.ae bU).ae ga);have G8:=hJ (gQ (gQ G5.out bU) ga);clear OV wj bU ga B7 R5 X5 P5 G5;go_upto_region 7 with fail
 generalize w8.alloc (.cells #[.int .i64 y.k,.slice y.i.a y.i.n y.i.c,.int .i64 y.l,.slice y.s.a y.s.n y.s.c,.slice y.d.a y.d.n y.d.c,.int .i64 y.x,.slice y.b.a y.b.n y.b.c,.slice y.t.a y.t.n y.t.c,.int .i64 y.h.v,.int .i64 y.h.c,.int .i64 y.h.r,.int .i64 y.h.h,.int .i64 y.h.k,.int .i64 y.h.f,.int .i64 y.h.n] 30)=w9 at *;generalize w8.heap.size=T2 at *;obtain ⟨c0,c1,c2,c3,c4,c5,c6,c7,c8,c9,c10,c11,c12,c13,c14⟩:=X8.out.cells;obtain ⟨d0,d1,d2,d3,d4,d5,d6,d7,d8,d9,d10,d11,d12,d13,d14⟩:=Y8.out.cells
 go_wp2_with fail
 refine (gm ⟨1,⟨some ⟨I,0,none⟩,1,1⟩,0,nS,nS,0,nS,nS,zH⟩ y pgK pgK _ P8.out Q8.out).mono ?_;rintro en fI ⟨⟨Ph,rfl,ug⟩,aW⟩;obtain rfl:Ph=true:=ug.2 rfl;have X10:=hJ (X8.out.ae aW);have P10:=hJ (P8.out.ae aW);have wZ:=hJ (gQ G8.out aW);clear ug aW X8 P8 G8 Q8 Y8 c0 c1 c2 c3 c4 c5 c6 c7 c8 c9 c10 c11 c12 c13 c14 d0 d1 d2 d3 d4 d5 d6 d7 d8 d9 d10 d11 d12 d13 d14
 go_wp2_with (at_make;refine wpList_make_full _ rfl _ _ 25 rfl fI.heap.size 5 i0 (.int .u8 0) 1 Tryz.underlying25 hi hz0 hz1 _ _ _ _ 4096 rfl rfl rfl rfl (by rw [hz2];omega) (by unfold maxLen;omega) (Nat.le_refl _) ?_)
 intro BN Gg gY;have Yc:Hid (Rw BN fI.heap.size (List.replicate 4096 0)):=by rw [made] at Gg;exact Rw.aP Gg
 have X11:=hJ (X10.out.ae gY);have P11:=hJ (P10.out.ae gY);have PL:=hJ (gQ wZ.out gY);clear Gg gY X10 P10 wZ;have TR:Hid ((List.replicate 4096 (0:Int)).length=4096):=List.length_replicate;have HZB:=hJ (Nj 4096);have HZN:=hJ Pq;generalize List.replicate 4096 (0:Int)=zz at *
 go_wp2_with fail
 refine (rj _ 4096 4096 zz _ (Yc.out.all 4096 4096 TR.out.symm) HZB.out (Nat.le_refl _) (HT.out.ae PL.out) (HM.out.ae PL.out)).mono ?_;rintro en QU ⟨⟨y2,q2,f2,rfl,OV,_,_⟩,og⟩;obtain rfl:f2=22:=(OV.sum TR.out).2 HZN.out;have ga:=gP QU y2;have Vo:=hJ ((X11.out.ae og).ae ga);have P12:=hJ ((P11.out.ae og).ae ga);have UD:=hJ (gQ (gQ PL.out og) ga);clear OV og ga X11 P11 PL Yc;go_upto_region 9 with fail
 generalize QU.alloc (.cells #[.int .i64 y2.k,.slice y2.i.a y2.i.n y2.i.c,.int .i64 y2.l,.slice y2.s.a y2.s.n y2.s.c,.slice y2.d.a y2.d.n y2.d.c,.int .i64 y2.x,.slice y2.b.a y2.b.n y2.b.c,.slice y2.t.a y2.t.n y2.t.c,.int .i64 y2.h.v,.int .i64 y2.h.c,.int .i64 y2.h.r,.int .i64 y2.h.h,.int .i64 y2.h.k,.int .i64 y2.h.f,.int .i64 y2.h.n] 30)=JA at *;generalize QU.heap.size=T3 at *;have c5:=Vo.out.cells.2.2.2.2.2.1;have f5:=Vo.out.frozen 5;go_upto_region 10 with fail
 have eU:JA.grownBy (JA.setCell ⟨T,5,none⟩ (.int .i64 7)) (some T):=ay JA T 5 (.int .i64 7);have X14:Hid (Px (JA.setCell ⟨T,5,none⟩ (.int .i64 7)) T ⟨1,⟨some ⟨I,0,none⟩,1,1⟩,0,nS,nS,7,nS,nS,zH⟩):=Vo.out.WV 7
 have P14:Hid (Pm (JA.setCell ⟨T,5,none⟩ (.int .i64 7)) ⟨1,⟨some ⟨I,0,none⟩,1,1⟩,0,nS,nS,7,nS,nS,zH⟩ ⟨1,[sY],0,[],[],7,[],[],zH⟩):=by
  have h:=P12.out.items;refine ⟨rfl,rfl,rfl,rfl,Pu h Vo.out eU (by omega),vz,rfl,(by show 1<=_;omega),Lz.zero _ _,jv,rfl,(by show 0<=_;omega),Kl.zero _ _,rfl,(by show 0<=_;omega),ai.empty _,Bt.nil,(by show 0<=_;omega),Nt.zero _ _,rfl,(by show 0<=_;omega)⟩
 have yB:=hJ (af UD.out eU (by omega));clear eU Vo P12 UD c5 f5;generalize JA.setCell ⟨T,5,none⟩ (.int .i64 7)=Nv at *;obtain ⟨c0,c1,c2,c3,c4,c5,c6,c7,c8,c9,c10,c11,c12,c13,c14⟩:=X14.out.cells
 go_wp2_with fail
 refine (ld ⟨1,⟨some ⟨I,0,none⟩,1,1⟩,0,nS,nS,7,nS,nS,zH⟩ ⟨1,[sY],0,[],[],7,[],[],zH⟩ _ P14.out ⟨by decide,Nat.zero_le _,Nat.zero_le _,⟨Nat.zero_le _,Nat.zero_le _⟩,Nat.zero_le _⟩ (HT.out.ae yB.out) (HM.out.ae yB.out)).mono ?_;rintro en Wj ⟨⟨ao,n,zs,e,rfl,Vn,_,_,_,_⟩,kL⟩;obtain rfl:=TL Vn;have G15:=hJ (gQ yB.out kL);clear Vn kL yB X14 P14 c0 c1 c2 c3 c4 c5 c6 c7 c8 c9 c10 c11 c12 c13 c14
 go_wp2_with fail
 refine (jf _ _).mono ?_;rintro en Wl ⟨rfl,rfl⟩
 go_wp2_with fail
 refine (jf _ _).mono ?_;rintro en Wl ⟨rfl,rfl⟩
 go_wp2_with fail
 refine (jf _ _).mono ?_;rintro en Wl ⟨rfl,rfl⟩;go_wp2;go_ret;exact ⟨rfl,G15.out⟩
end Go.Proofs.YtgldkdbkaachkaaGreatDoor
