import Derived.Test.YtgldkdbkaachkaaGreatDoorK10
import Derived.Deep.DeepCutAuto
import Derived.Lib.SlBytesConst
set_option maxRecDepth 100000
set_option maxHeartbeats 4000000
namespace Go.Proofs.YtgldkdbkaachkaaGreatDoor
open Go.RowKit
variable {e lv:Int}{L M:List (List Int)}{P cs x zs:List Int}{xs ys:List Value}{G R T base BG cap bh g i j m n pn sz top:Nat}{st:Nat × Int}{po:Option Addr}{row:Option Nat}{a b v v2:Value}{c w w' wr:World}
theorem BI (M:List Sk)(i:Nat):(aj M).getD i []=(M.getD i jn).sep:=by
 simp only [aj,List.getD,List.getElem?_map];cases M[i]? <;> rfl
theorem od (k:Kd)(M:List Sk)(i:Nat):(kids k M).getD (i+1) dO=(M.getD i jn).kid:=by
 simp only [kids,List.getD,List.getElem?_cons_succ,List.getElem?_map];cases M[i]? <;> rfl
theorem BJ{A B C D E:List Int}{a b c d:Nat}(ha:A.length=a)(hb:B.length=b)(hc:C.length=c)(hd:D.length=d)(h:a+b+c+d+E.length<=cs.length) :
  splice (splice (splice (splice (splice cs 0 A) (0+a) B) (0+a+b) C) (0+a+b+c) D) (0+a+b+c+d) E=splice cs 0 (A++(B++(C++(D++E)))):=by
 have e1:=eK (cs:=cs) (q:=0) ha hb hc (D:=D) (by omega);rw [e1];have e2:=dx (cs:=cs) (xs:=A++(B++(C++D))) (ys:=E) (p:=0) (by simp only [List.length_append];omega);have e3:0+(A++(B++(C++D))).length=0+a+b+c+d:=by simp only [List.length_append];omega
 rw [e3] at e2;rw [e2];simp only [List.append_assoc]
theorem wy (h:zs.length=cs.length):splice cs 0 zs=zs:=by
 unfold splice;rw [List.take_zero,List.nil_append,Nat.zero_add,List.drop_eq_nil_of_le (by omega),List.append_nil]
theorem BM (l:Nat)(a:Option Addr)(n cap:Nat)(b:Option Addr)(bh:Nat)(k:Kd)(M:List Sk)(w:World)(hl:Lz w a (aj M))(hk:Kl w b (kids k M))(hn:M.length=n)(hc:n<=cap)(hcap:cap<=9223372036854775807)(hf:Fit (l:Int) (aj M) (kids k M)) :
  Calls Tryz.prog 203 #[.int .i64 l,.slice a n cap,.slice b (n+1) bh] w fun en w'=>∃ G,en=.returned (.slice (some ⟨G,0,none⟩) 4092 4092)/\Rw w' G (eO l k M)/\w.grownBy w' none/\w.heap.size<=G:=by
 obtain ⟨i0,hi,hz0,hz1,hz2⟩:=info_parts bF;obtain ⟨tM,MH⟩:=iP hf.sep hf.size;have ael:l<=15:=by have:=hf.l2;omega
 have IQ:=hJ (sM (l:Int) k hf.size);have yc:=pU (l:Int) M;have hc0:=sM (l:Int) k hf.size 0;have HL:=hJ hl;have HK:=hJ hk;have wY:=hJ hf.sep;have HWK:=hJ hf.kid;have hm:n<=400:=by omega
 have vJ:Hid ((eO (l:Int) k M).length=4092):=gA hf.size
 have ye:Hid (bg (l:Int) M=lb 1 2++(lb 1 l++(lb 2 (n+1)++(ah (aF (aj M))++(M.headD jn).sep.take (aF (aj M)))))):=by
  show _=_
  unfold bg;rw [hn]
  rfl
 have UC:Hid (∀ x∈M,aF (aj M)<=x.sep.length):=fun x hx=>(cU x.sep (dW hx)).1
 have PB:IntKind.u8.wrap (l:Int)=(l:Int):=by simp [IntKind.wrap,IntKind.bits,IntKind.signed];omega
 have hwn:IntKind.u16.wrap ((n:Int)+1)=((n+1:Nat):Int):=by simp [IntKind.wrap,IntKind.bits,IntKind.signed];omega
 clear hl hk hf;obtain ⟨Z,hZ⟩:∃ Z:List Int,Z=List.replicate 4092 0:=⟨_,rfl⟩;have pR:Z.length=4092:=by rw [hZ,List.length_replicate]
 have HZ:=hJ hZ;clear hZ;go_enter Tryz.func203,Tryz.ntmps203
 go_wp2_with (refine pX rfl rfl Z HZ.out ?_)
 intro w1 hr1 hg1 hs1;have R1:=hJ hr1;have G1:=hJ hg1;clear hr1 hg1
 go_wp2_with fail
 refine (kH a n cap (aj M) _ (HL.out.ae G1.out) (by rw [bY];exact hn) hc hcap).mono ?_;rintro en w2 ⟨rfl,hg2⟩;have R2:=hJ (R1.out.ae hg2);have G2:=hJ (gQ G1.out hg2);have aem:w.heap.size<w2.heap.size:=by have:=hg2.size;omega
 clear hg2 R1 G1 hs1;have P1:=hJ (fun W:World=>jT (aF (aj M)) W (by omega));obtain ⟨l1,jQ⟩:∃ l1,(ah (aF (aj M))).length=l1:=⟨_,rfl⟩;have hvl:vl (aF (aj M))=l1:=jQ;rw [jQ] at P1;rw [hvl] at yc
 have hb1:4+l1+aF (aj M)+2*n+8<=4092:=by
  have e:cI (l:Int) M=(bg (l:Int) M).length+2*M.length+8:=rfl;rw [e,yc,hn] at hc0;omega
 have MJ:=hJ jQ;have MI:=hJ yc;clear hc0 hvl jQ yc;generalize MK:aF (aj M)=p at *;have GC:=hJ MK;clear MK;obtain ⟨G,hG⟩:∃ G,w.heap.size=G:=⟨_,rfl⟩;have qG:Hid (w.heap.size<=G):=by show _<=_;omega
 rw [hG] at R2;rw [hG] at aem;rw [hG];clear hG;have ga:=World.grownBy_alloc w2 (.cells #[.pointer (some ⟨G,0,none⟩),.int .i64 0] 249) none;have G3:=hJ (gQ G2.out ga);have R3:=hJ (R2.out.ae ga)
 have W3:Hid (Fl (w2.alloc (.cells #[.pointer (some ⟨G,0,none⟩),.int .i64 0] 249)) w2.heap.size G 0):=by
  show _=_
  exact heap_alloc_new w2 _
 have LG:Hid (w2.heap.size≠G):=fun e=>by omega
 have ML:Hid (w.heap.size<=w2.heap.size):=G2.out.size;have aen:Hid (w2.heap.size<(w2.alloc (.cells #[.pointer (some ⟨G,0,none⟩),.int .i64 0] 249)).heap.size):=by show _<_;simp
 clear ga R2 G2
 go_wp2_with fail
 generalize w2.alloc (.cells #[.pointer (some ⟨G,0,none⟩),.int .i64 0] 249)=w3 at *;generalize w2.heap.size=H at *;refine (jm 2 _ (by omega)).mono ?_;rintro en w4 ⟨rfl,hb4,hg4,tP⟩;have B4:=hJ hb4;have W4:=hJ (W3.out.kept hg4 (by simp));have R4:=hJ (R3.out.ae hg4);have G4:=hJ (gQ G3.out hg4);have N4:Hid (w3.heap.size≠H):=fun e=>by have:=aen.out;omega
 clear hb4 hg4 tP W3 R3 G3
 go_wp2_with fail
 refine (iQ H G 0 _ _ _ _ (lb 1 2) _ W4.out R4.out pR B4.out LG.out (fun ad e _=>by obtain rfl:=Option.some.inj e;exact N4.out) (by omega)).mono ?_;rintro en w5 ⟨rfl,Bd,kz,Zv,hs5⟩;have W5:=hJ Bd;have R5:=hJ kz;have G5:=hJ (Zv.grown G4.out ML.out qG.out);have N5:Hid (w5.heap.size≠H):=fun e=>by have:=Bd.lt;omega
 clear Bd kz Zv hs5 W4 R4 G4 B4 N4;have L1:Hid ((splice Z 0 (lb 1 2)).length=4092):=by show _=_;rw [aJ (by rw [aL,pR];omega)];exact pR
 go_wp2_with fail
 refine (jm l _ (by omega)).mono ?_;rintro en w6 ⟨rfl,jF,bE,zZ⟩;have B6:=hJ jF;have W6:=hJ (W5.out.kept bE (by simp));have R6:=hJ (R5.out.ae bE);have G6:=hJ (gQ G5.out bE);clear jF bE zZ W5 R5 G5
 go_wp2_with fail
 refine (iQ H G _ _ _ _ _ (lb 1 l) _ W6.out R6.out L1.out B6.out LG.out (fun ad e _=>by obtain rfl:=Option.some.inj e;exact N5.out) (by omega)).mono ?_;rintro en w7 ⟨rfl,LH,nj,PF,Ab⟩;have W7:=hJ LH;have R7:=hJ nj;have G7:=hJ (PF.grown G6.out ML.out qG.out);have N7:Hid (w7.heap.size≠H):=fun e=>by have:=LH.lt;omega
 clear LH nj PF Ab W6 R6 G6 B6 N5;have L2:Hid ((splice (splice Z 0 (lb 1 2)) (0+1) (lb 1 l)).length=4092):=by show _=_;rw [aJ (by rw [L1.out,aL];omega)];exact L1.out
 go_wp2_with fail
 refine (ir (n+1) _ (by omega)).mono ?_;rintro en w8 ⟨rfl,ig,bU,Uh⟩;have B8:=hJ ig;have W8:=hJ (W7.out.kept bU (by simp));have R8:=hJ (R7.out.ae bU);have G8:=hJ (gQ G7.out bU);clear ig bU Uh W7 R7 G7
 go_wp2_with fail
 refine (iQ H G _ _ _ _ _ (lb 2 (n+1)) _ W8.out R8.out L2.out B8.out LG.out (fun ad e _=>by obtain rfl:=Option.some.inj e;exact N7.out) (by omega)).mono ?_;rintro en w9 ⟨rfl,Aa,nR,Bb,xZ⟩;have W9:=hJ Aa;have R9:=hJ nR;have G9:=hJ (Bb.grown G8.out ML.out qG.out);have N9:Hid (w9.heap.size≠H):=fun e=>by have:=Aa.lt;omega
 clear Aa nR Bb xZ W8 R8 G8 B8 N7;have L3:Hid ((splice (splice (splice Z 0 (lb 1 2)) (0+1) (lb 1 l)) (0+1+1) (lb 2 (n+1))).length=4092):=by show _=_;rw [aJ (by rw [L2.out,aL];omega)];exact L2.out
 go_wp2_with fail
 refine (P1.out _).mono ?_;rintro en fI ⟨rfl,ug,aW,Ef⟩;have B10:=hJ ug;have VR:=hJ (W9.out.kept aW (by simp));have IW:=hJ (R9.out.ae aW);have wZ:=hJ (gQ G9.out aW);clear ug aW Ef W9 R9 G9
 go_wp2_with fail
 refine (iQ H G _ _ _ _ _ (ah p) _ VR.out IW.out L3.out B10.out LG.out (fun ad e _=>by obtain rfl:=Option.some.inj e;exact N9.out) (by omega)).mono ?_;rintro en BN ⟨rfl,aak,rO,aal,Nu⟩;have W11:=hJ aak;have Yc:=hJ rO;have PL:=hJ (aal.grown wZ.out ML.out qG.out);clear aak rO aal Nu VR IW wZ B10 N9 P1;have L4:Hid ((splice (splice (splice (splice Z 0 (lb 1 2)) (0+1) (lb 1 l)) (0+1+1) (lb 2 (n+1))) (0+1+1+2) (ah p)).length=4092):=by show _=_;rw [aJ (by rw [L3.out,MJ.out];omega)];exact L3.out
 have nu:((M.headD jn).sep.take p).length=p:=by
  rw [List.length_take];cases M with
  | nil =>
   have:=GC.out;obtain rfl:p=0:=this.symm
   rfl
  | cons x L=>have:=UC.out x List.mem_cons_self;rw [List.headD_cons];omega
 have HFV:Hid (splice (splice (splice (splice (splice Z 0 (lb 1 2)) (0+1) (lb 1 l)) (0+1+1) (lb 2 (n+1))) (0+1+1+2) (ah p)) (0+1+1+2+l1) ((M.headD jn).sep.take p)=splice Z 0 (bg (l:Int) M)):=by
  show _=_
  rw [ye.out];exact BJ (aL _ _) (aL _ _) (aL _ _) MJ.out (by rw [pR,nu];omega)
 have Zy:0+1+1+2+l1+p=(bg (l:Int) M).length:=by have:=MI.out;omega
 have HH1:=hJ Zy;have Yd:=hJ nu;clear Zy nu L1 L2 L3
 go_upto_if 34 with fail
 go_cut [] (fun wx=>Fl wx H G (bg (l:Int) M).length/\Rt wx G 210 (splice Z 0 (bg (l:Int) M))/\w.grownBy wx none)
 case first =>
  by_cases hp0:0<p
  ·have QB:0<n:=by
    cases M with
    | nil=>have:=GC.out;obtain rfl:p=0:=this.symm;omega
    | cons x L=>simp at hn;omega
   obtain ⟨b',off',ao,n0,c0,rfl,q2,q3,q4,q5⟩:=HL.out.row 0 (by rw [bY];omega);rw [Nat.add_zero] at q2;have e0:=PL.out.cell q2 (by simp);have hh:(aj M).getD 0 []=(M.headD jn).sep:=by cases M <;> rfl
   rw [hh] at q3;have hpl:p<=n0:=by have:=Yd.out;rw [List.length_take] at this;have:=q3.len;omega
   have B11:=hJ ((q3.ae PL.out).take p c0 hpl (fun e=>by have:=(q3.nil e).1;omega))
   have hblk:Hid (∀ ad,ao=some ad->0<p->ad.block≠H):=fun ad e h=>by
    have h1:=q3.lt e (by omega);have:=ML.out;omega
   have g1:(0:Int)<=(p:Int):=by omega
   have g2:(p:Int)<=(c0:Int):=by omega
   have g3:(0:Int)<(n:Int):=by omega
   have g4:(0:Int)<(p:Int):=by omega
   clear q2 q3
   go_wp2_with fail
   refine (iQ H G _ _ _ _ _ _ _ W11.out Yc.out L4.out B11.out LG.out hblk.out (by omega)).mono ?_;rintro en QU ⟨rfl,Jq,yA,aam,kK⟩;rw [HH1.out] at Jq;rw [HFV.out] at yA;have LN:=hJ Jq;have Jr:=hJ yA;have UD:=hJ (aam.grown PL.out ML.out qG.out);clear Jq yA aam kK
   go_wp2_with fail
   go_meet;exact ⟨LN.out,Jr.out,UD.out⟩
  ·have nh:p=0:=by omega
   have g4:¬ (0:Int)<(p:Int):=by omega
   have LN:=W11.out;have Jr:=Yc.out;have e1:=HH1.out;have e2:=HFV.out;rw [nh] at e1;have e3:(M.headD jn).sep.take p=[]:=by rw [nh];rfl
   rw [e3,Ec] at e2;rw [e2] at Jr;rw [show 0+1+1+2+l1=(bg (l:Int) M).length by omega] at LN;have W13:=hJ LN;have R13:=hJ Jr;clear e1 e2 e3 LN Jr nh
   go_wp2_with fail
   go_meet;exact ⟨W13.out,R13.out,PL.out⟩
 case rest =>
 obtain ⟨Jq,yA,og⟩:=hcut;have LN:=hJ Jq;have Jr:=hJ yA;have UD:=hJ og;clear Jq yA og W11 Yc PL L4 HFV ye Yd;have hh3:(bg (l:Int) M).length+2*n+8<=4092:=by rw [MI.out];omega
 generalize Ui:(bg (l:Int) M).length=h0 at *;have XT:=hJ Ui;clear Ui;obtain ⟨k0,k1,_⟩:=LN.out.cells
 have HS:Hid (Fl ((wc.alloc (.cells #[.pointer (some ⟨G,0,none⟩),.int .i64 (h0:Int)] 249)).alloc (.cells #[.pointer (some ⟨G,0,none⟩),.int .i64 ((h0:Int)+2*(n:Int))] 249)) wc.heap.size G h0 /\
   Fl ((wc.alloc (.cells #[.pointer (some ⟨G,0,none⟩),.int .i64 (h0:Int)] 249)).alloc (.cells #[.pointer (some ⟨G,0,none⟩),.int .i64 ((h0:Int)+2*(n:Int))] 249)) (wc.heap.size+1) G (h0+2*n) /\
   Rt ((wc.alloc (.cells #[.pointer (some ⟨G,0,none⟩),.int .i64 (h0:Int)] 249)).alloc (.cells #[.pointer (some ⟨G,0,none⟩),.int .i64 ((h0:Int)+2*(n:Int))] 249)) G 210 (splice Z 0 (bg (l:Int) M)) /\
   w.grownBy ((wc.alloc (.cells #[.pointer (some ⟨G,0,none⟩),.int .i64 (h0:Int)] 249)).alloc (.cells #[.pointer (some ⟨G,0,none⟩),.int .i64 ((h0:Int)+2*(n:Int))] 249)) none):=by
  have ga:=World.grownBy_alloc wc (.cells #[.pointer (some ⟨G,0,none⟩),.int .i64 (h0:Int)] 249) none;have wa:Fl (wc.alloc (.cells #[.pointer (some ⟨G,0,none⟩),.int .i64 (h0:Int)] 249)) wc.heap.size G h0:=heap_alloc_new wc _;have hsa:(wc.alloc (.cells #[.pointer (some ⟨G,0,none⟩),.int .i64 (h0:Int)] 249)).heap.size=wc.heap.size+1:=by simp
  have Ra:=Jr.out.ae ga;have Ga:=gQ UD.out ga;generalize wc.alloc (.cells #[.pointer (some ⟨G,0,none⟩),.int .i64 (h0:Int)] 249)=VS at *;have gb:=World.grownBy_alloc VS (.cells #[.pointer (some ⟨G,0,none⟩),.int .i64 ((h0:Int)+2*(n:Int))] 249) none
  have wb:Fl (VS.alloc (.cells #[.pointer (some ⟨G,0,none⟩),.int .i64 ((h0:Int)+2*(n:Int))] 249)) (wc.heap.size+1) G (h0+2*n):=by
   have e:(h0:Int)+2*(n:Int)=((h0+2*n:Nat):Int):=by omega
   rw [<- hsa,e];exact heap_alloc_new VS _
  exact ⟨wa.kept gb (by simp),wb,Ra.ae gb,gQ Ga gb⟩
 have hSH:H<wc.heap.size:=LN.out.lt;have hSG:G<wc.heap.size:=Jr.out.lt;have hSw:w.heap.size<=wc.heap.size:=UD.out.size;go_upto_region 12 with fail
 clear k0 k1 LN Jr UD;generalize (wc.alloc (.cells #[.pointer (some ⟨G,0,none⟩),.int .i64 (h0:Int)] 249)).alloc (.cells #[.pointer (some ⟨G,0,none⟩),.int .i64 ((h0:Int)+2*(n:Int))] 249)=Nv at *;generalize wc.heap.size=S at *;have PM:=hJ HS.out.1;have C14:=hJ HS.out.2.1;have R14:=hJ HS.out.2.2.1;have yB:=hJ HS.out.2.2.2;clear HS;have aap:Hid ((splice Z 0 (bg (l:Int) M)).length=4092):=by show _=_;rw [aJ (by rw [pR,XT.out];omega)];exact pR
 have HBK:Hid (rJ (l:Int) M=h0+2*n):=by show _=_;unfold rJ;rw [XT.out,hn]
 have PR:Hid (splice (splice Z 0 (bg (l:Int) M)) (h0+2*n) (kb k)=gL (l:Int) k M 0):=by
  show _=_
  rw [<- HBK.out,HZ.out];exact Ej _ _ _ (by have:=IQ.out 0;omega)
 have QV:Hid (S+1≠G):=fun e=>by omega
 have QW:Hid (S≠G):=fun e=>by omega
 go_cut [] (fun wx=>Fl wx S G h0/\Fl wx (S+1) G (h0+2*n+8)/\Rt wx G 210 (gL (l:Int) k M 0)/\w.grownBy wx none)
 case first =>
  obtain ⟨b',off',rfl,q2,q3⟩:=HK.out.row 0 (by rw [dX];omega);have xb:(kids k M).getD 0 dO=k:=rfl;rw [xb,Nat.zero_mul,Nat.add_zero] at q2;rw [xb,Nat.zero_mul,Nat.add_zero] at q3;have hbl:b'<w.heap.size:=World.block_lt_of_cell? w _ q2;have hkk:=HWK.out k List.mem_cons_self;obtain ⟨no,hno⟩:∃ no,k.no=no:=⟨_,rfl⟩;obtain ⟨ks,hks⟩:∃ ks,k.keys=ks:=⟨_,rfl⟩;rw [hno] at q2;rw [hks] at q3;have u0:=yB.out.cell q2 (by simp);have u1:=yB.out.cell q3 (by simp);have g3:(0:Int)<(n:Int)+1:=by omega
  have Js:Hid (b'≠S+1):=fun e=>by omega
  have XZ:=hJ hkk;have vK:=hJ hno;have Jt:=hJ hks;clear q2 q3 hkk hno hks xb
  go_region_with (first
   | (go_at_call 251;refine (nX (S+1) G (h0+2*n) 8 _ (by exact C14.out.qt (Qt.refl _).drew) (by omega)).mono ?_;rintro en Wj ⟨⟨akh,rfl,aaq,_⟩,aar,kL,Wk⟩;obtain rfl:=aaq (by omega);have v0:=(gQ ((Qt.refl _).drew.grown (some (S+1))) kL).cell u0 (fun e=>Js.out (Option.some.inj e));have v1:=(gQ ((Qt.refl _).drew.grown (some (S+1))) kL).cell u1 (fun e=>Js.out (Option.some.inj e)))
   | (go_at_call 250;refine (tY G (h0+2*n) (splice Z 0 (bg (l:Int) M)) k no ks _ (by exact R14.out.kept (gQ ((Qt.refl _).drew.grown (some (S+1))) kL) (fun e=>QV.out (Option.some.inj e).symm)) XZ.out vK.out Jt.out (by rw [aap.out];omega)).mono ?_;rintro en Wl ⟨rfl,Nx,wz⟩))
  all_goals
   have X1:=hJ (PM.out.kept (gQ ((Qt.refl _).drew.grown (some (S+1))) kL) (fun e=>by have:=Option.some.inj e;omega));have X2:=hJ (X1.out.kept wz (fun e=>QW.out (Option.some.inj e)));have X3:=hJ (aar.kept wz (fun e=>QV.out (Option.some.inj e)));have X4:=hJ Nx;have X5:=hJ (((Two.nY (R:=S+1) (G:=G) (gQ ((Qt.refl _).drew.grown (some (S+1))) kL)).trans (Two.yn wz)).grown yB.out (by omega) qG.out);clear aar kL Wk Nx wz v0 v1 X1
   go_wp2_with fail
   go_meet;exact ⟨X2.out,X3.out,by rw [<- PR.out];exact X4.out,X5.out⟩
 case rest =>
 obtain ⟨QX,Ny,Nx,wz⟩:=hcut;have S16:=hJ QX;have UE:=hJ Ny;have R16:=hJ Nx;have PS:=hJ wz;clear QX Ny Nx wz PM C14 R14 yB aap PR hwn PB;go_wp2;go_loopw [12,13,57] (fun _ _ si wr=>∃ i:Nat,i<=n/\si=.int .i64 i/\Fl wr S G (h0+2*i)/\Fl wr (S+1) G (h0+2*n+8+(aI p (M.take i)).length)/\Rt wr G 210 (gL (l:Int) k M i)/\w.grownBy wr none) (fun _ _ si _=>n - (intOf si).toNat)
 case atStart=>exact ⟨0,Nat.zero_le _,rfl,S16.out,UE.out,R16.out,PS.out⟩
 case round =>
  obtain ⟨i,hi',rfl,aat,Nz,aau,aav⟩:=hrel;have S17:=hJ aat;have Wm:=hJ Nz;have R17:=hJ aau;have Ye:=hJ aav;clear aat Nz aau aav S16 UE R16 PS
  by_cases hlt:i<n
  ·obtain ⟨b1,aet,ao,m,c',rfl,q2,q3,q4,q5⟩:=HL.out.row i (by rw [bY];omega)
   obtain ⟨b2,Ju,rfl,q6,q7⟩:=HK.out.row (i+1) (by rw [dX];omega);rw [BI] at q3;rw [od] at q6;rw [od] at q7;have hx:M.getD i jn∈M:=by simp [List.getD,List.getElem?_eq_getElem (show i<M.length by omega)]
   have x1:=wY.out _ (dW hx);have x2:=HWK.out _ (List.mem_cons_of_mem _ (List.mem_map_of_mem hx));have x3:=eA x1;have x4:=q3.len;obtain ⟨UF,ko,rfl,hkb,_⟩:=q3.at (by omega);have Zz:p<=m:=by have:=UC.out _ hx;omega
   have xa:=IQ.out (i+1);have lT:=fR p M i (by omega);have hBC:cI (l:Int) M=h0+2*n+8:=by have:=HBK.out;unfold cI;omega
   rw [hBC,lT,List.length_append,<- Nat.add_assoc] at xa;have hst:=Ek (l:Int) k M i (by omega) (by rw [GC.out,hBC];omega);rw [GC.out,hBC,XT.out] at hst;have ZA:=Jf (l:Int) k M i (by omega) (by rw [GC.out];exact IQ.out i);have Eg:Hid ((aI p (M.take (i+1))).length=(aI p (M.take i)).length+(vH p (M.getD i jn)).length):=by show _=_;rw [lT,List.length_append]
   obtain ⟨A,hA⟩:∃ A,h0+2*n+8+(aI p (M.take i)).length=A:=⟨_,rfl⟩;rw [hA] at hst xa Wm;have QC:=hJ hA;generalize hxx:M.getD i jn=x at *;obtain ⟨C,hC⟩:∃ C,(vH p x).length=C:=⟨_,rfl⟩;rw [hC] at xa Eg;have UG:=hJ hC;obtain ⟨r,hr⟩:∃ r,m - p=r:=⟨_,rfl⟩;have hCr:C=vl r+r+8:=by rw [<- hC,ym];unfold Di;rw [x4,hr]
   have HCZ:Hid (∀ (eX:Option Addr) (c'':Nat) (W:World),Calls Tryz.prog 253 #[.slice eX r c''] W fun en w'=>en=.returned (.int .i64 ((C:Nat):Int))/\w'=W):=by
    intro eX c'' W;rw [hCr];exact lX eX r c'' W (by omega)
   obtain ⟨no,hno⟩:∃ no,x.kid.no=no:=⟨_,rfl⟩;obtain ⟨ks,hks⟩:∃ ks,x.kid.keys=ks:=⟨_,rfl⟩;rw [hno] at q6;rw [hks] at q7;have vK:=hJ hno;have Jt:=hJ hks;have HXK:=hJ x2;generalize hBi:gL (l:Int) k M i=Bi at *;have HST:=hJ hst;have Be:=hJ ZA;have ZC:=hJ q3;have HX6:=hJ q6;have HX7:=hJ q7;have aki:b1<w.heap.size:=World.block_lt_of_cell? w _ q2;have akj:b2<w.heap.size:=World.block_lt_of_cell? w _ q6;have c1:=Ye.out.cell q2 (by simp);obtain ⟨_,c2,_⟩:=Wm.out.cells;have hwA:IntKind.u16.wrap (A:Int)=(A:Int):=by simp [IntKind.wrap,IntKind.bits,IntKind.signed];omega
   have aex:=DN r;have hC0:0<C:=by omega
   have kz:r<=255:=by omega
   clear q2 q3 q6 q7 hst ZA hxx hBi hC hno hks x1 x2 hA lT hBC hx hCr aex
   go_wp2_with fail
   refine (ir A _ (by omega)).mono ?_;rintro en w18 ⟨rfl,aaw,NA,aez⟩;have B18:=hJ aaw;have S18:=hJ (S17.out.kept NA (by simp));have C18:=hJ (Wm.out.kept NA (by simp));have R18:=hJ (R17.out.ae NA);have G18:=hJ (gQ Ye.out NA);have N18:Hid (wr.heap.size≠S):=fun e=>by have:=S17.out.lt;omega
   clear aaw NA aez S17 Wm R17 Ye c1 c2
   go_wp2_with fail
   refine (iQ S G _ _ _ _ _ (lb 2 A) _ S18.out R18.out Be.out B18.out QW.out (fun ad e _=>by obtain rfl:=Option.some.inj e;exact N18.out) (by omega)).mono ?_;rintro en w19 ⟨rfl,aax,aay,Wn,aeA⟩;have S16:=hJ aax;have R16:=hJ aay;have UE:=hJ (C18.out.two Wn (by omega) QV.out);have PS:=hJ (Wn.grown G18.out (by omega) qG.out);have L16:Hid ((splice Bi (h0+2*i) (lb 2 A)).length=4092):=by show _=_;rw [aJ (by rw [Be.out,aL];omega)];exact Be.out
   clear aax aay Wn aeA S18 C18 R18 G18 B18 N18;have u0:=PS.out.cell HX6.out (by simp);have u1:=PS.out.cell HX7.out (by simp);have aaz:=hJ (ZC.out.ae PS.out);have Js:Hid (b2≠S+1/\UF≠S+1/\UF≠G):=⟨by omega,by omega,by have:=qG.out;omega⟩;have g1:(0:Int)<=(p:Int):=by omega
   have g2:(p:Int)<=(m:Int):=by omega
   obtain ⟨j,hj⟩:∃ j,i+1=j:=⟨_,rfl⟩;rw [hj] at u0 u1;have g3:(j:Int)<(n:Int)+1:=by omega
   have g4:(0:Int)<=(j:Int):=by omega
   have g7:IntKind.i64.wrap ((i:Int)+1)=(j:Int):=by simp [IntKind.wrap,IntKind.bits,IntKind.signed];omega
   have g8:j<n+1:=by omega
   have HJ:=hJ hj;clear hj;have g5:(p:Int)<=(c':Int):=by omega
   have g6:(i:Int)<(n:Int):=by omega
   go_upto_region 17 with fail
   by_cases VN:c'=p
   ·have hr0:r=0:=by omega
    subst VN;subst hr0
    have BYT:Hid (ai w19 (some ⟨UF,ko,none⟩) 0 0 (x.sep.drop c')):=by
     have e:x.sep.drop c'=[]:=List.drop_eq_nil_of_le (by omega)
     show ai _ _ _ _ _
     rw [e];exact ai.VL _ _ _ _
    go_region_with (first
     | (go_at_call 253;refine (HCZ.out _ _ _).mono ?_;rintro en w20 ⟨rfl,rfl⟩)
     | (go_at_call 251;refine (nX (S+1) G A C _ (by exact UE.out.qt (Qt.refl _).drew) (by omega)).mono ?_;rintro en w21 ⟨⟨aeD,rfl,NC,_⟩,ND,iF,Er⟩;obtain rfl:=NC hC0;have v0:=(gQ ((Qt.refl _).drew.grown (some (S+1))) iF).cell u0 (fun e=>Js.out.1 (Option.some.inj e));have v1:=(gQ ((Qt.refl _).drew.grown (some (S+1))) iF).cell u1 (fun e=>Js.out.1 (Option.some.inj e)))
     | (go_at_call 252;refine (nZ G A (splice Bi (h0+2*i) (lb 2 A)) _ _ _ c' x no ks C _ (by exact R16.out.kept (gQ ((Qt.refl _).drew.grown (some (S+1))) iF) (fun e=>QV.out (Option.some.inj e).symm)) (by exact BYT.out.kept (gQ ((Qt.refl _).drew.grown (some (S+1))) iF) (fun ad e h e2=>by obtain rfl:=Option.some.inj e;exact Js.out.2.1 (Option.some.inj e2))) (fun ad e h=>by obtain rfl:=Option.some.inj e;exact Js.out.2.2) HXK.out vK.out Jt.out UG.out (by rw [L16.out];omega) (by omega)).mono ?_;rintro en w22 ⟨rfl,NE,yC⟩))
    all_goals
     have X1:=hJ (S16.out.kept (gQ ((Qt.refl _).drew.grown (some (S+1))) iF) (fun e=>by have:=Option.some.inj e;omega));have X2:=hJ (X1.out.kept yC (fun e=>QW.out (Option.some.inj e)));have X3:=hJ (ND.kept yC (fun e=>QV.out (Option.some.inj e)));have X4:=hJ NE;have X5:=hJ (((Two.nY (R:=S+1) (G:=G) (gQ ((Qt.refl _).drew.grown (some (S+1))) iF)).trans (Two.yn yC)).grown PS.out (by omega) qG.out);clear ND iF Er NE yC v0 v1 X1 u0 u1 g7;go_wp2;go_roundw
     case rel =>
      refine ⟨i+1,by omega,by go_num,by rw [Nat.mul_add,<- Nat.add_assoc];exact X2.out,?_,by rw [<- HST.out];exact X4.out,X5.out⟩;rw [Eg.out,<- Nat.add_assoc,QC.out];exact X3.out
     case measure=>simp [intOf];omega
   ·have BYT:Hid (ai w19 (some ⟨UF,ko+p,none⟩) r (c' - p) (x.sep.drop p)):=by
     have:=aaz.out.drop p (c' - p) Zz;rw [hr] at this;exact this
    go_region_with (first
     | (go_at_call 253;refine (HCZ.out _ _ _).mono ?_;rintro en w20 ⟨rfl,rfl⟩)
     | (go_at_call 251;refine (nX (S+1) G A C _ (by exact UE.out.qt (Qt.refl _).drew) (by omega)).mono ?_;rintro en w21 ⟨⟨aeD,rfl,NC,_⟩,ND,iF,Er⟩;obtain rfl:=NC hC0;have v0:=(gQ ((Qt.refl _).drew.grown (some (S+1))) iF).cell u0 (fun e=>Js.out.1 (Option.some.inj e));have v1:=(gQ ((Qt.refl _).drew.grown (some (S+1))) iF).cell u1 (fun e=>Js.out.1 (Option.some.inj e)))
     | (go_at_call 252;refine (nZ G A (splice Bi (h0+2*i) (lb 2 A)) _ _ _ p x no ks C _ (by exact R16.out.kept (gQ ((Qt.refl _).drew.grown (some (S+1))) iF) (fun e=>QV.out (Option.some.inj e).symm)) (by exact BYT.out.kept (gQ ((Qt.refl _).drew.grown (some (S+1))) iF) (fun ad e h e2=>by obtain rfl:=Option.some.inj e;exact Js.out.2.1 (Option.some.inj e2))) (fun ad e h=>by obtain rfl:=Option.some.inj e;exact Js.out.2.2) HXK.out vK.out Jt.out UG.out (by rw [L16.out];omega) (by omega)).mono ?_;rintro en w22 ⟨rfl,NE,yC⟩))
    all_goals
     have X1:=hJ (S16.out.kept (gQ ((Qt.refl _).drew.grown (some (S+1))) iF) (fun e=>by have:=Option.some.inj e;omega));have X2:=hJ (X1.out.kept yC (fun e=>QW.out (Option.some.inj e)));have X3:=hJ (ND.kept yC (fun e=>QV.out (Option.some.inj e)));have X4:=hJ NE;have X5:=hJ (((Two.nY (R:=S+1) (G:=G) (gQ ((Qt.refl _).drew.grown (some (S+1))) iF)).trans (Two.yn yC)).grown PS.out (by omega) qG.out);clear ND iF Er NE yC v0 v1 X1 u0 u1 g7;go_wp2;go_roundw
     case rel =>
      refine ⟨i+1,by omega,by go_num,by rw [Nat.mul_add,<- Nat.add_assoc];exact X2.out,?_,by rw [<- HST.out];exact X4.out,X5.out⟩;rw [Eg.out,<- Nat.add_assoc,QC.out];exact X3.out
     case measure=>simp [intOf];omega
  ·have hin:i=n:=by omega
   subst hin
   have RB:Hid (Rt wr G 210 (eO (l:Int) k M)):=by
    show Rt _ _ _ _
    rw [<- Je,hn];exact R17.out
   go_wp2_with (at_make;refine wpList_make_full _ rfl _ _ 25 rfl wr.heap.size 5 i0 (.int .u8 0) 1 Tryz.underlying25 hi hz0 hz1 _ _ _ _ 4092 rfl rfl rfl rfl ?b2 ?b3 (Nat.le_refl _) ?_)
   case b2=>rw [hz2];omega
   case b3=>unfold maxLen;omega
   intro w20 hown Es;rw [made] at hown
   have RN:Hid (Rt w20 wr.heap.size 5 Z):=by
    show Rt _ _ _ _
    rw [HZ.out];exact Rw.aP hown
   have aaB:=hJ ((RB.out.ae Es).all 4092 4092 vJ.out.symm);have G20:=hJ (gQ Ye.out Es);clear hown Es RB
   go_wp2_with (refine aS rfl _ _ rfl _ _ _ _ _ _ rfl rfl wr.heap.size 0 5 Z (eO (l:Int) k M) RN.out aaB.out (Nat.le_refl _) (fun _=>rfl) (by omega) ?_)
   intro w21 Jv iF Er;rw [wy (by rw [vJ.out,pR])] at Jv;have R21:=hJ Jv;have G21:=hJ (af G20.out iF Ye.out.size);have VT:=hJ Ye.out.size;clear Jv iF Er RN aaB G20;go_wp2;go_ret;exact ⟨wr.heap.size,rfl,R21.out,G21.out,VT.out⟩
theorem xk {K:List Kd}(h:Fit lv L K):∃ k M,L=aj M/\K=kids k M:=by
 have hl:=h.len;cases K with
 | nil=>simp at hl
 | cons k K =>
  have hl2:K.length=L.length:=by simpa using hl
  refine ⟨k,(L.zip K).map (fun q=>⟨q.1,q.2⟩),?_,?_⟩
  ·unfold aj
   rw [List.map_map];have e:(Sk.sep ∘ fun q:List Int × Kd=>(⟨q.1,q.2⟩:Sk))=Prod.fst:=rfl;rw [e,List.map_fst_zip (by omega)]
  ·unfold kids
   rw [List.map_map];have e:(Sk.kid ∘ fun q:List Int × Kd=>(⟨q.1,q.2⟩:Sk))=Prod.snd:=rfl;rw [e,List.map_snd_zip (by omega)]
theorem wA (lv:Int)(a:Option Addr)(n cap:Nat)(L:List (List Int))(b:Option Addr)(m bh:Nat)(K:List Kd)(w:World)(hl:Lz w a L)(hb:Lb L)(hn:L.length=n)(hm:n<=5000)(hc:n<=cap)(hcap:cap<=9223372036854775807)(hk:Kl w b K)(hkn:K.length=m)(hkm:m<=5000)(h:bA lv L K≠0) :
  Calls Tryz.prog 181 #[.int .i64 lv,.slice a n cap,.slice b m bh] w fun en w'=>en=.returned (.tuple #[.slice none 0 0,.int .i64 (bA lv L K)])/\w.grownBy w' none:=by
 have HE:=hJ (fun (W:World) (hW:Lz W a L) (hW2:Kl W b K)=>oa lv a n cap L b m bh K W hW hb hn hm hc hcap hW2 hkn hkm);generalize bA lv L K=e at *;have h1:¬ e=0:=h;go_enter Tryz.func181,Tryz.ntmps181
 go_wp2_with fail
 refine (HE.out _ hl hk).mono ?_;rintro en w1 ⟨rfl,hg⟩;have HG:=hJ hg;clear hg hl hk;go_wp2
 go_ret2
 exact ⟨rfl,HG.out⟩
theorem Et (l:Nat)(a:Option Addr)(n cap:Nat)(b:Option Addr)(bh:Nat)(k:Kd)(M:List Sk)(w:World)(hl:Lz w a (aj M))(hb:Lb (aj M))(hk:Kl w b (kids k M))(hn:M.length=n)(hc:n<=cap)(hcap:cap<=9223372036854775807)(h:bA (l:Int) (aj M) (kids k M)=0) :
  Calls Tryz.prog 181 #[.int .i64 l,.slice a n cap,.slice b (n+1) bh] w fun en w'=>∃ G,en=.returned (.tuple #[.slice (some ⟨G,0,none⟩) 4092 4092,.int .i64 0])/\Rw w' G (eO l k M)/\w.grownBy w' none/\w.heap.size<=G:=by
 have hf:=dy.1 h;have hmy:=(iP hf.sep hf.size).1;have HE:=hJ (fun (W:World) (hW:Lz W a (aj M)) (hW2:Kl W b (kids k M))=>oa (l:Int) a n cap (aj M) b (n+1) bh (kids k M) W hW hb (by rw [bY];exact hn) (by omega) hc hcap hW2 (by rw [dX,hn]) (by omega));have HO:=hJ (fun (W:World) (hW:Lz W a (aj M)) (hW2:Kl W b (kids k M))=>BM l a n cap b bh k M W hW hW2 hn hc hcap hf);rw [h] at HE;have HL:=hJ hl;have HK:=hJ hk;clear hl hk h hf;generalize eO (l:Int) k M=B at *;go_enter Tryz.func181,Tryz.ntmps181
 go_wp2_with fail
 refine (HE.out _ HL.out HK.out).mono ?_;rintro en w1 ⟨rfl,hg⟩;have HG:=hJ hg;clear hg
 go_wp2_with fail
 refine (HO.out _ (HL.out.ae HG.out) (HK.out.ae HG.out)).mono ?_;rintro en w3 ⟨G,rfl,h1,h2,h3⟩;have H1:=hJ h1;have H2:=hJ (gQ HG.out h2);have H3:=hJ (Nat.le_trans HG.out.size h3);clear h1 h2 h3;go_wp2
 go_ret2
 exact ⟨G,rfl,H1.out,H2.out,H3.out⟩
structure jr (lv:Int)(L:List (List Int))(K:List Kd)(zs:List Int)(e:Int):Prop where
 bad:e≠0->e=bA lv L K/\zs=[]
 good:e=0->∃ k M,L=aj M/\K=kids k M/\kC zs lv k M
theorem jr.len {L:List (List Int)}{K:List Kd}(h:jr lv L K zs e)(he:e=0):zs.length=4092:=by
 obtain ⟨k,M,rfl,rfl,h1,rfl⟩:=h.good he;exact gA (dy.1 h1).size
theorem jr.code {K:List Kd}(h:jr lv L K zs e):e=bA lv L K:=by
 by_cases he:e=0
 ·obtain ⟨k,M,rfl,rfl,h1,rfl⟩:=h.good he
  rw [he,h1]
 ·exact (h.bad he).1
theorem UH (k:Kd):Bt (kb k):=(iE _ _).app (iE _ _)
theorem xl (p:Nat):∀ {M:List Sk},Lb (aj M)->Bt (aI p M)
 | [],_=>Bt.nil
 | x::M,h=>((kA _).app (((h x.sep List.mem_cons_self).drop p).app (UH _))).app (xl p (M:=M) (fun y hy=>h y (List.mem_cons_of_mem _ hy)))
theorem xm (p:Nat):∀ (M:List Sk) (a:Nat),Bt (bV p a M)
 | [],_=>Bt.nil
 | _::M,_=>(iE _ _).app (xm p M _)
theorem NF {k:Kd}{M:List Sk}(h:Lb (aj M)):Bt (eO lv k M):=by
 unfold eO dV bg;refine Bt.app (Bt.app ((iE _ _).app ((iE _ _).app ((iE _ _).app ((kA _).app ?_)))) ((xm _ _ _).app ((UH _).app (xl _ h)))) ?_
 ·cases M with
  | nil=>exact Bt.take Bt.nil _
  | cons x M=>exact (h x.sep List.mem_cons_self).take _
 ·intro z hz
  obtain ⟨_,rfl⟩:=List.mem_replicate.1 hz;omega
theorem jr.bt {K:List Kd}(h:jr lv L K zs e)(hb:Lb L):Bt zs:=by
 by_cases he:e=0
 ·obtain ⟨k,M,rfl,rfl,h1,rfl⟩:=h.good he
  exact NF hb
 ·rw [(h.bad he).2];exact Bt.nil
theorem qO (lv:Int)(a:Option Addr)(n cap:Nat)(L:List (List Int))(b:Option Addr)(m bh:Nat)(K:List Kd)(w:World)(hl:Lz w a L)(hb:Lb L)(hn:L.length=n)(hm:n<=5000)(hc:n<=cap)(hcap:cap<=9223372036854775807)(hk:Kl w b K)(hkn:K.length=m)(hkm:m<=5000) :
  Calls Tryz.prog 181 #[.int .i64 lv,.slice a n cap,.slice b m bh] w fun en w'=>(∃ ao j c e zs,en=.returned (.tuple #[.slice ao j c,.int .i64 e])/\ai w' ao j c zs/\jr lv L K zs e/\j<=4092/\j<=c/\c<=4092/\(e=0->∃ G,ao=some ⟨G,0,none⟩/\Rw w' G zs/\w.heap.size<=G/\j=4092/\c=4092))/\w.grownBy w' none:=by
 by_cases h:bA lv L K=0
 ·have hf:=dy.1 h
  obtain ⟨k,M,rfl,rfl⟩:=xk hf;have h1:=hf.l1;obtain ⟨l,rfl⟩:∃ l:Nat,lv=(l:Int):=⟨lv.toNat,by omega⟩;rw [bY] at hn;rw [dX,hn] at hkn;subst hkn;refine (Et l a n cap b bh k M w hl hb hk hn hc hcap h).mono ?_;rintro en w' ⟨G,rfl,r1,r2,r3⟩;exact ⟨⟨_,4092,4092,0,eO l k M,rfl,r1.all 4092 4092 (gA hf.size).symm,⟨fun h=>absurd rfl h,fun _=>⟨k,M,rfl,rfl,h,rfl⟩⟩,Nat.le_refl _,Nat.le_refl _,Nat.le_refl _,fun _=>⟨G,rfl,r1,r3,rfl,rfl⟩⟩,r2⟩
 ·refine (wA lv a n cap L b m bh K w hl hb hn hm hc hcap hk hkn hkm h).mono ?_
  rintro en w' ⟨rfl,r2⟩;exact ⟨⟨none,0,0,bA lv L K,[],rfl,ai.empty _,⟨fun _=>⟨rfl,rfl⟩,fun e=>absurd e h⟩,by omega,by omega,by omega,fun e=>absurd e h⟩,r2⟩
theorem kM (R G:Nat)(zs:List Int)(s:Nat × Int)(w:World)(h:Rd w R G zs s.1 s.2)(bp:Bt zs) :
  Calls Tryz.prog 254 #[.pointer (some ⟨R,0,none⟩)] w fun en w'=>(∃ ao k,en=.returned (.slice ao k k)/\ai w' ao k k (aU zs [] s).1/\(0<k->∃ q,ao=some ⟨G,q,none⟩)/\k<=zs.length)/\Rd w' R G zs (aU zs [] s).2.1 (aU zs [] s).2.2/\w.grownBy w' (some R):=by
 have QH:Hid (aU zs [] s=((sB zs (sV zs s).2 (i64 (sV zs s).1)).1,(sB zs (sV zs s).2 (i64 (sV zs s).1)).2)):=rfl;have HV:=hJ (fun (W:World) (hW:Rd W R G zs s.1 s.2)=>QF R G zs s W hW bp);have HB:=hJ (fun (W:World) (hW:Rd W R G zs (sV zs s).2.1 (sV zs s).2.2)=>yh R G zs (sV zs s).2 (i64 (sV zs s).1) W hW);have hvl:=Bh zs s bp;have hwr:=tS hvl;generalize (sV zs s).2=s1 at *;generalize (sV zs s).1=x at *;generalize i64 x=m at *;go_enter Tryz.func254,Tryz.ntmps254
 go_wp2_with fail
 refine (HV.out _ h).mono ?_;rintro en w1 ⟨rfl,hr1,hg1⟩;have D1:=hJ hr1;have G1:=hJ hg1;clear hr1 hg1 h
 go_wp2_with fail
 refine (HB.out _ D1.out).mono ?_;rintro en w2 ⟨⟨ao,k,rfl,hb2,hao,hk⟩,hr2,hg2⟩;have B2:=hJ hb2;have A2:=hJ hao;have D2:=hJ hr2;have G2:=hJ (gQ G1.out hg2);clear hb2 hao hr2 hg2;go_wp2;go_ret;rw [QH.out];exact ⟨⟨ao,k,rfl,B2.out,fun h=>⟨_,A2.out h⟩,hk⟩,D2.out,G2.out⟩
def Kx (w:World)(T:Nat)(a b:Value):Prop:=w.heap[T]?=some (.cells #[a,b] 69 (0,0))
theorem Kx.lt (h:Kx w T a b):T<w.heap.size:=(Array.getElem?_eq_some_iff.1 h).1
theorem Kx.cells {w:World}(h:Kx w T a b):w.cell? ⟨T,0,none⟩=some a/\w.cell? ⟨T,1,none⟩=some b:=by
 refine ⟨?_,?_⟩
 ·rw [cell_of_row w T 0 _ _ _ h];rfl
 ·rw [cell_of_row w T 1 _ _ _ h];rfl
theorem Kx.frozen (h:Kx w T a b)(j:Nat):w.frozen? ⟨T,j,none⟩=false:=frozen_of_row w T j _ _ h
theorem Kx.kept {row:Option Nat}(h:Kx w T a b)(hg:w.grownBy w' row)(hne:some T≠row):Kx w' T a b:=(hg.block T h.lt hne).trans h
theorem Kx.mJ (h:Kx w T a b)(v:Value):Kx (w.setCell ⟨T,0,none⟩ v) T v b:=heap_setCell_same w T 0 _ _ v h
theorem Kx.rI (h:Kx w T a b)(v:Value):Kx (w.setCell ⟨T,1,none⟩ v) T a v:=heap_setCell_same w T 1 _ _ v h
theorem Kx.new (w:World)(a b:Value):Kx (w.alloc (.cells #[a,b] 69)) w.heap.size a b:=heap_alloc_new w _
theorem NG:(Tryz.prog.info? 69).map (·.size)=some 2:=by kernel_rfl
theorem QY {fn:Func}{p:Tmp}(h:fn.results=#[.cell p 69])(tmps:Array Value)(w:World)(U:Nat)(a b:Value)(hp:tmps.getD p undef=.pointer (some ⟨U,0,none⟩))(hx:Kx w U a b) :
  (results fn tmps).run Tryz.prog w=.ok (.agg #[a,b]) w :=
 results_cell_row h tmps w U 69 #[a,b] (0,0) _ hp hx Tryz.underlying69 rfl NG
theorem qP (R G:Nat)(zs:List Int)(s:Nat × Int)(w:World)(h:Rd w R G zs s.1 s.2)(bp:Bt zs) :
  Calls Tryz.prog 255 #[.pointer (some ⟨R,0,none⟩)] w fun en w'=>en=.returned (.agg #[.int .i64 (sK zs s).1.no,.int .i64 (sK zs s).1.keys])/\Rd w' R G zs (sK zs s).2.1 (sK zs s).2.2/\w.grownBy w' (some R):=by
 have QH:Hid (sK zs s=(⟨(sN zs s 4).1,(sN zs (sN zs s 4).2 4).1⟩,(sN zs (sN zs s 4).2 4).2)):=rfl;have H1:=hJ (fun (W:World) (hW:Rd W R G zs s.1 s.2)=>MP R G zs s W hW bp);have H2:=hJ (fun (W:World) (hW:Rd W R G zs (sN zs s 4).2.1 (sN zs s 4).2.2)=>MP R G zs (sN zs s 4).2 W hW bp);have n1:=tU zs s 4 bp;have n2:=tU zs (sN zs s 4).2 4 bp;generalize (sN zs (sN zs s 4).2 4).2=s2 at *;generalize (sN zs (sN zs s 4).2 4).1=y at *;generalize (sN zs s 4).2=s1 at *;generalize (sN zs s 4).1=x at *;have hx:x<4294967296:=n1;have hy:y<4294967296:=n2;have hRl:=h.lt;have ga:=World.grownBy_alloc w (.cells #[.int .i64 0,.int .i64 0] 69) none;have D0:=hJ (h.kept ga (by simp) (by simp));have U0:=hJ (Kx.new w (.int .i64 0) (.int .i64 0));have qG:=hJ ga;clear h ga n1 n2;go_enter Tryz.func255,Tryz.ntmps255
 go_wp2_with fail
 generalize w.alloc (.cells #[.int .i64 0,.int .i64 0] 69)=w1 at *;refine (H1.out _ D0.out).mono ?_;rintro en w2 ⟨rfl,hr2,hg2⟩;have D2:=hJ hr2;have U2:=hJ (U0.out.kept hg2 (fun e=>by have:=Option.some.inj e;omega));have G2:=hJ (gQ (bL qG.out) hg2);clear hr2 hg2 D0 U0 qG
 go_wp2_with fail
 refine (H2.out _ D2.out).mono ?_;rintro en w3 ⟨rfl,hr3,hg3⟩;have D3:=hJ hr3;have U3:=hJ (U2.out.kept hg3 (fun e=>by have:=Option.some.inj e;omega));have G3:=hJ (gQ G2.out hg3);clear hr3 hg3 D2 U2 G2;obtain ⟨c0,c1⟩:=U3.out.cells;have f0:=U3.out.frozen 0;have f1:=U3.out.frozen 1;have HD:=hJ ((U3.out.mJ (.int .i64 (x:Int))).rI (.int .i64 (y:Int)));have hg4:=gQ (ay w3 w.heap.size 0 (.int .i64 (x:Int))) (ay _ w.heap.size 1 (.int .i64 (y:Int)));have D4:=hJ (D3.out.kept hg4 (fun e=>by have:=Option.some.inj e;omega) (fun e=>by have:=Option.some.inj e;omega));have G4:=hJ (cN G3.out hg4 (Nat.le_refl _));clear hg4;go_wp2;refine bodyPost_ret (QY rfl _ _ w.heap.size _ _ rfl HD.out) rfl ?_;rw [QH.out];exact ⟨rfl,D4.out,G4.out⟩
theorem Eu (po:Option Addr)(pn pc:Nat)(P:List Int)(so:Option Addr)(sn sc:Nat)(X:List Int)(w:World)(hP:ai w po pn pc P)(hX:ai w so sn sc X)(h1:pn<=10000)(h2:sn<=10000) :
  Calls Tryz.prog 256 #[.slice po pn pc,.slice so sn sc] w fun en w'=>en=.returned (.slice (some ⟨w.heap.size,0,none⟩) (pn+sn) (pn+sn))/\Rw w' w.heap.size (P++X)/\w.grownBy w' none:=by
 obtain ⟨i0,hi,hz0,hz1,hz2⟩:=info_parts bF;have HP:=hJ hP;have HX:=hJ hX;have ZH:=hP.len;have hlX:=hX.len;have Dh:Hid (∀ ad,po=some ad->0<pn->ad.block<w.heap.size):=fun ad e h=>hP.lt e h
 have HBC:Hid (∀ ad,so=some ad->0<sn->ad.block<w.heap.size):=fun ad e h=>hX.lt e h
 clear hP hX;obtain ⟨Zr,hZr⟩:∃ Zr:List Int,Zr=List.replicate (pn+sn) 0:=⟨_,rfl⟩;have hfit:Hid (Zr.length=pn+sn):=by show _=_;rw [hZr,List.length_replicate]
 have HZR:=hJ hZr;clear hZr;go_enter Tryz.func256,Tryz.ntmps256
 go_wp2_with (at_make;refine wpList_make_full _ rfl _ _ 25 rfl w.heap.size 5 i0 (.int .u8 0) 1 Tryz.underlying25 hi hz0 hz1 _ _ _ _ (pn+sn) rfl rfl (by simp) (by simp) ?b2 ?b3 (Nat.le_refl _) ?_)
 case b2=>rw [hz2];omega
 case b3=>unfold maxLen;omega
 intro w3 iN hg3;rw [made] at iN
 have R3:Hid (Rt w3 w.heap.size 5 Zr):=by
  show Rt _ _ _ _
  rw [HZR.out];exact Rw.aP iN
 have G3:=hJ hg3;have P3:=hJ (HP.out.ae hg3);have X3:=hJ (HX.out.ae hg3);clear iN hg3 HP HX;obtain ⟨g,hg⟩:∃ g,w.heap.size=g:=⟨_,rfl⟩;have Jw:=hJ hg;rw [hg] at R3 Dh HBC;rw [hg];clear hg
 go_wp2_with (refine aS rfl _ _ rfl _ _ _ _ _ _ rfl rfl g 0 5 Zr P R3.out P3.out (by omega) (fun _=>rfl) (by rw [hfit.out];omega) ?_)
 intro w4 hr4 hg4 tP;have R4:=hJ hr4;have X4:=hJ (X3.out.kept hg4 (fun ad e h e2=>by have:=HBC.out ad e h;have:=Option.some.inj e2;omega));have G4:=hJ (af G3.out hg4 (by have:=Jw.out;omega));have yf:Hid ((splice Zr 0 P).length=pn+sn):=by show _=_;rw [aJ (by rw [hfit.out];omega)];exact hfit.out
 have HSF:Hid (splice (splice Zr 0 P) pn X=P++X):=by
  show _=_
  rw [<- ZH];exact kB (by rw [hfit.out,ZH,hlX])
 clear hr4 hg4 tP R3 X3 G3 P3 hlX;have g1:(0:Int)<=(pn:Int):=by omega
 have g2:(pn:Int)<=(pn:Int)+(sn:Int):=by omega
 by_cases h0:sn=0
 ·subst h0
  go_wp2_with (refine aS rfl _ _ rfl _ _ _ _ _ _ rfl rfl g pn 5 _ X R4.out X4.out (by omega) (fun h=>by omega) (by rw [yf.out];omega) ?_)
  intro w5 kz aK hs5;rw [HSF.out] at kz;have R5:=hJ kz;have G5:=hJ (af G4.out aK (by have:=Jw.out;omega));clear kz aK hs5;go_wp2;go_ret;rw [Jw.out];exact ⟨rfl,R5.out,G5.out⟩
 ·have Ae:¬ pn+sn=pn:=by omega
  go_wp2_with (refine aS rfl _ _ rfl _ _ _ _ _ _ rfl rfl g pn 5 _ X R4.out X4.out (by omega) (fun _=>rfl) (by rw [yf.out];omega) ?_)
  intro w5 kz aK hs5;rw [HSF.out] at kz;have R5:=hJ kz;have G5:=hJ (af G4.out aK (by have:=Jw.out;omega));clear kz aK hs5;go_wp2;go_ret;rw [Jw.out];exact ⟨rfl,R5.out,G5.out⟩
theorem results_tmp3 {fn:Func}{t u v:Tmp}(h:fn.results=#[.tmp t,.tmp u,.tmp v])(tmps:Array Value)(P:Program)(w:World) :
  (results fn tmps).run P w=.ok (.tuple #[tmps.getD t undef,tmps.getD u undef,tmps.getD v undef]) w:=by
 simp [results,h]
theorem gi {fn:Func}{t u v x:Tmp}(h:fn.results=#[.tmp t,.tmp u,.tmp v,.tmp x])(tmps:Array Value)(P:Program)(w:World) :
  (results fn tmps).run P w=.ok (.tuple #[tmps.getD t undef,tmps.getD u undef,tmps.getD v undef,tmps.getD x undef]) w:=by
 simp [results,h]
theorem cY {e t:TypeId}(ho:w.ownsRow base e sz v n xs){b:Nat}{cur:Array Value}(h1:w.heap[b]?=some (.cells cur t (0,0)))(ht:t≠e):some b≠v.ownBlock:=by
 intro e1;rcases ho.2 with ⟨rfl,_⟩ | ⟨g,cap,cur',rfl,_,hg,_⟩
 ·cases e1
 ·obtain rfl:b=g:=Option.some.inj e1
  rw [h1] at hg;simp only [Option.some.injEq,Obj.cells.injEq] at hg;exact ht hg.2.1
theorem GM {sz2:Nat}{e e2:TypeId}{n2:Nat}(ho:w.ownsRow base e sz v n xs)(hp:w.ownsRow BG e2 sz2 v2 n2 ys)(hne:e≠e2)(h0:0<n2):v.ownBlock≠v2.ownBlock:=by
 intro e1;rcases hp.2 with ⟨rfl,rfl⟩ | ⟨g,cap,cur',rfl,_,hg,_⟩
 ·omega
 ·exact cY ho hg (fun e=>hne e.symm) e1.symm
structure Sv (w:World)(base:Nat)(xs:List Value)(L:List (List Int)):Prop where
 len:xs.length=L.length
 el:∀ j,j<L.length->∃ g,xs[j]?=some (.slice (some ⟨g,0,none⟩) (L.getD j []).length (L.getD j []).length)/\Rw w g (L.getD j [])/\base<=g/\(L.getD j []).length<=20000
theorem Sv.lz (h:Sv w BG xs L)(ho:w.ownsRow base 25 1 v n xs):∃ a cap,v=.slice a n cap/\Lz w a L/\L.length=n/\n<=cap/\cap<=9223372036854775807:=by
 have hl:=h.len;have hn:L.length=n:=by have:=ho.1;omega
 rcases ho.2 with ⟨rfl,rfl⟩ | ⟨g,cap,cur,rfl,_,_,hc,hm,_⟩
 ·obtain rfl:L=[]:=List.length_eq_zero_iff.1 hn
  exact ⟨none,0,rfl,Lz.zero _ _,rfl,Nat.le_refl _,by omega⟩
 ·refine ⟨_,cap,rfl,⟨fun i hi=>?_⟩,hn,hc,by unfold maxLen at hm;omega⟩
  obtain ⟨g',h1,h2,h3,h4⟩:=h.el i hi;refine ⟨g,0,some ⟨g',0,none⟩,(L.getD i []).length,(L.getD i []).length,rfl,?_,h2.all _ _ rfl,Nat.le_refl _,by omega⟩;have:=ho.cellAt i (by omega);rw [Nat.zero_add,this];exact h1
def kc:List Kd->List Value
 | []=>[]
 | k::K=>.int .i64 k.no::.int .i64 k.keys::kc K
theorem uh:∀ K:List Kd,(kc K).length=K.length*2
 | []=>rfl
 | k::K=>by rw [kc,List.length_cons,List.length_cons,uh K,List.length_cons];omega
theorem sO:∀ (K:List Kd) (k:Kd),kc (K++[k])=kc K++[.int .i64 k.no,.int .i64 k.keys]
 | [],k=>rfl
 | x::K,k=>by rw [List.cons_append,kc,kc,sO K k];rfl
theorem Ev:∀ (K:List Kd) (i:Nat),i<K.length->(kc K)[i*2]?=some (.int .i64 (K.getD i dO).no)/\(kc K)[i*2+1]?=some (.int .i64 (K.getD i dO).keys)
 | k::K,0,_=>⟨rfl,rfl⟩
 | k::K,i+1,h=>by
  have:=Ev K i (by simpa using h);have e:(i+1)*2=i*2+1+1:=by omega
  rw [e];exact this
theorem NH {K:List Kd}(ho:w.ownsRow base 69 2 v n (kc K)):∃ a cap,v=.slice a n cap/\Kl w a K/\K.length=n/\n<=cap/\cap<=9223372036854775807:=by
 have hl:=uh K;have hn:K.length=n:=by have:=ho.1;omega
 rcases ho.2 with ⟨rfl,rfl⟩ | ⟨g,cap,cur,rfl,_,_,hc,hm,_⟩
 ·obtain rfl:K=[]:=List.length_eq_zero_iff.1 hn
  exact ⟨none,0,rfl,Kl.zero _ _,rfl,Nat.le_refl _,by omega⟩
 ·refine ⟨_,cap,rfl,⟨fun i hi=>?_⟩,hn,hc,by unfold maxLen at hm;omega⟩
  obtain ⟨h1,h2⟩:=Ev K i hi;refine ⟨g,0,rfl,?_,?_⟩
  ·rw [Nat.zero_add,ho.cellAt _ (by omega)];exact h1
  ·rw [Nat.zero_add,ho.cellAt _ (by omega)];exact h2
theorem gN{a b:World}(h:a.grownBy b (some R))(k:b.grownBy c row)(hr:∀ g,row=some g->a.heap.size<=g):a.grownBy c (some R) :=
 ⟨k.os.trans h.os,k.tape.trans h.tape,k.output.trans h.output,Nat.le_trans h.size k.size,
  fun i hi hne=>(k.block i (Nat.lt_of_lt_of_le hi h.size) (by intro e;have:=hr i e.symm;omega)).trans (h.block i hi hne)⟩
theorem kN:(Tryz.prog.info? 25).map (fun i=>(i.zero,i.size,i.bytes))=some (some (.slice none 0 0),1,24):=by kernel_rfl
theorem uj:(Tryz.prog.info? 69).map (fun i=>(i.zero,i.size,i.bytes))=some (some (.agg #[.int .i64 0,.int .i64 0]),2,16):=by kernel_rfl
theorem cell_one_new (w:World)(a:Value)(t:TypeId):∀ j u,[a][j]?=some u->(w.alloc (.cells #[a] t)).cell? ((⟨w.heap.size,0,none⟩:Addr).add j)=some u:=by
 intro j u hu;rw [Addr.add_lit,Nat.zero_add,cell_of_row _ w.heap.size j _ _ (0,0) (heap_alloc_new w _)];simpa using hu
theorem cell_two_new (w:World)(a b:Value)(t:TypeId):∀ j u,[a,b][j]?=some u->(w.alloc (.cells #[a,b] t)).cell? ((⟨w.heap.size,0,none⟩:Addr).add j)=some u:=by
 intro j u hu;rw [Addr.add_lit,Nat.zero_add,cell_of_row _ w.heap.size j _ _ (0,0) (heap_alloc_new w _)];simpa using hu
theorem yD (w:World)(base:Nat)(a b:Value)(hb:base<=w.heap.size):(w.alloc (.cells #[a,b] 69)).ownsRow base 69 2 (.slice (some ⟨w.heap.size,0,none⟩) 1 1) 1 [a,b] :=
 ⟨rfl,.inr ⟨w.heap.size,1,#[a,b],rfl,hb,heap_alloc_new w _,Nat.le_refl _,by unfold maxLen;omega,rfl,rfl⟩⟩
theorem NI:∀ {M M':List Sk},aj M=aj M'->M.map Sk.kid=M'.map Sk.kid->M=M'
 | [],[],_,_=>rfl
 | [],_::_,h,_=>by simp [aj] at h
 | _::_,[],h,_=>by simp [aj] at h
 | ⟨s,k⟩::M,⟨s',k'⟩::M',h,h2=>by
  simp only [aj,List.map_cons,List.cons.injEq] at h h2;obtain ⟨rfl,h⟩:=h;obtain ⟨rfl,h2⟩:=h2;rw [NI (M:=M) (M':=M') h h2]
theorem mN {k k':Kd}{M M':List Sk}(h:aj M=aj M')(h2:kids k M=kids k' M'):k=k'/\M=M':=by
 unfold kids at h2;injection h2 with e1 e2
 exact ⟨e1,NI h e2⟩
theorem aaE {zs:List Int}{s:Nat × Int}(h:(sK zs s).2.2=0):s.2=0/\s.1<=(sK zs s).2.1/\(sK zs s).2.1<=max s.1 zs.length:=by
 have h1:=MS (zs:=zs) (s:=(sN zs s 4).2) (k:=4) h;have h2:=MS (zs:=zs) (s:=s) (k:=4) h1.1;refine ⟨h2.1,?_,?_⟩
 ·exact Nat.le_trans h2.2.1 h1.2.1
 ·have:=h1.2.2
  have:=h2.2.2
  show (sN zs (sN zs s 4).2 4).2.1<=_
  omega
theorem NJ {s:Nat × Int}(hb:Bt zs)(h:(kD zs P s).2.2=0):s.1+1<=(kD zs P s).2.1/\(kD zs P s).2.1<=max s.1 zs.length:=by
 have h1:=aaE (zs:=zs) (s:=(aU zs P s).2) h;have h3:=MR (zs:=zs) (s:=(sV zs s).2) (m:=i64 (sV zs s).1) h1.1;have h4:=MQ hb h3.1;have e:(aU zs P s).2=(sB zs (sV zs s).2 (i64 (sV zs s).1)).2:=rfl;have e2:(kD zs P s).2=(sK zs (aU zs P s).2).2:=rfl;rw [e] at h1;rw [e2,e];omega
theorem xn (hb:Bt zs):∀ (n:Nat) (s:Nat × Int) (acc:List Sk),s.1<=zs.length->acc.length<=s.1->(iu zs P n s acc).length<=zs.length+1
 | 0,s,acc,h1,h2=>by rw [iu];omega
 | n+1,s,acc,h1,h2=>by
  rw [iu]
  split
  ·rename_i h0
   have h3:=NJ hb h0;exact xn hb n _ _ (by omega) (by simp;omega)
  ·simp;omega
theorem BO (hb:Bt zs)(hP:Bt P)(hl:P.length+zs.length<=10000):∀ (n:Nat) (s:Nat × Int) (acc:List Sk),(∀ x∈acc,Bt x.sep/\x.sep.length<=10000)->∀ x∈iu zs P n s acc,Bt x.sep/\x.sep.length<=10000
 | 0,_,_,h,x,hx=>h x hx
 | n+1,s,acc,h,x,hx=>by
  have hnew:∀ y∈acc++[(kD zs P s).1],Bt y.sep/\y.sep.length<=10000:=by
   intro y hy;rcases List.mem_append.1 hy with hy | hy
   ·exact h y hy
   ·obtain rfl:=List.mem_singleton.1 hy
    have h1:=Bn (zs:=zs) (sV zs s).2 (i64 (sV zs s).1) hb;refine ⟨hP.app h1.1,?_⟩
    show (P++_).length<=_
    rw [List.length_append];omega
  rw [iu] at hx
  split at hx
  ·exact BO hb hP hl n _ _ hnew x hx
  ·exact hnew x hx
theorem QZ (hb:Bt zs):Bt (jM zs).1/\(jM zs).1.length<=zs.length:=Bn _ _ hb
theorem Rb (hb:Bt zs):(pW zs).2.1<=zs.length:=Br (Br (xe (xe (Ul hb (Br (Br (xe (Nat.zero_le _))))))))
theorem Jx (hb:Bt zs)(hl:zs.length<=5000):∀ x∈fk zs,Bt x.sep/\x.sep.length<=10000:=by
 have h:=QZ hb;exact BO hb h.1 (by omega) _ _ _ (fun x hx=>by cases hx)
theorem Ew (hb:Bt zs):(fk zs).length<=zs.length+1:=xn hb _ _ _ (Rb hb) (Nat.zero_le _)
theorem Jy (hb:Bt zs)(hl:zs.length<=5000):Lb (aj (fk zs)):=by
 intro s hs;obtain ⟨x,hx,rfl⟩:=List.mem_map.1 hs;exact (Jx hb hl x hx).1
structure uk (zs:List Int)(lv:Int)(L:List (List Int))(K:List Kd)(e:Int):Prop where
 code:e=0∨e=50
 good:e=0->zs.length=4092/\∃ k M,L=aj M/\K=kids k M/\kC zs lv k M
 bad:e≠0->lv=0/\L=[]/\K=[]/\∀ lv k M,¬ kC zs lv k M
theorem kC.len {k:Kd}{M:List Sk}(h:kC zs lv k M):zs.length=4092:=by
 rw [<- h.2];exact gA (dy.1 h.1).size
theorem BQ (ao:Option Addr)(n c:Nat)(w:World)(h:n≠4092):Calls Tryz.prog 182 #[.slice ao n c] w fun en w'=>en=.returned (.tuple #[.int .i64 0,.slice none 0 0,.slice none 0 0,.int .i64 50])/\w'=w:=by
 go_enter Tryz.func182,Tryz.ntmps182;go_wp2
 (try simp only [Exit.inBlock,Exit.then]);refine bodyPost_ret (gi rfl _ _ _) rfl ?_
 exact ⟨rfl,rfl⟩
theorem NK (hl:L.length=M.length)(h:∀ j,j<L.length->L.getD j []=M.getD j []):L=M:=by
 refine List.ext_getElem hl fun j h1 h2=>?_
 have:=h j h1;simpa [List.getD,List.getElem?_eq_getElem h1,List.getElem?_eq_getElem h2] using this
theorem NL {L M:List Kd}(hl:L.length=M.length)(h:∀ j,j<L.length->L.getD j dO=M.getD j dO):L=M:=by
 refine List.ext_getElem hl fun j h1 h2=>?_
 have:=h j h1;simpa [List.getD,List.getElem?_eq_getElem h1,List.getElem?_eq_getElem h2] using this
theorem mb (a:Option Addr)(n cap:Nat)(L:List (List Int))(a':Option Addr)(n' cap':Nat)(M:List (List Int))(w:World)(hl:Lz w a L)(hb:Lb L)(hn:L.length=n)(hl':Lz w a' M)(hb':Lb M)(hn':M.length=n')(hm:n<=9223372036854775807) :
  Calls Tryz.prog 31 #[.slice a n cap,.slice a' n' cap'] w fun en w'=>(∃ b,en=.returned (.bool b)/\(b=true↔L=M))/\Qt w w':=by
 have HL:=hJ hl;have HM:=hJ hl';have HB:=hJ hb;have HB':=hJ hb';clear hl hl' hb hb'
 by_cases h1:n=n'
 ·subst h1
  go_enter Tryz.func31,Tryz.ntmps31;go_wp2;go_loopw [5,6] (fun si _ wr=>∃ i:Nat,i<=n/\si=.int .i64 i/\(∀ j,j<i->L.getD j []=M.getD j [])/\Qt w wr) (fun si _ _=>n - (intOf si).toNat)
  case atStart=>exact ⟨0,Nat.zero_le _,rfl,fun j hj=>by omega,Qt.refl _⟩
  case round =>
   obtain ⟨i,hi,rfl,ha,hq⟩:=hrel;have HA:=hJ ha;have HQ:=hJ hq;clear ha hq
   by_cases hlt:i<n
   ·obtain ⟨b1,off,ao,k,c,rfl,q2,q3,q4,q5⟩:=HL.out.row i (by omega)
    obtain ⟨b2,Ju,Ac,k2,c2,rfl,r2,r3,r4,r5⟩:=HM.out.row i (by omega);have c0:=(HQ.out.cell _).trans q2;have c1:=(HQ.out.cell _).trans r2;have g1:(i:Int)<(n:Int):=by omega
    have g0:(0:Int)<=(i:Int):=by omega
    by_cases he:L.getD i []=M.getD i []
    ·have HC:=hJ (fun (W:World) (hW:W.heap=wr.heap)=>cw ao Ac k k2 c c2 _ _ W (q3.heap (hW.trans HQ.out.heap)) (r3.heap (hW.trans HQ.out.heap)) he)
     have jK:Hid (∀ j,j<i+1->L.getD j []=M.getD j []):=by
      intro j hj
      by_cases e:j=i
      ·subst e;exact he
      ·exact HA.out j (by omega)
     clear q2 q3 r2 r3 he;go_wp2
     go_quiet ((go_at_call 11;exact Calls.quiet_of_same (HC.out _ rfl)))
     go_wp2;go_roundw
     case rel=>exact ⟨i+1,by omega,by go_num,jK.out,HQ.out.trans (Qt.drewN _ _)⟩
     case measure=>simp [intOf];omega
    ·have HC:=hJ (fun (W:World) (hW:W.heap=wr.heap)=>lu ao Ac k k2 c c2 _ _ W (q3.heap (hW.trans HQ.out.heap)) (r3.heap (hW.trans HQ.out.heap)) (HB.out _ (cS (by omega))) (HB'.out _ (cS (by omega))) he)
     have jK:Hid (¬ L=M):=fun e=>he (by rw [e])
     clear q2 q3 r2 r3 he;go_wp2
     go_quiet ((go_at_call 11;exact Calls.quiet_of_same (HC.out _ rfl)))
     go_wp2;go_ret;exact ⟨⟨false,rfl,by simp [jK.out]⟩,HQ.out.trans (Qt.drewN _ _)⟩
   ·have hin:i=n:=by omega
    subst hin;have HT:Hid (L=M):=NK (by omega) (fun j hj=>HA.out j (by omega));go_wp2;go_ret;exact ⟨⟨true,rfl,by simp [HT.out]⟩,HQ.out⟩
 ·have jK:Hid (¬ L=M):=fun e=>h1 (by rw [<- hn,<- hn',e])
  have yE:¬ (n:Int)=(n':Int):=by omega
  go_enter Tryz.func31,Tryz.ntmps31;go_wp2;go_ret;exact ⟨⟨false,rfl,by simp [jK.out]⟩,Qt.refl _⟩
theorem oh (a:Option Addr)(n cap:Nat)(L:List Kd)(a':Option Addr)(n' cap':Nat)(M:List Kd)(w:World)(hl:Kl w a L)(hn:L.length=n)(hl':Kl w a' M)(hn':M.length=n')(hm:n<=9223372036854775807) :
  Calls Tryz.prog 32 #[.slice a n cap,.slice a' n' cap'] w fun en w'=>(∃ b,en=.returned (.bool b)/\(b=true↔L=M))/\Qt w w':=by
 have HL:=hJ hl;have HM:=hJ hl';clear hl hl'
 by_cases h1:n=n'
 ·subst h1
  go_enter Tryz.func32,Tryz.ntmps32;go_wp2;go_loopw [5] (fun si wr=>∃ i:Nat,i<=n/\si=.int .i64 i/\(∀ j,j<i->L.getD j dO=M.getD j dO)/\Qt w wr) (fun si _=>n - (intOf si).toNat)
  case atStart=>exact ⟨0,Nat.zero_le _,rfl,fun j hj=>by omega,Qt.refl _⟩
  case round =>
   obtain ⟨i,hi,rfl,ha,hq⟩:=hrel;have HA:=hJ ha;have HQ:=hJ hq;clear ha hq
   by_cases hlt:i<n
   ·obtain ⟨b1,off,rfl,q2,q3⟩:=HL.out.row i (by omega)
    obtain ⟨b2,Ju,rfl,r2,r3⟩:=HM.out.row i (by omega);have c0:=(HQ.out.cell _).trans q2;have c1:=(HQ.out.cell _).trans r2;have c2:=(HQ.out.cell _).trans q3;have c3:=(HQ.out.cell _).trans r3;have g1:(i:Int)<(n:Int):=by omega
    have g0:(0:Int)<=(i:Int):=by omega
    have HE:Hid (L.getD i dO=M.getD i dO↔(L.getD i dO).no=(M.getD i dO).no/\(L.getD i dO).keys=(M.getD i dO).keys):=by
     show _↔_
     generalize L.getD i dO=x;generalize M.getD i dO=y;cases x;cases y;simp
    have HX:Hid (L.getD i dO=M.getD i dO->∀ j,j<i+1->L.getD j dO=M.getD j dO):=by
     intro h j hj
     by_cases e:j=i
     ·subst e;exact h
     ·exact HA.out j (by omega)
    have HY:Hid (¬ L.getD i dO=M.getD i dO->¬ L=M):=fun h e=>h (by rw [e])
    clear q2 q3 r2 r3;rw [HE.out] at HX HY;clear HE;generalize (L.getD i dO).no=n1 at *;generalize (L.getD i dO).keys=k1 at *;generalize (M.getD i dO).no=n2 at *;generalize (M.getD i dO).keys=k2 at *
    by_cases e1:n1=n2
    ·subst e1
     by_cases e2:k1=k2
     ·subst e2
      have jK:=hJ (HX.out ⟨rfl,rfl⟩);clear HX HY;go_wp2
      go_quiet (fail)
      go_wp2;go_roundw
      case rel=>exact ⟨i+1,by omega,by go_num,jK.out,HQ.out.trans (Qt.drewN _ _)⟩
      case measure=>simp [intOf];omega
     ·have lR:=hJ (HY.out (fun h=>e2 h.2))
      have d2:decide (k1=k2)=false:=decide_eq_false e2;have d3:(k1==k2)=false:=beq_eq_false_iff_ne.2 e2;clear HX HY;go_wp2
      go_quiet (fail)
      go_wp2;go_ret;exact ⟨⟨false,rfl,by simp [lR.out]⟩,HQ.out.trans (Qt.drewN _ _)⟩
    ·have lR:=hJ (HY.out (fun h=>e1 h.1))
     have d2:decide (n1=n2)=false:=decide_eq_false e1;have d3:(n1==n2)=false:=beq_eq_false_iff_ne.2 e1;clear HX HY;go_wp2
     go_quiet (fail)
     go_wp2;go_ret;exact ⟨⟨false,rfl,by simp [lR.out]⟩,HQ.out.trans (Qt.drewN _ _)⟩
   ·have hin:i=n:=by omega
    subst hin;have HT:Hid (L=M):=NL (by omega) (fun j hj=>HA.out j (by omega));go_wp2;go_ret;exact ⟨⟨true,rfl,by simp [HT.out]⟩,HQ.out⟩
 ·have jK:Hid (¬ L=M):=fun e=>h1 (by rw [<- hn,<- hn',e])
  have yE:¬ (n:Int)=(n':Int):=by omega
  go_enter Tryz.func32,Tryz.ntmps32;go_wp2;go_ret;exact ⟨⟨false,rfl,by simp [jK.out]⟩,Qt.refl _⟩
theorem bu {ops:Array Oper}{o:Oper}{a:Act}{K:Act->World->Prop}{Q:Exit->Act->World->Prop}{E:Prop}(hgd:o.guard=none)(s x:Operand)(t:TypeId)
  (ho:o.op=.call { callee:=.builtin .append,args:=#[s,x],argTypes:=#[t,t] })
  (base:Nat) (e:TypeId) (i:TypeInfo) (z:Value) (size bytes:Nat) (ht:Tryz.prog.underlying t=some (.slice e)) (hi:Tryz.prog.info? e=some i) (hz:i.zero=some z) (hsize:i.size=size) (hby:i.bytes=bytes) (hzs:z.cells.size=size) (hsz:0<size)
  (v:Value) (n:Nat) (xs:List Value) (hs:a.eval s=v) (hown:w.ownsRow base e size v n xs)
  (ad:Addr) (m c:Nat) (news:List Value) (hx:a.eval x=.slice (some ad) m c) (hl:news.length=m*size) (hnews:∀ j u,news[j]?=some u->w.cell? (ad.add j)=some u) (h1:∀ u∈news,u.oneCell'=true)
  (h63:n+m<=maxLen) (hbytes:(n+m)*bytes<=140737488355328) (hbase:base<=w.heap.size)
  (h:∀ v' w',w'.ownsRow base e size v' (n+m) (xs++news)->w.grownBy w' v.ownBlock->K (a.put o.dst v') w') :
  if Region.wanted o (yielded ops a.tmps)=true then Oper.wp Tryz.prog o a w K Q else E:=by
 have hw:Region.wanted o (yielded ops a.tmps)=true:=by simp [Region.wanted,hgd]
 rw [if_pos hw];obtain ⟨v',w',hrun,r1,r2,_⟩:=run_append_own (P:=Tryz.prog) w base t o.type e i z size bytes ht hi hz hsize hby hzs hsz v n xs hown ad m c news hl hnews h1 h63 hbytes hbase;unfold Oper.wp;simp [execOp,ho,resolve,invoke,builtin,hs,hx,hrun,Result.andThen];exact h v' w' r1 r2
structure Sx (w:World)(xs:List Value)(M:List (List Int)):Prop where
 len:xs.length=M.length
 el:∀ j,j<M.length->∃ b v,xs[j]?=some v/\w.ownsRow b 5 1 v (M.getD j []).length ((M.getD j []).map (Value.int .u8))
theorem Sx.nil (w:World):Sx w [] []:=⟨rfl,fun j hj=>by simp at hj⟩
theorem Sx.kept {vl:Value}(h:Sx w xs M)(hg:w.grownBy w' vl.ownBlock)(ho:w.ownsRow base 25 sz vl n ys):Sx w' xs M:=by
 refine ⟨h.len,fun j hj=>?_⟩;obtain ⟨b,v,h1,h2⟩:=h.el j hj;refine ⟨b,v,h1,h2.kept hg ?_⟩;rcases h2.2 with ⟨rfl,_⟩ | ⟨g,cap,cur',rfl,_,YP,_⟩
 ·exact .inl rfl
 ·exact .inr (cY ho YP (by decide))
theorem Sx.ae (h:Sx w xs M)(hg:w.grownBy w' none):Sx w' xs M:=by
 refine ⟨h.len,fun j hj=>?_⟩;obtain ⟨b,v,h1,h2⟩:=h.el j hj;exact ⟨b,v,h1,h2.kept hg (by cases v.ownBlock with | none=>exact .inl rfl | some g=>exact .inr (by simp))⟩
theorem Sx.snoc {b:Nat}(h:Sx w xs M)(h1:w.ownsRow b 5 1 v n (x.map (Value.int .u8)))(hn:x.length=n):Sx w (xs++[v]) (M++[x]):=by
 have hl:=h.len;refine ⟨by simp [hl],fun j hj=>?_⟩;rw [List.length_append] at hj;simp only [List.length_cons,List.length_nil] at hj
 by_cases e:j<M.length
 ·obtain ⟨b,v,k1,k2⟩:=h.el j e
  have eg:(M++[x]).getD j []=M.getD j []:=by simp [List.getD,List.getElem?_append_left e]
  rw [eg];exact ⟨b,v,by rw [List.getElem?_append_left (by omega)];exact k1,k2⟩
 ·obtain rfl:j=M.length:=by omega
  have eg:(M++[x]).getD M.length []=x:=by simp [List.getD]
  rw [eg,hn];exact ⟨b,v,by rw [List.getElem?_append_right (by omega),hl,Nat.sub_self];rfl,h1⟩
theorem ul{a b:World}(h:a.grownBy b none)(k:b.grownBy c row)(hr:∀ g,row=some g->a.heap.size<=g):a.grownBy c none :=
 ⟨k.os.trans h.os,k.tape.trans h.tape,k.output.trans h.output,Nat.le_trans h.size k.size,
  fun i hi hne=>(k.block i (Nat.lt_of_lt_of_le hi h.size) (by intro e;have:=hr i e.symm;omega)).trans (h.block i hi hne)⟩
structure Su (w:World)(base top:Nat)(xs:List Value)(L:List (List Int)):Prop where
 len:xs.length=L.length
 ex:∃ gf:Nat->Nat,(∀ j,j<L.length->xs[j]?=some (.slice (some ⟨gf j,0,none⟩) (L.getD j []).length (L.getD j []).length)/\Rw w (gf j) (L.getD j [])/\base<=gf j/\(L.getD j []).length<=20000/\gf j<top)/\∀ j j',j<j'->j'<L.length->gf j<gf j'
theorem Su.sv (h:Su w base top xs L):Sv w base xs L:=by
 obtain ⟨gf,h1,_⟩:=h.ex;exact ⟨h.len,fun j hj=>⟨gf j,(h1 j hj).1,(h1 j hj).2.1,(h1 j hj).2.2.1,(h1 j hj).2.2.2.1⟩⟩
theorem Su.nil (w:World)(base top:Nat):Su w base top [] []:=⟨rfl,fun _=>0,fun j hj=>by simp at hj,fun j j' _ hj=>by simp at hj⟩
theorem Su.kept {row:Option Nat}(h:Su w base top xs L)(hg:w.grownBy w' row)(hne:∀ (g:Nat) (zs:List Int),base<=g->Rw w g zs->some g≠row):Su w' base top xs L:=by
 obtain ⟨gf,h1,h2⟩:=h.ex;refine ⟨h.len,gf,fun j hj=>?_,h2⟩;obtain ⟨k1,k2,k3,k4,k5⟩:=h1 j hj;exact ⟨k1,k2.kept hg (hne _ _ k3 k2),k3,k4,k5⟩
theorem Su.ae {base:Nat}(h:Su w base top xs L)(hg:w.grownBy w' none):Su w' base top xs L:=h.kept hg (fun _ _ _ _=>by simp)
theorem Su.raise (h:Su w base top xs L):Su w base w.heap.size xs L:=by
 obtain ⟨gf,h1,h2⟩:=h.ex;exact ⟨h.len,gf,fun j hj=>⟨(h1 j hj).1,(h1 j hj).2.1,(h1 j hj).2.2.1,(h1 j hj).2.2.2.1,(h1 j hj).2.1.lt⟩,h2⟩
theorem Su.snoc (h:Su w base top xs L)(hx:Rw w g x)(hn:x.length=n)(hb:base<=g)(hm:n<=20000)(ht:top<=g):Su w base (g+1) (xs++[.slice (some ⟨g,0,none⟩) n n]) (L++[x]):=by
 have hl:=h.len;obtain ⟨gf,h1,h2⟩:=h.ex;refine ⟨by simp [hl],fun j=>if j<L.length then gf j else g,fun j hj=>?_,fun j j' hjj hj'=>?_⟩
 ·rw [List.length_append] at hj
  simp only [List.length_cons,List.length_nil] at hj
  by_cases e:j<L.length
  ·obtain ⟨k1,k2,k3,k4,k5⟩:=h1 j e
   have eg:(L++[x]).getD j []=L.getD j []:=by simp [List.getD,List.getElem?_append_left e]
   rw [eg];simp only [if_pos e];exact ⟨by rw [List.getElem?_append_left (by omega)];exact k1,k2,k3,k4,by omega⟩
  ·obtain rfl:j=L.length:=by omega
   have eg:(L++[x]).getD L.length []=x:=by simp [List.getD]
   rw [eg,hn];simp only [if_neg e];exact ⟨by rw [List.getElem?_append_right (by omega),hl,Nat.sub_self];rfl,hx,hb,hm,by omega⟩
 ·rw [List.length_append] at hj'
  simp only [List.length_cons,List.length_nil] at hj'
  by_cases e:j'<L.length
  ·simp only [if_pos e,if_pos (show j<L.length by omega)]
   exact h2 j j' hjj e
  ·simp only [if_neg e,if_pos (show j<L.length by omega)]
   have:=(h1 j (by omega)).2.2.2.2;omega
structure Bp (w w':World)(a:Option Addr)(n cap:Nat)(b:Option Addr)(m bh:Nat)(L:List (List Int))(K:List Kd):Prop where
 ex:∃ b1 xs top,w.heap.size<=b1/\w'.ownsRow b1 25 1 (.slice a n cap) n xs/\Su w' b1 top xs L/\w'.ownsRow b1 69 2 (.slice b m bh) m (kc K)
theorem Bp.zero (w w':World):Bp w w' none 0 0 none 0 0 [] []:=⟨w.heap.size,[],0,Nat.le_refl _,⟨rfl,.inl ⟨rfl,rfl⟩⟩,Su.nil _ _ _,⟨rfl,.inl ⟨rfl,rfl⟩⟩⟩
theorem Bp.ae{w'':World}{a:Option Addr}{b:Option Addr}{K:List Kd}(h:Bp w w' a n cap b m bh L K)(hg:w'.grownBy w'' none):Bp w w'' a n cap b m bh L K:=by
 obtain ⟨b1,xs,top,h1,h2,h3,h4⟩:=h.ex;exact ⟨b1,xs,top,h1,h2.kept hg (by cases (Value.slice a n cap).ownBlock <;> simp),h3.ae hg,h4.kept hg (by cases (Value.slice b m bh).ownBlock <;> simp)⟩
theorem Bp.from{w0:World}{a:Option Addr}{b:Option Addr}{K:List Kd}(h:Bp w w' a n cap b m bh L K)(hs:w0.heap.size<=w.heap.size):Bp w0 w' a n cap b m bh L K:=by
 obtain ⟨b1,xs,top,h1,h2,h3,h4⟩:=h.ex;exact ⟨b1,xs,top,by omega,h2,h3,h4⟩
structure Bo (w wr:World)(R G base:Nat)(po:Option Addr)(pn:Nat)(zs P:List Int)(i j:Nat)(st:Nat × Int)(M:List (List Int))(K:List Kd)(v v2:Value)(xs:List Value)(top:Nat):Prop where
 rd:Rd wr R G zs st.1 st.2
 pb:ai wr po pn pn P
 own:wr.ownsRow base 25 1 v i xs
 bi:wr.ownsRow base 69 2 v2 j (kc K)
 sv:Su wr base top xs M
 gr:w.grownBy wr (some R)
 far:R<base/\G<base/\w.heap.size<=base/\base<=wr.heap.size
 pg:∀ ad,po=some ad->0<pn->ad.block=G
 len:M.length=i/\0<j
theorem Bo.call {Bl:Nat × Int}{K:List Kd}(h:Bo w wr R G base po pn zs P i j st M K v v2 xs top)(hr:Rd w' R G zs Bl.1 Bl.2)(hg:wr.grownBy w' (some R)):Bo w w' R G base po pn zs P i j Bl M K v v2 xs top:=by
 have hne:v.ownBlock≠some R:=fun e=>by have:=(h.own.lt R e).1;have:=h.far.1;omega
 have aeH:v2.ownBlock≠some R:=fun e=>by have:=(h.bi.lt R e).1;have:=h.far.1;omega
 exact ⟨hr,h.pb.kept hg (fun ad e hn e2=>by have:=h.pg ad e hn;have:=Option.some.inj e2;have:=h.rd.ne;omega),h.own.kept hg (.inr hne),h.bi.kept hg (.inr aeH),h.sv.kept hg (fun g _ hb _ e=>by have:=Option.some.inj e;have:=h.far.1;omega),gQ h.gr hg,⟨h.far.1,h.far.2.1,h.far.2.2.1,Nat.le_trans h.far.2.2.2 hg.size⟩,h.pg,h.len⟩
theorem Bo.ae {R G base:Nat}{K:List Kd}(h:Bo w wr R G base po pn zs P i j st M K v v2 xs top)(hg:wr.grownBy w' none):Bo w w' R G base po pn zs P i j st M K v v2 xs top :=
 h.call (h.rd.kept hg (by simp) (by simp)) (bL hg)
theorem Bo.Wo {K:List Kd}{v':Value}(h:Bo w wr R G base po pn zs P i j st M K v v2 xs top)(hx:Rw wr g x)(hn:x.length=n)(hb:base<=g)(hm:n<=20000)(ht:top<=g)
  (ho:w'.ownsRow base 25 1 v' (i+1) (xs++[.slice (some ⟨g,0,none⟩) n n])) (hg:wr.grownBy w' v.ownBlock):Bo w w' R G base po pn zs P (i+1) j st (M++[x]) K v' v2 (xs++[.slice (some ⟨g,0,none⟩) n n]) (g+1):=by
 have hk:∀ k,k<base->some k≠v.ownBlock:=fun k hk e=>by have:=(h.own.lt k e.symm).1;omega
 have hrw:∀ (g:Nat) (zs:List Int),base<=g->Rw wr g zs->some g≠v.ownBlock:=fun g zs _ hr=>cY h.own hr (by decide)
 have h2:v2.ownBlock≠v.ownBlock:=GM h.own h.bi (by decide) h.len.2 |> fun q e=>q e.symm
 exact ⟨h.rd.kept hg (hk R h.far.1) (hk G h.far.2.1),h.pb.kept hg (fun ad e hn=>by rw [h.pg ad e hn];exact hk G h.far.2.1),ho,h.bi.kept hg (.inr h2),(h.sv.kept hg hrw).snoc (hx.kept hg (hrw g x hb hx)) hn hb hm ht,gN h.gr hg (fun g e=>by have:=(h.own.lt g e).1;have:=h.far.2.2.1;omega),⟨h.far.1,h.far.2.1,h.far.2.2.1,Nat.le_trans h.far.2.2.2 hg.size⟩,h.pg,by simp [h.len.1],h.len.2⟩
theorem Bo.Wp {K:List Kd}{v2':Value}(h:Bo w wr R G base po pn zs P i j st M K v v2 xs top)(k:Kd)
  (ho:w'.ownsRow base 69 2 v2' (j+1) (kc K++[.int .i64 k.no,.int .i64 k.keys])) (hg:wr.grownBy w' v2.ownBlock):Bo w w' R G base po pn zs P i (j+1) st M (K++[k]) v v2' xs top:=by
 have hk:∀ k,k<base->some k≠v2.ownBlock:=fun k hk e=>by have:=(h.bi.lt k e.symm).1;omega
 have hrw:∀ (g:Nat) (zs:List Int),base<=g->Rw wr g zs->some g≠v2.ownBlock:=fun g zs _ hr=>cY h.bi hr (by decide)
 have h2:v.ownBlock≠v2.ownBlock:=GM h.own h.bi (by decide) h.len.2;exact ⟨h.rd.kept hg (hk R h.far.1) (hk G h.far.2.1),h.pb.kept hg (fun ad e hn=>by rw [h.pg ad e hn];exact hk G h.far.2.1),h.own.kept hg (.inr h2),by rw [sO];exact ho,h.sv.kept hg hrw,gN h.gr hg (fun g e=>by have:=(h.bi.lt g e).1;have:=h.far.2.2.1;omega),⟨h.far.1,h.far.2.1,h.far.2.2.1,Nat.le_trans h.far.2.2.2 hg.size⟩,h.pg,h.len.1,Nat.succ_pos _⟩
theorem Bo.raise {K:List Kd}(h:Bo w wr R G base po pn zs P i j st M K v v2 xs top):Bo w wr R G base po pn zs P i j st M K v v2 xs wr.heap.size :=
 ⟨h.rd,h.pb,h.own,h.bi,h.sv.raise,h.gr,h.far,h.pg,h.len⟩
theorem Jz (R G:Nat)(zs:List Int)(w:World)(h:Rd w R G zs 0 0)(bp:Bt zs)(hz:zs.length<=5000) :
  Calls Tryz.prog 204 #[.pointer (some ⟨R,0,none⟩)] w fun en w'=>(∃ a n cap b m bh,en=.returned (.tuple #[.int .i64 ((eC zs).1:Nat),.slice a n cap,.slice b m bh])/\Lz w' a (aj (fk zs))/\Kl w' b (kids (pW zs).1 (fk zs))/\(fk zs).length=n/\m=n+1/\n<=cap/\cap<=9223372036854775807/\m<=bh/\bh<=9223372036854775807/\Bp w w' a n cap b m bh (aj (fk zs)) (kids (pW zs).1 (fk zs)))/\w.grownBy w' (some R):=by
 obtain ⟨i0,hi,hz0,hz1,hz2⟩:=info_parts kN;obtain ⟨i1,jN,hy0,vL,jE⟩:=info_parts uj;have Ya:Hid (fk zs=iu zs (jM zs).1 ((cy zs).1 - 1) (pW zs).2 []):=rfl;have H1:=hJ (yh R G zs (0,0) 1 w h);have H2:=hJ (fun (W:World) (hW:Rd W R G zs (sB zs (0,0) 1).2.1 (sB zs (0,0) 1).2.2)=>ZI R G zs (sB zs (0,0) 1).2 W hW bp);have e2:sN zs (sB zs (0,0) 1).2 1=eC zs:=rfl;rw [e2] at H2;have H3:=hJ (fun (W:World) (hW:Rd W R G zs (eC zs).2.1 (eC zs).2.2)=>Uk R G zs (eC zs).2 W hW bp);have e3:sN zs (eC zs).2 2=cy zs:=rfl;rw [e3] at H3;have H4:=hJ (fun (W:World) (hW:Rd W R G zs (cy zs).2.1 (cy zs).2.2)=>kM R G zs (cy zs).2 W hW bp);have e4:aU zs [] (cy zs).2=jM zs:=rfl;rw [e4] at H4;have H5:=hJ (fun (W:World) (hW:Rd W R G zs (jM zs).2.1 (jM zs).2.2)=>yh R G zs (jM zs).2 (2*((cy zs).1 - 1:Int)) W hW);have H6:=hJ (fun (W:World) (hW:Rd W R G zs (sB zs (jM zs).2 (2*((cy zs).1 - 1:Int))).2.1 (sB zs (jM zs).2 (2*((cy zs).1 - 1:Int))).2.2)=>qP R G zs (sB zs (jM zs).2 (2*((cy zs).1 - 1:Int))).2 W hW bp);have e6:sK zs (sB zs (jM zs).2 (2*((cy zs).1 - 1:Int))).2=pW zs:=rfl;rw [e6] at H6;have n1:=tU zs (sB zs (0,0) 1).2 1 bp;rw [e2] at n1;have n2:=tU zs (eC zs).2 2 bp;rw [e3] at n2;clear e2 e3 e4 e6;generalize fk zs=BP at *;generalize (sB zs (jM zs).2 (2*((cy zs).1 - 1:Int))).2=s5 at *;generalize (pW zs).2=s6 at *;generalize (pW zs).1=k at *;generalize (jM zs).2=s4 at *;generalize (jM zs).1=P at *;generalize (cy zs).2=s3 at *;generalize (cy zs).1=N at *;generalize (eC zs).2=s2 at *;generalize (eC zs).1=lv at *;generalize (sB zs (0,0) 1).2=s1 at *;have hN:N<65536:=n2;have hlv:lv<256:=n1;have eT:=hJ h.ne;clear h n1 n2;go_enter Tryz.func204,Tryz.ntmps204
 go_wp2_with fail
 refine H1.out.mono ?_;rintro en w1 ⟨⟨_,_,rfl,_,_,_⟩,hr1,hg1⟩;have D1:=hJ hr1;have G1:=hJ hg1;clear hr1 hg1 H1
 go_wp2_with fail
 refine (H2.out _ D1.out).mono ?_;rintro en w2 ⟨rfl,hr2,hg2⟩;have D2:=hJ hr2;have G2:=hJ (gQ G1.out hg2);clear hr2 hg2 H2 D1 G1
 go_wp2_with fail
 refine (H3.out _ D2.out).mono ?_;rintro en w3 ⟨rfl,hr3,hg3⟩;have D3:=hJ hr3;have G3:=hJ (gQ G2.out hg3);clear hr3 hg3 H3 D2 G2
 go_wp2_with fail
 refine (H4.out _ D3.out).mono ?_;rintro en w4 ⟨⟨po,pn,rfl,hb4,hpo,wj⟩,hr4,hg4⟩;have D4:=hJ hr4;have B4:=hJ hb4;have PO:=hJ hpo;have G4:=hJ (gQ G3.out hg4);clear hr4 hg4 hb4 hpo H4 D3 G3
 go_wp2_with fail
 refine (H5.out _ D4.out).mono ?_;rintro en w5 ⟨⟨_,_,rfl,_,_,_⟩,kz,aK⟩;have D5:=hJ kz;have B5:=hJ (B4.out.kept aK (fun ad e h e2=>by obtain ⟨q,hq⟩:=PO.out h;rw [e] at hq;obtain rfl:=Option.some.inj hq;exact eT.out (Option.some.inj e2)));have G5:=hJ (gQ G4.out aK);clear kz aK H5 D4 B4 G4
 go_wp2_with fail
 refine (H6.out _ D5.out).mono ?_;rintro en w6 ⟨rfl,ku,bE⟩;have D6:=hJ ku;have B6:=hJ (B5.out.kept bE (fun ad e h e2=>by obtain ⟨q,hq⟩:=PO.out h;rw [e] at hq;obtain rfl:=Option.some.inj hq;exact eT.out (Option.some.inj e2)));have G6:=hJ (gQ G5.out bE);clear ku bE H6 D5 B5 G5;obtain ⟨no,hno⟩:∃ no,k.no=no:=⟨_,rfl⟩;obtain ⟨ks,hks⟩:∃ ks,k.keys=ks:=⟨_,rfl⟩;rw [hno,hks];have HKC:Hid (kc [k]=[.int .i64 no,.int .i64 ks]):=by show _=_;rw [<- hno,<- hks];rfl
 clear hno hks;have ga:=World.grownBy_alloc w6 (.cells #[.int .i64 no,.int .i64 ks] 69) none
 have PJ:Hid (Bo w (w6.alloc (.cells #[.int .i64 no,.int .i64 ks] 69)) R G w6.heap.size po pn zs P 0 1 s6 [] [k] (.slice none 0 0) (.slice (some ⟨w6.heap.size,0,none⟩) 1 1) [] 0) :=
  ⟨D6.out.kept ga (by simp) (by simp),B6.out.ae ga,⟨rfl,.inl ⟨rfl,rfl⟩⟩,by rw [HKC.out];exact yD w6 w6.heap.size _ _ (Nat.le_refl _),Su.nil _ _ _,gQ G6.out (bL ga),⟨D6.out.lt.1,D6.out.lt.2,G6.out.size,by simp⟩,fun ad e h=>by obtain ⟨q,hq⟩:=PO.out h;rw [e] at hq;obtain rfl:=Option.some.inj hq;rfl,rfl,by omega⟩
 clear ga D6 B6 G6;go_wp2;generalize w6.alloc (.cells #[.int .i64 no,.int .i64 ks] 69)=w7 at *;obtain ⟨base,hbase⟩:∃ base,w6.heap.size=base:=⟨_,rfl⟩;rw [hbase] at PJ;rw [hbase];clear hbase;have hcast:((2:Int)*((N:Int) - 1))=2*((N:Int) - 1):=rfl;clear hcast;go_loopw [8,9,10,11,31] (fun sk ss _ _ si wr=>∃ (i:Nat) (st:Nat × Int) (M:List Sk) (xs:List Value) (top:Nat),i<=N/\si=.int .i64 i/\iu zs P (N - 1 - i) st M=BP/\M.length=i/\i<=N - 1/\Bo w wr R G base po pn zs P i (i+1) st (aj M) (kids k M) ss sk xs top) (fun _ _ _ _ si _=>N - (intOf si).toNat)
 case atStart=>exact ⟨0,s6,[],[],0,Nat.zero_le _,rfl,Ya.out.symm,rfl,Nat.zero_le _,PJ.out⟩
 case round =>
  rename_i sk ss _ _ si wr;obtain ⟨i,st,M,xs,top,hi',rfl,El,hml,ako,hrn⟩:=hrel;have qN:=hJ hrn;have LM:=hJ El;have pC:=hJ hml;clear El hrn PJ Ya hml
  by_cases hlt:i<N - 1
  ·have g1:(i:Int)<(N:Int) - 1:=by omega
   have H8:=hJ (kM R G zs st wr qN.out.rd bp);have H9:=hJ (fun (W:World) (hW:Rd W R G zs (aU zs [] st).2.1 (aU zs [] st).2.2)=>qP R G zs (aU zs [] st).2 W hW bp)
   have yy:Hid (BP=if (sK zs (aU zs [] st).2).2.2=0 then iu zs P (N - 1 - (i+1)) (sK zs (aU zs [] st).2).2 (M++[⟨P++(aU zs [] st).1,(sK zs (aU zs [] st).2).1⟩]) else M++[⟨P++(aU zs [] st).1,(sK zs (aU zs [] st).2).1⟩]):=by
    show _=_
    rw [<- LM.out,show N - 1 - i=(N - 1 - (i+1))+1 by omega,iu]
    rfl
   clear LM;generalize (sK zs (aU zs [] st).2).2=st2 at *;generalize (sK zs (aU zs [] st).2).1=k' at *;generalize (aU zs [] st).2=st1 at *;generalize (aU zs [] st).1=X at *;have PK:=hJ (fun (W:World) (hW:Rd W R G zs st2.1 st2.2)=>Gk R G zs st2.1 st2.2 W hW)
   go_wp2_with fail
   refine H8.out.mono ?_;rintro en w8 ⟨⟨so,sn,rfl,ig,UI,vI⟩,Wq,bU⟩;have N8:=hJ (qN.out.call Wq bU).raise;have B8:=hJ ig;clear ig UI Wq bU H8 qN
   go_wp2_with fail
   refine (Eu po pn pn P so sn sn X _ N8.out.pb B8.out (by omega) (by omega)).mono ?_;rintro en w9 ⟨rfl,nR,qQ⟩;have N9:=hJ (N8.out.ae qQ);have X9:=hJ nR;have hgb:base<=w8.heap.size:=N8.out.far.2.2.2;have hPX:Hid ((P++X).length=pn+sn):=by show _=_;rw [List.length_append,N8.out.pb.len,B8.out.len]
   clear nR qQ N8 B8;generalize w8.heap.size=g at *
   go_wp2_with (at_builtin;refine wpList_append_own _ rfl _ _ 23 rfl base 25 i0 (.slice none 0 0) 1 24 Tryz.underlying23 hi hz0 hz1 hz2 rfl (by decide) _ i xs rfl (N9.out.own.alloc _) ⟨w9.heap.size,0,none⟩ 1 1 [.slice (some ⟨g,0,none⟩) (pn+sn) (pn+sn)] rfl rfl (cell_one_new _ _ _) (by intro u hu;simp at hu;subst hu;rfl) (by unfold maxLen;omega) (by omega) (by have:=N9.out.far.2.2.2;simp;omega) ?_)
   intro v' fI ho aW _;have N10:=hJ ((N9.out.ae (World.grownBy_alloc w9 _ none)).Wo (X9.out.ae (World.grownBy_alloc w9 _ none)) hPX.out hgb (by omega) (Nat.le_refl _) ho aW);clear ho aW N9 X9
   go_wp2_with fail
   refine (H9.out _ N10.out.rd).mono ?_;rintro en BN ⟨rfl,rO,gY⟩;have N11:=hJ (N10.out.call rO gY);clear rO gY N10 H9;obtain ⟨no',hno⟩:∃ no',k'.no=no':=⟨_,rfl⟩;obtain ⟨ks',hks⟩:∃ ks',k'.keys=ks':=⟨_,rfl⟩;rw [hno,hks];have vK:=hJ hno;have Jt:=hJ hks;clear hno hks
   go_wp2_with (at_builtin;refine wpList_append_own _ rfl _ _ 24 rfl base 69 i1 (.agg #[.int .i64 0,.int .i64 0]) 2 16 Tryz.underlying24 jN hy0 vL jE rfl (by decide) _ (i+1) (kc (kids k M)) rfl (N11.out.bi.alloc _) ⟨BN.heap.size,0,none⟩ 1 1 [.int .i64 no',.int .i64 ks'] rfl rfl (cell_two_new _ _ _ _) (by intro u hu;simp at hu;rcases hu with rfl | rfl <;> rfl) (by unfold maxLen;omega) (by omega) (by have:=N11.out.far.2.2.2;simp;omega) ?_)
   intro v2' QU ho og _;have N12:=hJ ((N11.out.ae (World.grownBy_alloc BN _ none)).Wp k' (by rw [vK.out,Jt.out];exact ho) og);clear ho og N11
   go_wp2_with fail
   refine (PK.out _ N12.out.rd).mono ?_;rintro en JA ⟨rfl,aaG⟩;have NM:=hJ (N12.out.ae (aaG.grown none));clear aaG N12 PK;have HE1:Hid (aj M++[P++X]=aj (M++[⟨P++X,k'⟩])):=by show _=_;unfold aj;simp
   have QO:Hid (kids k M++[k']=kids k (M++[⟨P++X,k'⟩])):=by show _=_;unfold kids;simp
   rw [HE1.out,QO.out] at NM;obtain ⟨pp,ee⟩:=st2
   by_cases he:ee=0
   ·subst he
    have yz:=hJ (yy.out.trans (if_pos rfl));clear yy;go_wp2;go_roundw
    case rel=>exact ⟨i+1,(pp,0),_,_,_,by omega,by go_num,yz.out.symm,by simp [pC.out],by omega,NM.out⟩
    case measure=>simp [intOf];omega
   ·have yz:=hJ (yy.out.trans (if_neg he))
    clear yy;obtain ⟨a,cap,e1,e2,e3,e4,e5⟩:=NM.out.sv.sv.lz NM.out.own;obtain ⟨b,bh,f1,f2,f3,f4,f5⟩:=NH NM.out.bi;have GR:=hJ NM.out.gr;subst e1 f1;have HBP:Hid (Bp w JA a (i+1) cap b (i+1+1) bh (aj (M++[⟨P++X,k'⟩])) (kids k (M++[⟨P++X,k'⟩]))):=⟨base,_,_,NM.out.far.2.2.1,NM.out.own,NM.out.sv,NM.out.bi⟩;have HE:=hJ e2;have HF:=hJ f2;have XX:Hid (BP.length=i+1):=by show _=_;rw [yz.out];simp [pC.out]
    clear e2 f2 e3 f3 NM;go_wp2
    (try simp only [Exit.inBlock,Exit.then]);refine bodyPost_ret (results_tmp3 rfl _ _ _) rfl ?_
    rw [yz.out] at *;exact ⟨⟨a,i+1,cap,b,i+1+1,bh,rfl,HE.out,HF.out,XX.out,rfl,e4,e5,f4,f5,HBP.out⟩,GR.out⟩
  ·have hin:N - 1=i:=by omega
   have g1:¬ (i:Int)<(N:Int) - 1:=by omega
   have QT:Hid (M=BP):=by
    have:=LM.out;rw [hin,Nat.sub_self] at this;exact this
   obtain ⟨a,cap,e1,e2,e3,e4,e5⟩:=qN.out.sv.sv.lz qN.out.own;obtain ⟨b,bh,f1,f2,f3,f4,f5⟩:=NH qN.out.bi;have GR:=hJ qN.out.gr;subst e1 f1;have HBP:Hid (Bp w wr a i cap b (i+1) bh (aj M) (kids k M)):=⟨base,_,_,qN.out.far.2.2.1,qN.out.own,qN.out.sv,qN.out.bi⟩;have HE:=hJ e2;have HF:=hJ f2;clear e2 f2 e3 f3 qN LM;go_wp2
   (try simp only [Exit.inBlock,Exit.then]);refine bodyPost_ret (results_tmp3 rfl _ _ _) rfl ?_
   rw [<- QT.out];exact ⟨⟨a,i,cap,b,i+1,bh,rfl,HE.out,HF.out,pC.out,rfl,e4,e5,f4,f5,HBP.out⟩,GR.out⟩
theorem wB (ao:Option Addr)(c:Nat)(zs:List Int)(w:World)(hb:ai w ao 4092 c zs)(bp:Bt zs) :
  Calls Tryz.prog 182 #[.slice ao 4092 c] w fun en w'=>(∃ lv a n cap b m bh e L K,en=.returned (.tuple #[.int .i64 lv,.slice a n cap,.slice b m bh,.int .i64 e])/\uk zs lv L K e/\Lz w' a L/\Lb L/\L.length=n/\n<=cap/\cap<=9223372036854775807/\Kl w' b K/\K.length=m/\m<=bh/\bh<=9223372036854775807/\Bp w w' a n cap b m bh L K)/\w.grownBy w' none:=by
 have hl:=hb.len;have HPL:=hJ (Ew bp);have GG:=hJ (Jy bp (by omega));have HPB:Hid (∀ lv k M,kC zs lv k M->((eC zs).1:Int)=lv/\(pW zs).1=k/\fk zs=M):=fun lv k M h=>by have:=kE h;exact ⟨this.1,this.2.1,this.2.2.1⟩
 have HB:=hJ hb;clear hb;go_enter Tryz.func182,Tryz.ntmps182
 go_wp2_with fail
 refine (dR ao 4092 c zs _ HB.out (by omega)).mono ?_;rintro en w1 ⟨R,rfl,hr1,hg1,hR⟩;have D1:=hJ hr1;have G1:=hJ hg1;clear hr1 hg1
 go_wp2_with fail
 refine (Jz R w.heap.size zs _ D1.out bp (by omega)).mono ?_;rintro en w3 ⟨⟨a,n,cap,b,m,bh,rfl,Wu,nu,hn,rfl,hnc,hcm,hmc,aeL,hna⟩,hg3⟩;have A3:=hJ (hna.from G1.out.size);clear hna;have G3:=hJ (af G1.out hg3 (by omega));have L3:=hJ Wu;have K3:=hJ nu;have B3:=hJ (HB.out.ae G3.out);have hn5:n<=4093:=by have:=HPL.out;omega
 clear Wu nu hg3 G1 D1 HPL;generalize Dk:fk zs=M at *;generalize Wu:(eC zs).1=lv at *;generalize hkz:(pW zs).1=k at *;clear Dk Wu hkz
 go_wp2_with fail
 refine (qO (lv:Int) a n cap (aj M) b (n+1) bh (kids k M) _ L3.out GG.out (by rw [bY];exact hn) (by omega) hnc hcm K3.out (by rw [dX,hn]) (by omega)).mono ?_;rintro en w4 ⟨⟨bo,j,c',e,ys,rfl,hb4,hbe,hj4,hj5,hj6,_⟩,hg4⟩;have B4:=hJ hb4;have L4:=hJ (L3.out.ae hg4);have A4:=hJ (A3.out.ae hg4);have K4:=hJ (K3.out.ae hg4);have Z4:=hJ (B3.out.ae hg4);have G4:=hJ (gQ G3.out hg4);have HYB:=hJ (hbe.bt GG.out);have UJ:=hJ hbe;clear hb4 hg4 hbe L3 K3 B3 G3
 have Rc:Hid (∀ GJ k' M',kC zs GJ k' M'->e=0/\ys=zs):=by
  intro GJ k' M' h;obtain ⟨rfl,rfl,rfl⟩:=HPB.out GJ k' M' h;have he:e=0:=UJ.out.code.trans h.1;obtain ⟨k2,M2,h1,h2,h3⟩:=UJ.out.good he;obtain ⟨rfl,rfl⟩:=mN h1 h2;exact ⟨he,h3.2.symm.trans h.2⟩
 by_cases he:e=0
 ·by_cases hy:ys=zs
  ·have HGD:Hid (uk zs (lv:Int) (aj M) (kids k M) 0):=⟨.inl rfl,fun _=>⟨hl,k,M,rfl,rfl,by
    obtain ⟨k2,M2,h1,h2,h3⟩:=UJ.out.good he;obtain ⟨rfl,rfl⟩:=mN h1 h2;rw [<- hy];exact h3⟩,fun h=>absurd rfl h⟩
   subst he;clear UJ Rc
   go_wp2_with fail
   refine (lC _ _ _ _ _ _ _ _ _ B4.out Z4.out hy).mono ?_;rintro en w5 ⟨rfl,rfl⟩;clear hy;go_wp2
   (try simp only [Exit.inBlock,Exit.then]);refine bodyPost_ret (gi rfl _ _ _) rfl ?_
   exact ⟨⟨_,a,n,cap,b,n+1,bh,0,aj M,kids k M,rfl,HGD.out,L4.out,GG.out,by rw [bY];exact hn,hnc,hcm,K4.out,by rw [dX,hn],hmc,aeL,A4.out⟩,G4.out⟩
  ·have Wi:Hid (uk zs 0 [] [] 50):=⟨.inr rfl,(fun h=>by cases h),fun _=>⟨rfl,rfl,rfl,fun GJ k' M' h=>hy (Rc.out GJ k' M' h).2⟩⟩
   subst he;clear UJ Rc
   go_wp2_with fail
   refine (nT _ _ _ _ _ _ _ _ _ B4.out Z4.out HYB.out bp hy).mono ?_;rintro en w5 ⟨rfl,rfl⟩;clear hy;go_wp2
   (try simp only [Exit.inBlock,Exit.then]);refine bodyPost_ret (gi rfl _ _ _) rfl ?_
   exact ⟨⟨0,none,0,0,none,0,0,50,[],[],rfl,Wi.out,Lz.zero _ _,(fun s hs=>by cases hs),rfl,Nat.le_refl _,by omega,Kl.zero _ _,rfl,Nat.le_refl _,by omega,Bp.zero _ _⟩,G4.out⟩
 ·have Wi:Hid (uk zs 0 [] [] 50):=⟨.inr rfl,(fun h=>by cases h),fun _=>⟨rfl,rfl,rfl,fun GJ k' M' h=>he (Rc.out GJ k' M' h).1⟩⟩
  clear UJ Rc;go_wp2
  (try simp only [Exit.inBlock,Exit.then]);refine bodyPost_ret (gi rfl _ _ _) rfl ?_
  exact ⟨⟨0,none,0,0,none,0,0,50,[],[],rfl,Wi.out,Lz.zero _ _,(fun s hs=>by cases hs),rfl,Nat.le_refl _,by omega,Kl.zero _ _,rfl,Nat.le_refl _,by omega,Bp.zero _ _⟩,G4.out⟩
theorem BR (ao:Option Addr)(n c:Nat)(zs:List Int)(w:World)(hb:ai w ao n c zs)(bp:Bt zs) :
  Calls Tryz.prog 182 #[.slice ao n c] w fun en w'=>(∃ lv a n cap b m bh e L K,en=.returned (.tuple #[.int .i64 lv,.slice a n cap,.slice b m bh,.int .i64 e])/\uk zs lv L K e/\Lz w' a L/\Lb L/\L.length=n/\n<=cap/\cap<=9223372036854775807/\Kl w' b K/\K.length=m/\m<=bh/\bh<=9223372036854775807/\Bp w w' a n cap b m bh L K)/\w.grownBy w' none:=by
 have hl:=hb.len
 by_cases h:n=4092
 ·subst h
  exact wB ao c zs w hb bp
 ·refine (BQ ao n c w h).mono ?_
  rintro en w' ⟨rfl,rfl⟩;exact ⟨⟨0,none,0,0,none,0,0,50,[],[],rfl,⟨.inr rfl,(fun h=>by cases h),fun _=>⟨rfl,rfl,rfl,fun GJ k' M' hg=>h (by rw [<- hl];exact hg.len)⟩⟩,Lz.zero _ _,(fun s hs=>by cases hs),rfl,Nat.le_refl _,by omega,Kl.zero _ _,rfl,Nat.le_refl _,by omega,Bp.zero _ _⟩,World.grownBy.refl _ _⟩
end Go.Proofs.YtgldkdbkaachkaaGreatDoor
