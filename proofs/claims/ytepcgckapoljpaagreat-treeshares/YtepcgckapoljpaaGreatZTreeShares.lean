import Derived.Test.YtepcgckapoljpaaGreatQ39
import Derived.Test.YtepcgckapoljpaaGreatQ52
import Derived.Test.YtepcgckapoljpaaGreatQ53
import Derived.Test.YtepcgckapoljpaaGreatQ47
import Derived.Deep.CutBlock
import Derived.Test.YtepcgckapoljpaaGreatQ54
import Derived.WalkKit
import Derived.ProofKit
import Derived.OpenShut
import Derived.ShutString
import Derived.ChangeOld
import Derived.Below
import Derived.SizedLaws
import Derived.Deep.Slices
import Derived.Test.YtepcgckapoljpaaGreatRows
set_option maxRecDepth 100000
set_option maxHeartbeats 64000000
namespace Go.Proofs.YtepcgckapoljpaaGreat
open Go.RowKit
theorem treeShares_walk (a:Option Addr)(n c:Nat)(C:List AcT)(ka:Option Addr)(kn kc:Nat)(key:List Int)(va:Option Addr)(vn vc:Nat)(val:List Int)(gone mark:Bool)(no:Int)(w:World)(hC:AcW w a C)(hn:C.length=n)(hk:Byt w ka kn kc key)(bk:Bt key)(hv:Byt w va vn vc val)(bv:Bt val) :
  Calls Tryz.prog 4 #[.slice a n c,.agg #[.slice ka kn kc,.slice va vn vc,.bool gone,.bool mark,.int .i64 no]] w fun en w'=>en=.returned (.bool true)/\w.grownBy w' none:=by
 have ga:=World.grownBy_alloc w (.cells #[.slice ka kn kc,.slice va vn vc,.bool gone,.bool mark,.int .i64 no] 32) none;have XA:=hZq (heap_at0 w #[.slice ka kn kc,.slice va vn vc,.bool gone,.bool mark,.int .i64 no] 32);have HC:=hZq (hC.cef (CeF.of ga));have HK:=hZq hk;have HV:=hZq hv;have BK:=hZq bk;have BV:=hZq bv;have GA:=hZq ga;have HCN:=hZq hn;clear hC hn hk bk hv bv ga;go_enter Tryz.func4,Tryz.ntmps4;go_upto_region 1 with fail
 generalize w.alloc (.cells #[.slice ka kn kc,.slice va vn vc,.bool gone,.bool mark,.int .i64 no] 32)=w0 at *;obtain ⟨X,hX⟩:∃ X,w.heap.size=X:=⟨_,rfl⟩;rw [hX] at XA ⊢;have HXX:=hZq hX;clear hX
 go_wp2_with fail
 refine (first10 w0).mono ?_;rintro en w1 ⟨rfl,hg1⟩;have G1:=hZq hg1;have GC:=hZq (grown10_any a n c C w1 (HC.out.cef (CeF.of hg1)) HCN.out);clear hg1
 go_wp2_with fail
 refine GC.out.mono ?_;rintro en w2 ⟨q0,t0,rfl,hI⟩;have HI:=hZq hI;have G2:=hZq (gZq G1.out hI.gr)
 have AC:=hZq (act_any t0 q0 none 0 0 [] none 0 0 [] true true 2 w2 hI.tr hI.sd (Byt.empty w2) (Byt.empty w2) Bt.nil Bt.nil (by
  have h1:=congrArg List.length (st_sd (key:=[]) (val:=[]) (gone:=true) hI.sd Bt.nil Bt.nil).2;have h2:=dos_len (L:=(flatO t0).map strP) (key:=[]) (val:=[]) (gone:=true);rw [List.length_map] at h1 h2;have h3:=hI.le;rw [if_pos rfl] at h2;omega))
 clear hI GC G1
 go_wp2_with fail
 refine AC.out.mono ?_;rintro en w3 ⟨q1,t1,rfl,ht3,ha3,hg3⟩;obtain ⟨s1,f1⟩:=act_sd HI.out.sd Bt.nil Bt.nil ha3;have S1:=hZq s1;have HN1:=hZq (act_hn HI.out.hn ha3);have FN1:=hZq (act_fn HI.out.fn ha3)
 have L1:Hid ((flatO t1).length<=2000):=by
  have h1:=congrArg List.length f1;have h2:=dos_len (L:=(flatO t0).map strP) (key:=[]) (val:=[]) (gone:=true);rw [List.length_map] at h1 h2;have h3:=HI.out.le
  show _<=_
  rw [if_pos rfl] at h2;omega
 have FZ:Hid (frO t1=0):=by
  show _=_
  unfold ActR at ha3;rw [if_pos rfl] at ha3;obtain ⟨zs,h1,h2,rfl⟩:=ha3;exact num_fresh h1 (fun z hz=>by have:=tk_q h2 z hz;omega)
 have T3:=hZq ht3;have G3:=hZq (gZq G2.out hg3);clear ht3 ha3 hg3 s1 f1 AC;have SH:=hZq (sh_of (key:=key) (val:=val) (gone:=gone) S1.out HN1.out FN1.out FZ.out L1.out BK.out BV.out);obtain ⟨u,hu⟩:∃ u,stO t1 key val gone=u:=⟨_,rfl⟩;rw [hu] at SH;have HUU:=hZq hu;clear hu;have TZ:=hZq (tz_of S1.out L1.out);have TU:=hZq (tz_of2 SH.out.sdu (by have:=SH.out.lu;omega));have FC:=hZq (fun (W:World) (h:w3.grownBy W none)=>tfresh_any t1 q1 W (T3.out.kept (FrT.of h)) S1.out.ok (by rw [FZ.out];omega));rw [FZ.out] at FC
 go_wp2_with fail
 refine (FC.out w3 (World.grownBy.refl _ _)).mono ?_;rintro en w4 ⟨rfl,hg4⟩;have H4:=hZq hg4;clear hg4;have NT:=hZq (fun (W:World) (h:w3.grownBy W none)=>nodes_any t1 q1 W (T3.out.kept (FrT.of h)) S1.out.ok S1.out.chk (by have:=TZ.out.len;omega) (by have:=TZ.out.high;omega));obtain ⟨N,hN⟩:∃ N,(tellO t1).length=N:=⟨_,rfl⟩;have hNb:N<=14000:=by have:=TZ.out.len;omega
 rw [hN] at NT;have HNL:=hZq hN;clear hN
 go_wp2_with fail
 refine (NT.out w4 H4.out).mono ?_;rintro en w5 ⟨v5,es5,rfl,ho5,ht5,hg5⟩;obtain ⟨wa,wc5,rfl⟩:=own_shape10 ho5;have WO:=hZq ho5;have WT:=hZq ht5;have WL:=hZq (nl_of ho5 ht5);have H5:=hZq (gZq H4.out hg5);clear ho5 ht5 hg5;have HC2:=hZq (height_any t1 q1 w5 (T3.out.kept (FrT.of H5.out)) S1.out.ok (by have:=TZ.out.high;omega));obtain ⟨H,hH⟩:∃ H,highO t1=H:=⟨_,rfl⟩;have hHb:H<=7:=by have:=TZ.out.high;omega
 rw [hH] at HC2;have HHH:=hZq hH;clear hH
 go_wp2_with fail
 refine HC2.out.mono ?_;rintro en w6 ⟨rfl,hg6⟩;have H6:=hZq (gZq H5.out hg6);have WL6:=hZq (WL.out.kept hg6);have WO6:=hZq (WO.out.kept hg6 (Classical.em _));have WT6:=hZq (WT.out.kept (FrT.of hg6));clear hg6 HC2 WL WO WT;have XB:=hZq (heap_kept XA.out (gZq G3.out H6.out));have z3:=frozen_of_row w6 X 3 _ _ XB.out;have y3:w6.cell? ⟨X,3,none⟩=some (.bool mark):=cell_heap (i:=3) XB.out rfl;have XC:Hid ((w6.setCell ⟨X,3,none⟩ (.bool false)).heap[X]?=some (.cells #[.slice ka kn kc,.slice va vn vc,.bool gone,.bool false,.int .i64 no] 32 (0,0))):=heap_setCell_same w6 X 3 _ _ (.bool false) XB.out;have GS:=hZq (grown_cell w6 X 3 (.bool false));have FSq:=hZq (FrX.box10 XB.out (grown_cell w6 X 3 (.bool false)));have T7:=hZq ((T3.out.kept (FrT.of H6.out)).keptB FSq.out);have G7:=hZq (grown_new (gZq GA.out (gZq G3.out H6.out)) GS.out (by have:=HXX.out;omega));have WO7:=hZq (own_keptB WO6.out (by decide) FSq.out);have WT7:=hZq (ToM.keptB FSq.out WT6.out);go_upto_region 11 with fail
 generalize w6.setCell ⟨X,3,none⟩ (.bool false)=w7 at *;clear z3 y3 WL6 WO6 WT6 XB GS FSq;have WL7:=hZq (nl_of WO7.out WT7.out);have HK7:=hZq (HK.out.keptN G7.out);have AP:=hZq (act_plain t1 q1 ka kn kc key va vn vc val gone no w7 T7.out S1.out HK7.out (HV.out.keptN G7.out) BK.out BV.out);have e0:=cell_heap (i:=0) XC.out rfl;have e1:=cell_heap (i:=1) XC.out rfl;have e2:=cell_heap (i:=2) XC.out rfl;have e3:=cell_heap (i:=3) XC.out rfl;have e4:=cell_heap (i:=4) XC.out rfl
 go_wp2_with fail
 refine AP.out.mono ?_;rintro en w8 ⟨q2,u',rfl,ht8,ha8,hg8⟩
 have hu':u'=u:=by
  unfold ActR at ha8;rw [if_neg (by simp)] at ha8;rw [ha8];exact HUU.out
 subst hu';have T8:=hZq ht8;have H8:=hZq hg8;clear ht8 ha8 hg8 AP e0 e1 e2 e3 e4;obtain ⟨M,hM⟩:∃ M,(tellO u').length=M:=⟨_,rfl⟩;have hMb:M<=17500:=by have:=TU.out.len;omega
 have HML:=hZq hM;have NU:=hZq (nodes_any u' q2 w8 T8.out SH.out.sdu.ok SH.out.sdu.chk (by have:=TU.out.len;omega) (by have:=TU.out.high;omega));rw [hM] at NU;clear hM
 go_wp2_with fail
 refine NU.out.mono ?_;rintro en w9 ⟨v9,es9,rfl,ho9,ht9,hg9⟩;obtain ⟨ia,ic,rfl⟩:=own_shape10 ho9;have IOq:=hZq ho9;have IT:=hZq ht9;have IL:=hZq (nl_of ho9 ht9);have H9:=hZq (gZq H8.out hg9);clear ho9 ht9 hg9 NU;have N2:=hZq (nodes_any t1 q1 w9 (T7.out.kept (FrT.of H9.out)) S1.out.ok S1.out.chk (by have:=TZ.out.len;omega) (by have:=TZ.out.high;omega));rw [HNL.out] at N2
 go_wp2_with fail
 refine N2.out.mono ?_;rintro en w10 ⟨v10,es10,rfl,ho10,ht10,hg10⟩;obtain ⟨va10,vc10,rfl⟩:=own_shape10 ho10;have H10:=hZq (gZq H9.out hg10);have I10:=hZq hg10;have SN:=hZq (sameNodes10 va10 wa N vc10 wc5 (tellO t1) w10 (nl_of ho10 ht10) (WL7.out.kept H10.out) HNL.out (by omega) (fun x hx=>by have:=TZ.out.ps x hx;omega));clear ho10 ht10 hg10 N2
 go_wp2_with fail
 refine SN.out.mono ?_;rintro en w11 ⟨rfl,hg11⟩;have H11:=hZq (gZq H10.out hg11);have I11:=hZq (gZq I10.out hg11);clear hg11 SN H10 I10;have CC:=hZq (counts10 ia M ic (tellO u') w11 (IL.out.kept I11.out) HML.out (by omega) (fun v hv=>by have:=(TU.out.ks v hv).2.2.2;omega));obtain ⟨Fn,hFn⟩:∃ Fn,sumT newN (tellO u')=Fn:=⟨_,rfl⟩;rw [hFn] at CC;have HFN:Hid (neO u'=Fn):=by show _=_;rw [<- tellO_new,hFn]
 clear hFn
 go_wp2_with fail
 refine CC.out.mono ?_;rintro en w12 ⟨⟨l12,rfl⟩,hq12⟩;have H12:=hZq (gZq H11.out (hq12.grown none));have I12:=hZq (gZq I11.out (hq12.grown none));clear hq12 CC H11 I11;obtain ⟨P,hP⟩:∃ P,H*H=P:=⟨_,rfl⟩;have hP2:(H:Int)*(H:Int)=(P:Int):=by rw [<- hP,Int.natCast_mul]
 have hPb:P<=49:=by have:=Nat.mul_le_mul hHb hHb;omega
 have hfn:Fn<=P+H+1:=by
  have h1:=SH.out.new;rw [HFN.out,HHH.out,hP] at h1;exact h1
 have hf1:¬ (P:Int)+(H:Int)+1<(Fn:Int):=by omega
 have hf2:decide ((P:Int)+(H:Int)+1<(Fn:Int))=false:=decide_eq_false hf1;have F2:=hZq (tfresh_any t1 q1 w12 (T7.out.kept (FrT.of H12.out)) S1.out.ok (by rw [FZ.out];omega));rw [FZ.out] at F2;clear hP hfn FC
 go_wp2_with fail
 refine F2.out.mono ?_;rintro en w13 ⟨rfl,hg13⟩;have H13:=hZq (gZq H12.out hg13);have I13:=hZq (gZq I12.out hg13);clear hg13 F2 H12 I12 hf1 hf2 hP2 hPb;have WL:=hZq (WL7.out.kept H13.out);have ILL:=hZq (IL.out.kept I13.out)
 go_wp2_with fail
 go_loopw [15,16,17] (fun s15 _ _ wr=>∃ i:Nat,i<=M/\s15=.int .i64 (i:Nat)/\w13.grownBy wr none) (fun s15 _ _ _=>M - (intOf s15).toNat)
 case atStart=>exact ⟨0,Nat.zero_le _,rfl,World.grownBy.refl _ _⟩
 case round =>
  obtain ⟨i,hi,rfl,hg⟩:=hrel;have HG:=hZq hg;clear hg
  by_cases hlt:i<M
  ·obtain ⟨x,hx⟩:∃ x,(tellO u')[i]?=some x:=⟨_,List.getElem?_eq_getElem (by have:=HML.out;omega)⟩
   have hxm:=List.mem_of_getElem? hx;obtain ⟨b,off,pa,pc,ca,cc,sa,sc,na,nc,hia,e⟩:=ILL.out i x hx;have f1:=e.kept HG.out;have m0:=f1.c0;have ER:=hZq e.r;have P1:=hZq (TU.out.ps x hxm);have P2:=hZq (TU.out.pv x hxm);have P3:=hZq (TU.out.ks x hxm);have HX:=hZq hx;subst hia;have i0:(0:Int)<=(i:Int):=by omega
   have i1:(i:Int)<(M:Int):=by omega
   by_cases h0:x.no=0
   ·rw [h0] at m0
    clear hx hxm e f1 h0;go_wp2;go_roundw
    case rel=>exact ⟨i+1,by omega,by go_num,HG.out⟩
    case measure=>simp [intOf];omega
   ·obtain ⟨p,hpx,hex,hall⟩:=SH.out.sh i x hx h0
    have hb0:(x.no != 0)=true:=by simp [h0]
    have FD:=hZq (find10 wa N wc5 x.no (tellO t1) wr (WL.out.kept HG.out) HNL.out (by omega) hex);have HPX:=hZq hpx;have HALL:=hZq hall;have m1:=f1.c1;have m2:=f1.c2;have m3:=f1.c3;have m4:=f1.c4;have m5:=f1.c5;have hbl:b<wr.heap.size:=cell_lt f1.c0;clear hx hxm e f1 hpx hex hall h0
    go_wp2_with fail
    refine FD.out.mono ?_;rintro en wf ⟨i',y,pb,pd,cb,cd,sb,sd,kb,kd,hy,hyno,rfl,hry,hgf⟩;obtain ⟨hk1,hk2,hk3⟩:=alike_of HPX.out (HALL.out i' y hy hyno);have GF:=hZq (gZq HG.out hgf);have AL:=hZq (fun (W:World) (hW:wf.grownBy W none)=>alike10 pa ca sa na pb cb sb kb (some ⟨b,off,none⟩) wa pc cc sc nc pd cd sd kd M ic N wc5 x y (tellO u') (tellO t1) W (ER.out.kept (gZq GF.out hW)) (hry.kept (gZq hgf hW)) (ILL.out.kept (gZq GF.out hW)) (WL.out.kept (gZq GF.out hW)) HML.out HNL.out (by omega) (by omega) hk1 hk2 (by have:=P1.out;omega) (by have:=P3.out;omega) (by have:=P3.out;omega) (fun p hp=>by have:=P2.out p hp;omega) hk3);have c0:=keep1 m0 hgf;have c1:=keep1 m1 hgf;have c2:=keep1 m2 hgf;have c3:=keep1 m3 hgf;have c4:=keep1 m4 hgf;have c5:=keep1 m5 hgf;clear hy hyno hry hgf hk1 hk2 hk3 m0 m1 m2 m3 m4 m5 FD;generalize x.no=xno at *;generalize (x.lv:Int)=xlv at *;generalize x.ps.length=xp at *;generalize x.ss.length=xs at *;generalize x.ks.length=xk at *;generalize y.no=yno at *;generalize (y.lv:Int)=ylv at *;generalize y.ps.length=yp at *;generalize y.ss.length=ys at *;generalize y.ks.length=yk at *;have X2:=hZq (heap_at0 wf #[.int .i64 yno,.int .i64 ylv,.slice pb yp pd,.slice cb yp cd,.slice sb ys sd,.slice kb yk kd] 54);have GB:=hZq (World.grownBy_alloc wf (.cells #[.int .i64 yno,.int .i64 ylv,.slice pb yp pd,.slice cb yp cd,.slice sb ys sd,.slice kb yk kd] 54) none);go_upto_region 25 with fail
    generalize wf.alloc (.cells #[.int .i64 yno,.int .i64 ylv,.slice pb yp pd,.slice cb yp cd,.slice sb ys sd,.slice kb yk kd] 54)=wg at *;obtain ⟨Y,hY⟩:∃ Y,wf.heap.size=Y:=⟨_,rfl⟩;rw [hY] at X2 ⊢;clear hY;obtain ⟨b0,b1,b2,b3,b4,b5⟩:=C6.of X2.out;have d0:=keep1 c0 GB.out;have d1:=keep1 c1 GB.out;have d2:=keep1 c2 GB.out;have d3:=keep1 c3 GB.out;have d4:=keep1 c4 GB.out;have d5:=keep1 c5 GB.out;clear c0 c1 c2 c3 c4 c5 hb0
    go_region_held3 (fun w'=>w'.cell? ⟨Y,0,none⟩=some (.int .i64 yno)/\w'.cell? ⟨Y,1,none⟩=some (.int .i64 ylv)/\w'.cell? ⟨Y,2,none⟩=some (.slice pb yp pd)/\w'.cell? ⟨Y,3,none⟩=some (.slice cb yp cd)/\w'.cell? ⟨Y,4,none⟩=some (.slice sb ys sd)/\w'.cell? ⟨Y,5,none⟩=some (.slice kb yk kd)/\w'.cell? ⟨b,off+i*6,none⟩=some (.int .i64 xno)/\w'.cell? ⟨b,off+i*6+1,none⟩=some (.int .i64 xlv)/\w'.cell? ⟨b,off+i*6+2,none⟩=some (.slice pa xp pc)/\w'.cell? ⟨b,off+i*6+3,none⟩=some (.slice ca xp cc)/\w'.cell? ⟨b,off+i*6+4,none⟩=some (.slice sa xs sc)/\w'.cell? ⟨b,off+i*6+5,none⟩=some (.slice na xk nc)) (first | exact ⟨b0,b1,b2,b3,b4,b5,d0,d1,d2,d3,d4,d5⟩ | exact ⟨qb0,qb1,qb2,qb3,qb4,qb5,qd0,qd1,qd2,qd3,qd4,qd5⟩ | go_keep) ((go_at_call 22;refine (AL.out wg.drew (gZq GB.out ((Qt.refl _).drew.grown none))).mono ?_;rintro en wy ⟨rfl,hgy⟩;have GY:=hZq (undrewW hgy);have qb0:=(undrewW hgy).cell b0 (by simp);have qb1:=(undrewW hgy).cell b1 (by simp);have qb2:=(undrewW hgy).cell b2 (by simp);have qb3:=(undrewW hgy).cell b3 (by simp);have qb4:=(undrewW hgy).cell b4 (by simp);have qb5:=(undrewW hgy).cell b5 (by simp);have qd0:=(undrewW hgy).cell d0 (by simp);have qd1:=(undrewW hgy).cell d1 (by simp);have qd2:=(undrewW hgy).cell d2 (by simp);have qd3:=(undrewW hgy).cell d3 (by simp);have qd4:=(undrewW hgy).cell d4 (by simp);have qd5:=(undrewW hgy).cell d5 (by simp);clear hgy))
    all_goals
     go_wp2;go_roundw
     case rel=>exact ⟨i+1,by omega,by go_num,gZq GF.out (gZq GB.out GY.out)⟩
     case measure=>simp [intOf];omega
  ·obtain rfl:i=M:=by omega
   have i1:¬ (i:Int)<(i:Int):=by omega
   have GR:=hZq (gZq H13.out HG.out);have IR:=hZq (gZq I13.out HG.out);have xk:wr.cell? ⟨X,0,none⟩=some (.slice ka kn kc):=cell_heap (i:=0) (heap_kept XC.out GR.out) rfl;have CH:=hZq (chains10 wa ia N i wc5 ic ka kn kc key (tellO t1) (tellO u') wr (WL.out.kept HG.out) (ILL.out.kept HG.out) HNL.out HML.out (by omega) (by omega) (fun v hv=>by have:=TZ.out.ps v hv;omega) (fun v hv=>by have:=TU.out.ps v hv;omega) (HK7.out.keptN GR.out) BK.out (fun v hv p hp=>(TZ.out.pv v hv p hp).2.2.2) (fun v hv p hp=>by have h:=TU.out.pv v hv p hp;exact ⟨h.2.2.2,by omega,by omega⟩) SH.out.ch)
   go_wp2_with fail
   refine CH.out.mono ?_;rintro en w14 ⟨rfl,hq14⟩;have G14:=hZq (gZq GR.out (hq14.grown none));have I14:=hZq (gZq IR.out (hq14.grown none));clear hq14 CH xk;have R1:=hZq (row10_any wa N wc5 _ es5 (tellO t1) _ _ w14 (WO7.out.kept G14.out (Classical.em _)) (WT7.out.kept (FrT.of G14.out)) HNL.out (by omega) (by rw [tellO_ps];have:=L1.out;omega));rw [tellO_ps] at R1
   go_wp2_with fail
   refine R1.out.mono ?_;rintro en w15 ⟨ra,rn,rc,rfl,hm15,hg15⟩;have M15:=hZq hm15;have I15:=hZq (gZq I14.out hg15);have G15:=hZq (gZq G14.out hg15);clear hm15 hg15 R1;have R2:=hZq (row10_any ia i ic _ es9 (tellO u') _ _ w15 (IOq.out.kept I15.out (Classical.em _)) (IT.out.kept (FrT.of I15.out)) HML.out (by omega) (by rw [tellO_ps];have:=SH.out.lu;omega));rw [tellO_ps] at R2
   go_wp2_with fail
   refine R2.out.mono ?_;rintro en w16 ⟨sa,sn,sc,rfl,hm16,hg16⟩;have G16:=hZq (gZq G15.out hg16);have SP:=hZq (samePairsB ra sa rn sn rc sc (flatO t1) (flatO u') w16 (M15.out.cef (CeF.of hg16)) hm16 (by have:=M15.out.1;have:=L1.out;omega) (fun p hp=>(sd_vp2 S1.out p hp)) (fun p hp=>(sd_vp2 SH.out.sdu p hp)));clear hm16 hg16 R2
   go_wp2_with fail
   refine SP.out.mono ?_;rintro en w17 ⟨⟨f,rfl,hf⟩,hg17⟩;have G17:=hZq (gZq G7.out (gZq G16.out hg17));have HFF:=hZq hf;clear hf hg17 SP;cases f with
   | false =>
    go_wp2;go_ret;exact ⟨rfl,G17.out⟩
   | true =>
    obtain ⟨h1,h2⟩:=SH.out.same (HFF.out rfl);have h3:Fn=0:=by rw [<- HFN.out];exact h1
    have h4:i=N:=by rw [<- HML.out,<- HNL.out];exact h2
    have b1:((Fn:Int)==0)=true:=by rw [h3];rfl
    have b2:((i:Int)==(N:Int))=true:=by rw [h4];simp
    clear h1 h2 h3 h4;go_wp2;go_ret;exact ⟨rfl,G17.out⟩
end Go.Proofs.YtepcgckapoljpaaGreat
namespace Go.Proofs.YtepcgckapoljpaaGreat.treeShares
open Go.ChangeShapes Go.WideShapes Go.ChangeAt Go.WideMaps Go.WideElems Go.RowKit Go.Deep
open Go.ChangeMaps (open_string shut_string)
theorem own:ownKnob Tryz.prog.godebug=none:=by kernel_rfl
theorem laidOut:laidOutB Tryz.prog=true:=by kernel_rfl
theorem bytes_u8:Tryz.prog.bytesOf 5=1:=by kernel_rfl
theorem bytes_i64:Tryz.prog.bytesOf 3=8:=by kernel_rfl
set_option linter.unusedVariables false
theorem lifted (os:Os)(started:os.Started)(H:Type)(enc:TypeId × Value->H) :
  ReturnsInHanded {} Tryz.checked os 4 .any (Rows.treeSharesSpec.pre6 enc Tryz.prog Tryz.f4 Rows.treeSharesRow.domain false) (Rows.treeSharesSpec.post enc Tryz.prog Tryz.f4 false true false false):=by
 refine returnsInHanded_of_change_sized (C:=Tryz.checked) own started (by kernel_rfl) Tryz.func4
  (ChangeSpec.witness6 (enc:=enc) (C:=Tryz.checked) false ⟨#[],#[.slice none 0 0,.agg #[.slice none 0 0,.slice none 0 0,.bool false,.bool false,.int .i64 0]],[]⟩ 8 (by kernel_rfl) (by kernel_rfl) (by kernel_rfl) (by kernel_rfl)) ?_
 intro W base args ds gs before hval0 hW hcnd hsz0 _;have hval:∀ (j:Nat) t v,Tryz.f4.params[j]?=some t->args[j]?=some v->Value.okWide Tryz.prog W .any base t v:=hval0;have hsz:(DataW.weightsEach Tryz.prog (Tryz.f4.params.toList++Rows.treeSharesSpec.plain.varTypes Tryz.prog) (ds++gs)).all (·<=reachBytes)=true:=hsz0;clear hsz0;have hW':=hW;obtain ⟨p,q,hA0,hV,rfl,hfz,hnd⟩:=hW;have hA:DataW.TrodAll enc Tryz.prog W 0 (fun _=>true) true Tryz.f4.params.toList args.toList ds p:=hA0;rw [Tryz.params4] at hA hval hsz;obtain ⟨v0,vs0,d0,ds0,p0,q0,hargs,rfl,rfl,h0,r0⟩:=trodAll_cons hA;obtain ⟨v1,vs1,d1,ds1,p1,q1,rfl,rfl,rfl,h1,r1⟩:=trodAll_cons r0;obtain ⟨rfl,rfl,rfl⟩:=trodAll_nil r1;obtain rfl:args=#[v0,v1]:=by cases args;simp_all
 obtain ⟨rfl,rfl⟩:=trodVars_none hV;obtain ⟨a0,len0,cap0,rfl⟩:=okWide_slice Tryz.underlying22 (hval 0 22 v0 rfl rfl);have k0:=h0;have lt0:∀ x∈p0,x.block<W.heap.size:=by obtain ⟨m,hm⟩:=k0;exact DataW.trod_lt m _ _ _ hm
 obtain ⟨z0,b0,e0,l0,c0⟩:∃ L,AcW W a0 L/\L.length=len0/\len0<=cap0/\cap0<=9223372036854775807:=by
  obtain ⟨fuel,hf⟩:=h0;exact acts_open (by simpa [Value.cells] using hf)
 obtain ⟨ka1,kn1,kc1,ky1,va1,vn1,vc1,vl1,go1,mk1,no1,rfl,kb1,kt1,vb1,vt1⟩:=act_in (hval 1 32 v1 rfl rfl) h1;have k1:=h1;have lt1:∀ x∈p1,x.block<W.heap.size:=by obtain ⟨m,hm⟩:=k1;exact DataW.trod_lt m _ _ _ hm
 clear hA0 hval0;refine (treeShares_walk a0 len0 cap0 z0 ka1 kn1 kc1 ky1 va1 vn1 vc1 vl1 go1 mk1 no1 W b0 e0 kb1 kt1 vb1 vt1).mono fun e W' ⟨he,hg⟩=>?_
 subst he;have bel:=below_ofW hg;exact ⟨_,rfl,_,_,_,[],_,[],hW',trodAll_mk1 (shut_bool Tryz.underlying4 _),(trodAll_cons_mk (Below.trod laidOut (by kernel_rfl) (of_decide_eq_true (by kernel_rfl)) k0 bel lt0) (trodAll_cons_mk (Below.trod laidOut (by kernel_rfl) (of_decide_eq_true (by kernel_rfl)) k1 bel lt1) trodAll_mk0)),rfl,bel.frame _,fun h=>by cases h⟩
theorem over:Rows.treeSharesRow.holds Tryz.pinned (OpenSpec.ofChange Rows.treeSharesSpec) :=
 OpenClaim.holds_of_wide 4 Tryz.f4 rfl rfl rfl rfl rfl rfl rfl ⟨rfl,rfl,rfl,rfl,rfl⟩ rfl rfl rfl rfl rfl (by kernel_rfl) Tryz.func4 (by kernel_rfl)
  (of_decide_eq_true (by kernel_rfl)) (by unfold Func.isWrapper;first | (rw [if_pos (by decide +kernel)];kernel_rfl) | (rw [if_neg (by decide +kernel)];exact ⟨rfl,rfl⟩))
  (fun os started H enc _=>lifted os started H enc)
end Go.Proofs.YtepcgckapoljpaaGreat.treeShares
namespace Go.Proofs.YtepcgckapoljpaaGreat
theorem treeShares_holds:Rows.TreeSharesSaid:=treeShares.over
#print axioms treeShares_holds
end Go.Proofs.YtepcgckapoljpaaGreat
