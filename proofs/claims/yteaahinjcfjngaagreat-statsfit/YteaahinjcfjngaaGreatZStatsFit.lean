import Derived.Test.YteaahinjcfjngaaGreatQ54
import Derived.Deep.RegionHeld3
import Derived.Deep.DrawnRows
import Derived.Test.YteaahinjcfjngaaGreatQ50
import Derived.WalkKit
import Derived.ProofKit
import Derived.OpenShut
import Derived.ShutString
import Derived.ChangeOld
import Derived.Below
import Derived.SizedLaws
import Derived.Deep.Slices
import Derived.Laws.Cover2
import Derived.Test.YteaahinjcfjngaaGreatRows
set_option maxRecDepth 100000
set_option maxHeartbeats 32000000
namespace Go.Proofs.YteaahinjcfjngaaGreat
open Go.RowKit
theorem fit_any (a:Option Addr)(n c:Nat)(xs:List RnT)(w:World)(hx:RnU w a xs)(hn:xs.length=n)(hb:∀ x∈xs,RnB x) :
  Calls Tryz.prog 7 #[.slice a n c] w fun en w'=>en=.returned (.bool true)/\w.grownBy w' none:=by
 have HX:=hZq (fun (W:World) (hW:w.grownBy W none)=>hx.kept (CkF.of hW));have MD:=hZq (fun (W:World) (hW:w.grownBy W none)=>made_any a n c xs W (hx.kept (CkF.of hW)) hn hb);have HN:=hZq hn;have hsf:=store_f22;clear hx hn hb;go_enter Tryz.func7,Tryz.ntmps7
 go_wp2_with fail
 refine (first22 w).mono ?_;rintro en w1 ⟨rfl,hg1⟩;have G1:=hZq hg1;clear hg1
 go_wp2_with fail
 refine (MD.out w1 G1.out).mono ?_;rintro en w2 ⟨⟨p,t,rfl,ht,hbk,hl3⟩ | rfl,hg2⟩
 ·have HT:=hZq ht
  have HBK:=hZq (trs_built hbk hl3);have HL3:=hZq hl3;have G2:=hZq (gZq G1.out hg2);clear ht hbk hl3 hg2 MD G1;have HTS:=hZq HBK.out.1;have HTL:Hid ((tellO t).length=n):=by have h1:=HBK.out.2.1;have h2:=HN.out;show _=_;omega
  have HNV:Hid (∀ W:World,w2.grownBy W none->NvL W a (tellO t)):=fun W hW=>by
   match t,HBK.out.2.2,HTL.out with
   | none,_,_=>exact fun i x h=>by simp [tellO] at h
   | some t0,h,_=>exact (HX.out W (gZq G2.out hW)).nv (h t0 rfl)
  have OF:=hZq (of_any t p w2 HT.out HTS.out);have LV:=hZq (fun (W:World) (hW:w2.grownBy W none)=>levels_any t p W (HT.out.kept (FrT.of hW)) HTS.out);have HFL:Hid ((flatO t).length=sumT kyN (tellO t)):=by show _=_;rw [sum_ky,tellO_ps]
  have HKB:Hid (sumT kyN (tellO t)<=7000000):=by
   have h1:=sumT_bound22 (f:=kyN) (c:=2046) (tellO t) (fun x hx=>(HTS.out.sz x hx).pn);have h2:=HBK.out.2.1;have h3:=HL3.out
   show _<=_
   omega
  have LE:=hZq (fun (W:World) (hW:w2.grownBy W none)=>len_any t p W (HT.out.kept (FrT.of hW)) HTS.out.ok (by rw [HFL.out];have:=HKB.out;omega));rw [HFL.out] at LE;have HNB:Hid (n<=3000):=by have h1:=HN.out;have h2:=HL3.out;show _<=_;omega
  clear HBK HT HX HL3 HFL HN
  go_wp2_with fail
  refine OF.out.mono ?_;rintro en w3 ⟨rfl,hg3⟩;have G3:=hZq hg3;clear hg3 OF;have HSV:Hid (sumV (tellO t)=#[.int .i64 (sumT kyN (tellO t):Nat),.int .i64 (sumT kbN (tellO t):Nat),.int .i64 (sumT vbN (tellO t):Nat),.int .i64 (sumT pgN (tellO t):Nat),.int .i64 (sumT usN (tellO t):Nat),.float .f64 (if sumT pgN (tellO t)=0 then 0 else quW (sumT usN (tellO t)) (sumT pgN (tellO t)*4092))]):=rfl;rw [HSV.out];have HPG:=hZq (sum_pg (tellO t));have HUS:=hZq (sum_us (tellO t))
  have HUB:Hid (sumT usN (tellO t)<=1609052148000/\sumT pgN (tellO t)<=398973000):=by
   have h2:=HTL.out;have h3:=HNB.out
   have hp:∀ x∈tellO t,usN x<=536350716/\pgN x<=132991:=fun x hx=>by
    have sz:=HTS.out.sz x hx;have b1:=sumT_bound22 (f:=fun p:PrT=>chN p.val.length) (c:=65) x.ps (fun q hq=>ch_le65 (sz.pv q hq).2.1);have b2:=sumT_bound22 (f:=fun p:PrT=>if 512<p.val.length then p.val.length else 0) (c:=262144) x.ps (fun q hq=>Nat.le_trans (ite_le22 _) (sz.pv q hq).2.1);have:=sz.pn;have:=sz.hi;unfold usN pgN;omega
   have b1:=sumT_bound22 (f:=usN) (c:=536350716) (tellO t) (fun x hx=>(hp x hx).1);have b2:=sumT_bound22 (f:=pgN) (c:=132991) (tellO t) (fun x hx=>(hp x hx).2);refine ⟨?_,?_⟩ <;> omega
  obtain ⟨ky,hky⟩:∃ v,sumT kyN (tellO t)=v:=⟨_,rfl⟩;obtain ⟨pg,hpg⟩:∃ v,sumT pgN (tellO t)=v:=⟨_,rfl⟩;obtain ⟨us,hus⟩:∃ v,sumT usN (tellO t)=v:=⟨_,rfl⟩;rw [hky,hpg,hus];rw [hpg] at HPG HUB;rw [hus] at HUS HUB;rw [hky] at LE HKB;clear hky hpg hus HSV;generalize sumT kbN (tellO t)=kb at *;generalize sumT vbN (tellO t)=vb at *;generalize (if pg=0 then 0 else quW us (pg*4092))=fl at *;go_upto_region 6 with fail
  have ga:=World.grownBy_alloc w3 (.cells #[.int .i64 (ky:Nat),.int .i64 (kb:Nat),.int .i64 (vb:Nat),.int .i64 (pg:Nat),.int .i64 (us:Nat),.float .f64 fl] 28) none;have XS:=hZq (heap_at0 w3 #[.int .i64 (ky:Nat),.int .i64 (kb:Nat),.int .i64 (vb:Nat),.int .i64 (pg:Nat),.int .i64 (us:Nat),.float .f64 fl] 28);have G5:=hZq (gZq G3.out ga);clear ga G3;generalize w3.alloc (.cells #[.int .i64 (ky:Nat),.int .i64 (kb:Nat),.int .i64 (vb:Nat),.int .i64 (pg:Nat),.int .i64 (us:Nat),.float .f64 fl] 28)=w5 at *;generalize w3.heap.size=E at *
  go_wp2_with fail
  refine (LV.out w5 G5.out).mono ?_;rintro en w6 ⟨g,rfl,_,hfl,hg6⟩;have XS6:=hZq (heap_kept XS.out hg6);have F6:=hZq hfl;have G6:=hZq (gZq G5.out hg6);clear hfl hg6 LV XS G5;have HHI:=hZq HTS.out.hi;have HLO:=hZq HTS.out.lo;have HSA:=hZq (lvS_all oneN (tellO t) HTS.out.lv);have HSB:=hZq (lvS_all nsz (tellO t) HTS.out.lv);rw [sum_one,HTL.out] at HSA;obtain ⟨m,hm⟩:∃ m,highO t=m:=⟨_,rfl⟩;rw [hm] at F6 HHI HLO HSA HSB ⊢;clear hm;have hmb:=HHI.out
  go_wp2_with fail
  go_loopw [7,8,9] (fun s7 s8 s9 wr=>∃ k:Nat,k<=m/\s9=.int .i64 (k:Nat)/\s7=.int .i64 (lvS oneN (tellO t) k:Nat)/\s8=.int .i64 (lvS nsz (tellO t) k:Nat)/\w6.grownBy wr none) (fun _ _ s9 _=>m - (intOf s9).toNat)
  case atStart=>exact ⟨0,Nat.zero_le _,rfl,rfl,rfl,World.grownBy.refl _ _⟩
  case round =>
   obtain ⟨k,hk,rfl,rfl,rfl,hg⟩:=hrel;have HG:=hZq hg;clear hg
   by_cases hlt:k<m
   ·have FT:=hZq (fit22 (L:=atL (tellO t) k) (List.length_pos_iff.2 (HLO.out k hlt)) (Nat.le_trans (atL_len _ _) HTS.out.ln) (fun x hx=>HTS.out.sz x (atL_mem hx)))
    have FW:=hZq (F6.out.keptN HG.out);have F0:=lvls_at (xs:=tellO t) hlt;have c1:=FW.out.get (f:=1) F0 rfl;have c2:=FW.out.get (f:=2) F0 rfl;have c3:=FW.out.get (f:=3) F0 rfl;have c4:=FW.out.get (f:=4) F0 rfl;have c5:=FW.out.get (f:=5) F0 rfl;have c6:=FW.out.get (f:=6) F0 rfl;have H1:Hid (lvS oneN (tellO t) (k+1)=lvS oneN (tellO t) k+(atL (tellO t) k).length):=by show _=_;rw [lvS,sum_one]
    have H2:Hid (lvS nsz (tellO t) (k+1)=lvS nsz (tellO t) k+sumT nsz (atL (tellO t) k)):=rfl
    have b1:lvS oneN (tellO t) (k+1)<=3000:=by
     have h1:=lvS_mono oneN (tellO t) (show k+1<=m by omega);have h2:=HSA.out;have h3:=HNB.out;omega
    have b2:lvS nsz (tellO t) (k+1)<=1609052148000:=by
     have h1:=lvS_mono nsz (tellO t) (show k+1<=m by omega);have h2:=HSB.out;have h3:=HUS.out;have h4:=HUB.out.1;omega
    rw [H1.out] at b1;rw [H2.out] at b2;clear F0;obtain ⟨sa,hsa⟩:∃ v,lvS oneN (tellO t) k=v:=⟨_,rfl⟩;obtain ⟨sb,hsb⟩:∃ v,lvS nsz (tellO t) k=v:=⟨_,rfl⟩;rw [hsa] at H1 b1 ⊢;rw [hsb] at H2 b2 ⊢;clear hsa hsb;obtain ⟨f1,f2,f3,f4,f5,f6,f7⟩:=FT.out;clear FT;generalize mnF (atL (tellO t) k) 4092=mn at *;generalize mxF (atL (tellO t) k) 0=mx at *;generalize quW (sumT nsz (atL (tellO t) k)) ((atL (tellO t) k).length*4092)=me at *;generalize spW (sumT (sqN (sumT nsz (atL (tellO t) k) / (atL (tellO t) k).length)) (atL (tellO t) k)) (atL (tellO t) k).length=sp at *;generalize (atL (tellO t) k).length=cn at *;generalize sumT nsz (atL (tellO t) k)=sn at *;have d1:=fun (W:World)=>run_quo22 W (t:=26) (qu_some (a:=mn) (b:=4092) (by omega) (by omega) (by omega)).1
    have d2:=fun (W:World)=>run_quo22 W (t:=26) (qu_some (a:=mx) (b:=4092) (by omega) (by omega) (by omega)).1
    have e1:=floatOf_nat mn;have e2:=floatOf_nat mx;rw [in4092] at d1 d2;obtain ⟨lo,hlo⟩:∃ U,quW mn 4092=U:=⟨_,rfl⟩;obtain ⟨hi,hhi⟩:∃ V,quW mx 4092=V:=⟨_,rfl⟩;rw [hlo] at d1 f1;rw [hhi] at d2 f2;clear hlo hhi;have i0:(0:Int)<=(k:Int):=by omega
    have i1:(k:Int)<(m:Int):=by omega
    have j1:¬ (4092:Int)<(mx:Int):=by omega
    have j2:¬ (mn:Int)<5:=by omega
    go_upto_region 16 with fail
    go_region_held3 (fun w'=>w'.cell? ⟨g,k*7+3,none⟩=some (.int .i64 (mn:Nat))/\w'.cell? ⟨g,k*7+4,none⟩=some (.int .i64 (mx:Nat))/\w'.cell? ⟨g,k*7+5,none⟩=some (.float .f64 me)/\w'.cell? ⟨g,k*7+6,none⟩=some (.float .f64 sp)) (go_keep) (fail)
    have GD:=hZq (gZq HG.out ((Qt.refl wr).drew.grown none));clear HG FW c1 c2 c3 c4 c5 c6 d1 d2 e1 e2 f1 f2 f3 f4
    go_wp2_with fail
    refine ⟨⟨k+1,by omega,by go_num,by rw [H1.out];go_num,by rw [H2.out];go_num,GD.out⟩,?_⟩;simp [intOf];omega
   ·obtain rfl:k=m:=by omega
    rw [HSA.out,HSB.out];have G7:=hZq HG.out;clear F6 HG HSA HSB HLO HHI hmb hlt hk;obtain ⟨sn,hsn⟩:∃ v,sumT nsz (tellO t)=v:=⟨_,rfl⟩;rw [hsn] at HUS ⊢;clear hsn;have hnb:=HNB.out
    go_wp2_with fail
    go_loopw [12,13,14] (fun s12 s13 s14 wq=>∃ j:Nat,j<=n/\s14=.int .i64 (j:Nat)/\s12=.int .i64 (sumT cpN ((tellO t).take j):Nat)/\s13=.int .i64 (sumT cbN ((tellO t).take j):Nat)/\w6.grownBy wq none) (fun _ _ s14 _=>n - (intOf s14).toNat)
    case atStart=>exact ⟨0,Nat.zero_le _,rfl,rfl,rfl,G7.out⟩
    case round =>
     obtain ⟨j,hj,rfl,rfl,rfl,hg⟩:=hrel;have HG:=hZq hg;clear hg
     by_cases hlt:j<n
     ·obtain ⟨x,hx⟩:∃ x,(tellO t)[j]?=some x:=⟨_,List.getElem?_eq_getElem (by have:=HTL.out;omega)⟩
      have HXX:=hZq hx;have SZ:=hZq (HTS.out.sz x (List.mem_of_getElem? hx));have HC1:=hZq (sumT_step cpN hx);have HC2:=hZq (sumT_step cbN hx)
      have HB1:Hid (sumT cpN ((tellO t).take j)+cpN x<=398973000):=by
       have h1:=sumT_part cpN (tellO t) (j+1);have h2:=HPG.out;have h3:=HUB.out.2;rw [HC1.out] at h1
       show _<=_
       omega
      have HB2:Hid (sumT cbN ((tellO t).take j)+cbN x<=1609052148000):=by
       have h1:=sumT_part cbN (tellO t) (j+1);have h2:=HUS.out;have h3:=HUB.out.1;rw [HC2.out] at h1
       show _<=_
       omega
      obtain ⟨A,hA⟩:∃ v,sumT cpN ((tellO t).take j)=v:=⟨_,rfl⟩;obtain ⟨B,hB⟩:∃ v,sumT cbN ((tellO t).take j)=v:=⟨_,rfl⟩;rw [hA] at HC1 HB1 ⊢;rw [hB] at HC2 HB2 ⊢;clear hA hB hx;obtain ⟨pn,hpn⟩:∃ v,x.ps.length=v:=⟨_,rfl⟩;have HPN:=hZq hpn;have hpm:pn<=2046:=by rw [<- hpn];exact SZ.out.pn
      clear hpn;have i0:(0:Int)<=(j:Int):=by omega
      have i1:(j:Int)<(n:Int):=by omega
      go_wp2_with fail
      go_loopw [12,13,15] (fun s12 s13 s15 wz=>∃ i:Nat,i<=pn/\s15=.int .i64 (i:Nat)/\s12=.int .i64 ((A+sumT (fun p:PrT=>chN p.val.length) (x.ps.take i):Nat):Int)/\s13=.int .i64 ((B+sumT (fun p:PrT=>if 512<p.val.length then p.val.length else 0) (x.ps.take i):Nat):Int)/\w6.grownBy wz none) (fun _ _ s15 _=>pn - (intOf s15).toNat)
      case atStart=>exact ⟨0,Nat.zero_le _,rfl,rfl,rfl,HG.out⟩
      case round =>
       obtain ⟨i,hi,rfl,rfl,rfl,hg⟩:=hrel;have HGZ:=hZq hg;clear hg;obtain ⟨b,off,pa,pc,ca,cn,cc,sa,sc,ka,kn,kc,rfl,hv⟩:=HNV.out wr (gZq G6.out HGZ.out) j x HXX.out;have c2:=hv.c2;rw [HPN.out] at c2
       by_cases hlt2:i<pn
       ·obtain ⟨q,hq⟩:∃ q,x.ps[i]?=some q:=⟨_,List.getElem?_eq_getElem (by have:=HPN.out;omega)⟩
        obtain ⟨pb,poff,ka',kc',va',vc',rfl,e0,e1,_⟩:=hv.p i q hq;have HT1:=hZq (sumT_step (fun p:PrT=>chN p.val.length) hq);have HT2:=hZq (sumT_step (fun p:PrT=>if 512<p.val.length then p.val.length else 0) hq);have hvl:=(SZ.out.pv q (List.mem_of_getElem? hq)).2.1
        have b1:A+(sumT (fun p:PrT=>chN p.val.length) (x.ps.take i)+chN q.val.length)<=398973000:=by
         have h1:=sumT_part (fun p:PrT=>chN p.val.length) x.ps (i+1);have h2:cpN x=sumT (fun p:PrT=>chN p.val.length) x.ps:=rfl;have h3:=HB1.out;rw [HT1.out] at h1;omega
        have b2:B+(sumT (fun p:PrT=>if 512<p.val.length then p.val.length else 0) (x.ps.take i)+if 512<q.val.length then q.val.length else 0)<=1609052148000:=by
         have h1:=sumT_part (fun p:PrT=>if 512<p.val.length then p.val.length else 0) x.ps (i+1);have h2:cbN x=sumT (fun p:PrT=>if 512<p.val.length then p.val.length else 0) x.ps:=rfl;have h3:=HB2.out;rw [HT2.out] at h1;omega
        obtain ⟨s1,hs1⟩:∃ v,sumT (fun p:PrT=>chN p.val.length) (x.ps.take i)=v:=⟨_,rfl⟩;obtain ⟨s2,hs2⟩:∃ v,sumT (fun p:PrT=>if 512<p.val.length then p.val.length else 0) (x.ps.take i)=v:=⟨_,rfl⟩;rw [hs1] at HT1 b1 ⊢;rw [hs2] at HT2 b2 ⊢;clear hs1 hs2 e0 hq hv;generalize q.val.length=vn at *;have i2:(0:Int)<=(i:Int):=by omega
        have i3:(i:Int)<(pn:Int):=by omega
        by_cases h5:512<vn
        ·have h5':(512:Int)<(vn:Int):=by omega
         rw [if_pos h5] at b2 HT2;have HCH:Hid (chN vn=(vn+4084) / 4085):=if_neg (by omega);rw [HCH.out] at b1 HT1;clear h5
         go_wp2_with fail
         refine ⟨⟨i+1,by omega,by go_num,by rw [HT1.out];go_num,by rw [HT2.out];go_num,HGZ.out⟩,?_⟩;simp [intOf];omega
        ·have h5':¬ (512:Int)<(vn:Int):=by omega
         rw [if_neg h5] at b2 HT2;have HCH:Hid (chN vn=0):=if_pos (by omega);rw [HCH.out] at b1 HT1;clear h5
         go_wp2_with fail
         refine ⟨⟨i+1,by omega,by go_num,by rw [HT1.out];go_num,by rw [HT2.out];go_num,HGZ.out⟩,?_⟩;simp [intOf];omega
       ·obtain rfl:i=pn:=by omega
        have e:x.ps.take i=x.ps:=by rw [<- HPN.out,List.take_length]
        rw [e];have k1:cpN x=sumT (fun p:PrT=>chN p.val.length) x.ps:=rfl;have k2:cbN x=sumT (fun p:PrT=>if 512<p.val.length then p.val.length else 0) x.ps:=rfl;rw [<- k1,<- k2];have b1:=HB1.out;have b2:=HB2.out;clear k1 k2 e hv
        go_wp2_with fail
        refine ⟨⟨j+1,by omega,by go_num,by rw [HC1.out],by rw [HC2.out],HGZ.out⟩,?_⟩;simp [intOf];omega
     ·obtain rfl:j=n:=by omega
      have e:(tellO t).take j=tellO t:=by rw [<- HTL.out,List.take_length]
      rw [e];have LE2:=hZq (fun (W:World) (hW:wr.grownBy W none)=>LE.out W (gZq G6.out (gZq HG.out hW)));have XS7:=heap_kept XS6.out HG.out;have s0:=cell_heap (i:=0) XS7 rfl;have s3:=cell_heap (i:=3) XS7 rfl;have s4:=cell_heap (i:=4) XS7 rfl;have GF:=hZq (gZq G2.out (gZq G6.out HG.out));have p1:(pg:Int)=(j:Int)+((sumT cpN (tellO t):Nat):Int):=by have:=HPG.out;have:=HTL.out;omega
      have p2:(us:Int)=(sn:Int)+((sumT cbN (tellO t):Nat):Int):=by have:=HUS.out;omega
      have p3:=HUB.out;have p4:=HKB.out;generalize sumT cpN (tellO t)=A at *;generalize sumT cbN (tellO t)=B at *;clear XS7 XS6 HG LE e hlt hj;have hw1:IntKind.i64.wrap ((j:Int)+(A:Int))=(pg:Int):=by rw [p1];exact wrap_id10 (by omega) (by omega)
      have hw2:IntKind.i64.wrap ((sn:Int)+(B:Int))=(us:Int):=by rw [p2];exact wrap_id10 (by omega) (by omega)
      have KP:Hid (∀ W:World,wr.drew.grownBy W none->W.cell? ⟨E,0,none⟩=some (.int .i64 (ky:Nat))/\W.cell? ⟨E,3,none⟩=some (.int .i64 (pg:Nat))/\W.cell? ⟨E,4,none⟩=some (.int .i64 (us:Nat))):=fun W hW=>⟨hW.cell (((Qt.refl wr).drew.grown none).cell s0 (by simp)) (by simp),hW.cell (((Qt.refl wr).drew.grown none).cell s3 (by simp)) (by simp),hW.cell (((Qt.refl wr).drew.grown none).cell s4 (by simp)) (by simp)⟩
      have TT:=hZq (KP.out wr.drew (World.grownBy.refl _ _));clear p1 p2 s0 s3 s4;go_upto_region 30 with fail
      go_region_held3 (fun w'=>w'.cell? ⟨E,0,none⟩=some (.int .i64 (ky:Nat))/\w'.cell? ⟨E,3,none⟩=some (.int .i64 (pg:Nat))/\w'.cell? ⟨E,4,none⟩=some (.int .i64 (us:Nat))) (first | (with_reducible exact TT.out) | (with_reducible exact T5) | go_keep) ((go_at_call 25;refine (LE2.out _ ((Qt.refl _).drew.grown none)).mono ?_;rintro en w7 ⟨rfl,hg7⟩;have H7:=hZq hg7;have T5:=KP.out w7 hg7))
      go_wp2;go_ret;exact ⟨rfl,gZq GF.out (gZq ((Qt.refl _).drew.grown none) H7.out)⟩
 ·have G2:=hZq (gZq G1.out hg2)
  clear hg2 MD G1;go_wp2;go_ret;exact ⟨rfl,G2.out⟩
end Go.Proofs.YteaahinjcfjngaaGreat
namespace Go.Proofs.YteaahinjcfjngaaGreat.statsFit
open Go.ChangeShapes Go.WideShapes Go.ChangeAt Go.WideMaps Go.WideElems Go.RowKit Go.Deep
open Go.ChangeMaps (open_string shut_string)
theorem own:ownKnob Tryz.prog.godebug=none:=by kernel_rfl
theorem laidOut:laidOutB Tryz.prog=true:=by kernel_rfl
theorem bytes_u8:Tryz.prog.bytesOf 5=1:=by kernel_rfl
theorem bytes_i64:Tryz.prog.bytesOf 3=8:=by kernel_rfl
set_option linter.unusedVariables false
theorem lifted (os:Os)(started:os.Started)(H:Type)(enc:TypeId × Value->H) :
  ReturnsInHanded {} Tryz.checked os 7 .any (Rows.statsFitSpec.pre6 enc Tryz.prog Tryz.f7 Rows.statsFitRow.domain false) (Rows.statsFitSpec.post enc Tryz.prog Tryz.f7 false true false false):=by
 refine returnsInHanded_of_change_sized (C:=Tryz.checked) own started (by kernel_rfl) Tryz.func7
  (ChangeSpec.witness6 (enc:=enc) (C:=Tryz.checked) false ⟨#[],#[.slice none 0 0],[]⟩ 8 (by kernel_rfl) (by kernel_rfl) (by kernel_rfl) (by kernel_rfl)) ?_
 intro W base args ds gs before hval0 hW hcnd hsz0 _;have hval:∀ (j:Nat) t v,Tryz.f7.params[j]?=some t->args[j]?=some v->Value.okWide Tryz.prog W .any base t v:=hval0;have hsz:(DataW.weightsEach Tryz.prog (Tryz.f7.params.toList++Rows.statsFitSpec.plain.varTypes Tryz.prog) (ds++gs)).all (·<=reachBytes)=true:=hsz0;clear hsz0;have hW':=hW;obtain ⟨p,q,hA0,hV,rfl,hfz,hnd⟩:=hW;have hA:DataW.TrodAll enc Tryz.prog W 0 (fun _=>true) true Tryz.f7.params.toList args.toList ds p:=hA0;rw [Tryz.params7] at hA hval hsz;obtain ⟨v0,vs0,d0,ds0,p0,q0,hargs,rfl,rfl,h0,r0⟩:=trodAll_cons hA;obtain ⟨rfl,rfl,rfl⟩:=trodAll_nil r0;obtain rfl:args=#[v0]:=by cases args;simp_all
 obtain ⟨rfl,rfl⟩:=trodVars_none hV;obtain ⟨a0,len0,cap0,rfl⟩:=okWide_slice Tryz.underlying22 (hval 0 22 v0 rfl rfl);have k0:=h0;have lt0:∀ x∈p0,x.block<W.heap.size:=by obtain ⟨m,hm⟩:=k0;exact DataW.trod_lt m _ _ _ hm
 obtain ⟨z0,b0,l0,t0⟩:∃ xs,RnU W a0 xs/\xs.length=len0/\∀ x∈xs,RnB x:=by
  obtain ⟨fuel,hf⟩:=h0;obtain ⟨xs,h1,h2,_,_,h3⟩:=nodes_open22 (by simpa [Value.cells] using hf) (Wt22.of hsz (j:=0) rfl rfl);exact ⟨xs,h1,h2,h3⟩
 clear hA0 hval0;refine (fit_any a0 len0 cap0 z0 W b0 l0 t0).mono fun e W' ⟨he,hg⟩=>?_
 subst he;have bel:=below_ofW hg;exact ⟨_,rfl,_,_,_,[],_,[],hW',trodAll_mk1 (shut_bool Tryz.underlying4 _),(trodAll_cons_mk (Below.trod laidOut (by kernel_rfl) (of_decide_eq_true (by kernel_rfl)) k0 bel lt0) trodAll_mk0),rfl,bel.frame _,fun h=>by cases h⟩
theorem over:Rows.statsFitRow.holds Tryz.pinned (OpenSpec.ofChange Rows.statsFitSpec) :=
 OpenClaim.holds_of_wide 7 Tryz.f7 rfl rfl rfl rfl rfl rfl rfl ⟨rfl,rfl,rfl,rfl,rfl⟩ rfl rfl rfl rfl rfl (by kernel_rfl) Tryz.func7 (by kernel_rfl)
  (of_decide_eq_true (by kernel_rfl)) (by unfold Func.isWrapper;first | (rw [if_pos (by decide +kernel)];kernel_rfl) | (rw [if_neg (by decide +kernel)];exact ⟨rfl,rfl⟩))
  (fun os started H enc _=>lifted os started H enc)
end Go.Proofs.YteaahinjcfjngaaGreat.statsFit
namespace Go.Proofs.YteaahinjcfjngaaGreat
theorem statsFit_holds:Rows.StatsFitSaid:=statsFit.over
#print axioms statsFit_holds
end Go.Proofs.YteaahinjcfjngaaGreat
