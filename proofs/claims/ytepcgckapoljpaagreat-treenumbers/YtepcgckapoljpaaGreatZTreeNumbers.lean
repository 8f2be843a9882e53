import Derived.Test.YtepcgckapoljpaaGreatQ47
import Derived.Test.YtepcgckapoljpaaGreatQ49
import Derived.Deep.CutBlock
import Derived.Test.YtepcgckapoljpaaGreatQ50
import Derived.WalkKit
import Derived.ProofKit
import Derived.OpenShut
import Derived.ShutString
import Derived.ChangeOld
import Derived.Below
import Derived.SizedLaws
import Derived.Deep.Slices
import Derived.Test.YtepcgckapoljpaaGreatRows
set_option maxRecDepth 100000
set_option maxHeartbeats 64000000
namespace Go.Proofs.YtepcgckapoljpaaGreat
open Go.RowKit
theorem treeNumbers_walk (a:Option Addr)(n c:Nat)(C:List AcT)(frm:Int)(w:World)(hC:AcW w a C)(hn:C.length=n) :
  Calls Tryz.prog 5 #[.slice a n c,.int .i64 frm] w fun en w'=>en=.returned (.bool true)/\w.grownBy w' none:=by
 obtain ⟨ti,hti,hz0,hz1,hz2⟩:=info_parts info_ints10;have HC:=hZq hC;have HCN:=hZq hn;clear hC hn;go_enter Tryz.func5,Tryz.ntmps5
 go_wp2_with fail
 refine (first10 w).mono ?_;rintro en w1 ⟨rfl,hg1⟩;have G1:=hZq hg1;have GC:=hZq (grown10_any a n c C w1 (HC.out.cef (CeF.of hg1)) HCN.out);clear hg1
 go_wp2_with fail
 refine GC.out.mono ?_;rintro en w2 ⟨q,t,rfl,hI⟩;have HT:=hZq hI.tr;have SD:=hZq hI.sd;have HN:=hZq hI.hn;have HF:=hZq hI.le;have G2:=hZq (gZq G1.out hI.gr);have TZ:=hZq (tz_of hI.sd hI.le);have PG:=hZq (hI.sd.pages hI.le);clear hI GC G1;have NC:=hZq (numbersL_any t q w2 HT.out SD.out.nq)
 go_wp2_with fail
 refine NC.out.mono ?_;rintro en w3 ⟨na,nn,nc,has,rfl,hn3,hr3,hm3,hv3,hg3⟩;have N3:=hZq hn3;have R3:=hZq hr3;have M3:=hZq hm3;have H3:=hZq hg3;clear hn3 hr3 hm3 hv3 hg3 NC;obtain ⟨F,hF⟩:∃ F,frO t=F:=⟨_,rfl⟩;have HFR:=hZq hF;have FC:=hZq (tfresh_any t q w3 (HT.out.kept (FrT.of H3.out)) SD.out.ok (by have:=PG.out;omega));rw [hF] at FC;have hFb:F<=144000:=by have:=PG.out;omega
 clear hF
 go_wp2_with fail
 refine FC.out.mono ?_;rintro en w4 ⟨rfl,hg4⟩;have H4:=hZq (gZq H3.out hg4);have N4:=hZq (EsT.kept N3.out (by decide) (FrT.of hg4));clear hg4 FC N3 H3;have UC:=hZq (unlike_any na nn nc has frm F w4 N4.out (by omega))
 go_wp2_with fail
 refine UC.out.mono ?_;rintro en w5 ⟨ua,un,uc,zs,rfl,hz5,hu5,hg5⟩;have H5:=hZq (gZq H4.out hg5);have Z5:=hZq hz5;have U5:=hZq hu5;have hul:=hz5.num;have HUL:=hZq hul;clear hg5 hz5 hu5 hul UC N4 H4
 by_cases hun:un=F
 ·have hb:((un:Int) != (F:Int))=false:=by simp [hun]
  have TK:Hid (tkL (gatO t) zs=true):=un_tk (lo:=frm) M3.out (by rw [HFR.out];exact U5.out);have HLN:Hid (zs.length=frO t):=by show _=_;rw [HFR.out,<- hun];exact HUL.out
  have NB:=hZq (numbered_any t q ua un uc zs w5 (HT.out.kept (FrT.of H5.out)) SD.out.ok SD.out.nq (by have:=PG.out;omega) Z5.out (fun z hz=>by obtain ⟨h1,h2,_⟩:=tk_q TK.out z hz;omega));subst hun
  go_wp2_with fail
  refine NB.out.mono ?_;rintro en w6 ⟨hen,hg6⟩;rw [if_pos ⟨HLN.out,TK.out⟩] at hen;obtain ⟨q2,rfl,ht6⟩:=hen;have T6:=hZq ht6;have H6:=hZq (gZq H5.out hg6);have Z6:=hZq (EsT.kept Z5.out (by decide) (FrT.of hg6));clear ht6 hg6 NB Z5 H5;obtain ⟨su,fu⟩:=SD.out.num (zs:=zs) (fun z hz=>by have:=tk_q TK.out z hz;exact .inr ⟨this.1,this.2.1⟩);have SU:=hZq su;have hnz:∀ z∈zs,z≠0:=fun z hz=>by have:=tk_q TK.out z hz;omega
  have HNZ:=hZq hnz
  have FU:Hid ((flatO (numO t zs)).length<=2000):=by
   have h1:=congrArg List.length fu;rw [List.length_map,List.length_map] at h1
   show _<=_
   rw [h1];exact HF.out
  have FZ:=hZq (num_fresh HLN.out hnz);have TZU:=hZq (tz_of su FU.out);have FC:=hZq (tfresh_any (numO t zs) q2 w6 T6.out su.ok (by rw [FZ.out];omega));rw [FZ.out] at FC;clear su fu hnz
  go_wp2_with (first | (go_at_call 27;refine (num10 _ _).mono ?_;rintro en wz ⟨rfl,hwz⟩;rw [hwz];clear hwz) | fail)
  refine FC.out.mono ?_;rintro en w7 ⟨rfl,hg7⟩;have H7:=hZq (gZq H6.out hg7);have G67:=hZq hg7;clear hg7 FC;have NT:=hZq (nodes_any t q w7 (HT.out.kept (FrT.of H7.out)) SD.out.ok SD.out.chk (by have:=TZ.out.len;omega) (by have:=TZ.out.high;omega))
  have htl:(tellO (numO t zs)).length=(tellO t).length:=by
   rw [tellO_num HN.out];unfold numN;rw [numL_len]
  obtain ⟨N,hN⟩:∃ N,(tellO t).length=N:=⟨_,rfl⟩;have hNb:N<=14000:=by have:=TZ.out.len;omega
  rw [hN] at NT;have HNL:=hZq hN
  go_wp2_with fail
  refine NT.out.mono ?_;rintro en w8 ⟨v8,es8,rfl,ho8,ht8,hg8⟩;obtain ⟨va8,vc8,rfl⟩:=own_shape10 ho8;have L8:=hZq (nl_of ho8 ht8);have H8:=hZq (gZq H7.out hg8);have G68:=hZq (gZq G67.out hg8);clear ho8 ht8 hg8 NT;have NU:=hZq (nodes_any (numO t zs) q2 w8 (T6.out.kept (FrT.of G68.out)) SU.out.ok SU.out.chk (by have:=TZU.out.len;omega) (by have:=TZU.out.high;omega));rw [htl,hN] at NU;have HUN:Hid ((tellO (numO t zs)).length=N):=by show _=_;rw [htl,hN]
  clear htl hN
  go_wp2_with fail
  refine NU.out.mono ?_;rintro en w9 ⟨v9,es9,rfl,ho9,ht9,hg9⟩;obtain ⟨va9,vc9,rfl⟩:=own_shape10 ho9;have L9:=hZq (nl_of ho9 ht9);have K9:=hZq (L8.out.kept hg9);have H9:=hZq (gZq H8.out hg9);have G69:=hZq (gZq G68.out hg9);have Z9:=hZq (EsT.kept Z6.out (by decide) (FrT.of G69.out));have HZC:Hid (un<=uc/\uc<=9223372036854775807):=⟨Z9.out.cap,Z9.out.c2⟩;have G9:=hZq (gZq G2.out H9.out);clear ho9 ht9 hg9 NU L8 Z6
  go_wp2_with fail
  go_loopw [14,15,16,17,18,19,20] (fun s14 s15 _ _ _ _ _ wr=>∃ i k:Nat,i<=N/\k=sumT frN ((tellO t).take i)/\s14=.int .i64 (k:Nat)/\s15=.int .i64 (i:Nat)/\w9.grownBy wr none) (fun _ s15 _ _ _ _ _ _=>N - (intOf s15).toNat)
  case atStart=>exact ⟨0,0,Nat.zero_le _,rfl,rfl,rfl,World.grownBy.refl _ _⟩
  case round =>
   obtain ⟨i,k,hi,hk,rfl,rfl,hg⟩:=hrel;have HG:=hZq hg;have HKK:=hZq hk;clear hg hk
   by_cases hlt:i<N
   ·obtain ⟨x,hx⟩:∃ x,(tellO t)[i]?=some x:=⟨_,List.getElem?_eq_getElem (by have:=HNL.out;omega)⟩
    have hxm:=List.mem_of_getElem? hx;have hnum:=told_num (zs:=zs) HN.out hx;have hle:=told_le HN.out HLN.out hx;have hstep:=sumT_step frN hx;rw [<- HKK.out] at hnum hle hstep;have HNUM:=hZq hnum;have HLE:=hZq hle;have HSTEP:=hZq hstep;obtain ⟨b,off,pa,pc,ca,cc,sa,sc,ka,kc,rfl,e⟩:=K9.out i x hx;have EX:=hZq e;have P1:=hZq (TZ.out.ps x hxm);have P2:=hZq (TZ.out.pv x hxm);have P3:=hZq (TZ.out.ks x hxm);have f1:=e.kept HG.out;have x0:=f1.c0;have x1:=f1.c1;have x2:=f1.c2;have x3:=f1.c3;have x4:=f1.c4;have x5:=f1.c5;have CN:=hZq (copyNode10 pa pc ca cc sa sc ka kc x wr f1.r (by have:=P1.out;omega) (by have:=P3.out;omega) (by have:=P3.out;omega) (fun p hp=>by have:=P2.out p hp;omega) (fun p hp=>by have:=P2.out p hp;omega) (fun s hs=>by have:=P3.out.2.2.1 s hs;omega));unfold CnP at CN;obtain ⟨pn,hpn⟩:∃ pn,x.ps.length=pn:=⟨_,rfl⟩;obtain ⟨sn,hsn⟩:∃ sn,x.ss.length=sn:=⟨_,rfl⟩;obtain ⟨kn,hkn⟩:∃ kn,x.ks.length=kn:=⟨_,rfl⟩;obtain ⟨no,hno⟩:∃ no,x.no=no:=⟨_,rfl⟩;obtain ⟨lv,hlv⟩:∃ lv:Int,(x.lv:Int)=lv:=⟨_,rfl⟩;rw [hpn,hsn,hkn,hno,hlv] at CN;rw [hno] at x0;rw [hlv] at x1;rw [hpn] at x2 x3;rw [hsn] at x4;rw [hkn] at x5;have HPN:=hZq hpn;have HSN:=hZq hsn;have HKN:=hZq hkn;have HNO:=hZq hno;have HLV:=hZq hlv;have HX:=hZq hx;have i0:(0:Int)<=(i:Int):=by omega
    have i1:(i:Int)<(N:Int):=by omega
    clear hxm hnum hle hstep e f1 hpn hsn hkn hno hlv hx
    go_wp2_with fail
    refine CN.out.mono ?_;rintro en wa ⟨pa1,pc1,ca1,cc1,sa1,sc1,ka1,kc1,rfl,hp1,hs1,hk1,hga⟩;have MP1:=hZq hp1;have BL1:=hZq hs1;have ZR1:=hZq hk1;have GA:=hZq (gZq HG.out hga);have X2:=hZq (heap_at0 wa #[.int .i64 no,.int .i64 lv,.slice pa1 pn pc1,.slice ca1 pn cc1,.slice sa1 sn sc1,.slice ka1 kn kc1] 54);have GB:=hZq (World.grownBy_alloc wa (.cells #[.int .i64 no,.int .i64 lv,.slice pa1 pn pc1,.slice ca1 pn cc1,.slice sa1 sn sc1,.slice ka1 kn kc1] 54) none);clear hp1 hs1 hk1 hga CN x0 x1 x2 x3 x4 x5;go_upto_region 22 with fail
    generalize wa.alloc (.cells #[.int .i64 no,.int .i64 lv,.slice pa1 pn pc1,.slice ca1 pn cc1,.slice sa1 sn sc1,.slice ka1 kn kc1] 54)=wb at *;obtain ⟨B,hB⟩:∃ B,wa.heap.size=B:=⟨_,rfl⟩;rw [hB] at X2 ⊢;have z3:=frozen_of_row wb B 3 _ _ X2.out;have y3:=cell_heap (i:=3) X2.out rfl;have X3:Hid ((wb.setCell ⟨B,3,none⟩ (.slice none 0 0)).heap[B]?=some (.cells #[.int .i64 no,.int .i64 lv,.slice pa1 pn pc1,.slice none 0 0,.slice sa1 sn sc1,.slice ka1 kn kc1] 54 (0,0))):=heap_setCell_same wb B 3 _ _ (.slice none 0 0) X2.out;have G3:=hZq (grown_new GB.out (grown_cell wb B 3 (.slice none 0 0)) (by omega));have HBW:=hZq hB;clear hB
    go_upto_block 2 with fail
    generalize wb.setCell ⟨B,3,none⟩ (.slice none 0 0)=wc2 at *;clear z3 y3;obtain ⟨D,hD⟩:∃ D,numL numP frP x.ps (zs.drop k)=D:=⟨_,rfl⟩;have HDD:=hZq hD;have HDL:Hid (D.length=pn):=by show _=_;rw [<- hD,numL_len];exact HPN.out
    clear hD
    go_wp2_with fail
    go_loopw [14,17,18,19] (fun s14 s17 _ _ wj=>∃ j kj:Nat,j<=pn/\kj=k+sumT frP (x.ps.take j)/\s14=.int .i64 (kj:Nat)/\s17=.int .i64 (j:Nat)/\NuJ wa wj B (.int .i64 no) (.int .i64 lv) (.slice pa1 pn pc1) (.slice sa1 sn sc1) (.slice ka1 kn kc1) j ((D.take j).map PrT.chain)) (fun _ s17 _ _ _=>pn - (intOf s17).toNat)
    case atStart=>exact ⟨0,k,Nat.zero_le _,rfl,rfl,rfl,⟨none,0,[],X3.out,World.ownsRow_nil _ _ _ _,rfl,fun i s h=>by simp at h⟩,G3.out⟩
    case round =>
     obtain ⟨j,kj,hj,hkj,rfl,rfl,hJ⟩:=hrel;obtain ⟨va,vc,es,hbx,how,hel,hes⟩:=hJ.ex;have HJ:=hZq hJ;have HES:=hZq hes;have HOW:=hZq how;have HBX:=hZq hbx;have HKJ:=hZq hkj;have GJ:=hZq (gZq GA.out hJ.gr);have HEL:=hZq hel;clear hJ hbx how hes hkj hel;have e2:=keep1 EX.out.c2 GJ.out;have e3:=keep1 EX.out.c3 GJ.out;rw [HPN.out] at e2 e3
     by_cases hjl:j<pn
     ·obtain ⟨p,hp⟩:∃ p,x.ps[j]?=some p:=⟨_,List.getElem?_eq_getElem (by have:=HPN.out;omega)⟩
      have hDp:D[j]?=some (numP p ((zs.drop k).drop (sumT frP (x.ps.take j)))):=by rw [<- HDD.out];exact numL_get numP frP _ _ _ _ hp
      have hst:=sumT_step frP hp;have hpart:=sumT_part frP x.ps (j+1);have hpm:=P2.out p (List.mem_of_getElem? hp);obtain ⟨pb,poff,pka,pkc,pva,pvc,hpa,d0,d1,_,_⟩:=EX.out.r.p.get hp;obtain ⟨cb,coff,cao,ccc,hca,q2,q3⟩:=EX.out.r.c j p.chain (by rw [List.getElem?_map,hp];rfl);have f1:=keep1 d1 GJ.out;have f2:=keep1 q2 GJ.out;have Q3:=hZq (q3.kept GA.out);subst hpa hca;have HDP:=hZq hDp;have HST:=hZq hst;have HPART:=hZq hpart;have PQ:=hZq (fun (W:World)=>refPages10 p.val.length W (by omega));obtain ⟨vl,hvl⟩:∃ vl,p.val.length=vl:=⟨_,rfl⟩;obtain ⟨cl,hcl⟩:∃ cl,p.chain.length=cl:=⟨_,rfl⟩;have hclb:cl<=65:=by omega
      have HFRP:Hid (frP p=if cl=0 then (pgB vl).toNat else 0):=by show _=_;unfold frP;rw [hcl,hvl]
      have hpgb:=pgB_le (vl:Int);rw [hvl] at f1 PQ;rw [hcl] at f2;have HCL:=hZq hcl;have hspl:0<frP p∨(frP p=0/\cl≠0)∨(frP p=0/\cl=0):=by omega
      clear hDp hst hpart hpm d0 d1 q2 q3 hvl hcl;have y3:=cell_heap (i:=3) HBX.out rfl;have z3:=frozen_of_row wr B 3 _ _ HBX.out;have hjb:j<=2000:=by have:=P1.out;have:=HPN.out;omega
      have j0:(0:Int)<=(j:Int):=by omega
      have j1:(j:Int)<(pn:Int):=by omega
      rcases hspl with hs | ⟨hs0,hs⟩ | ⟨hs0,hs⟩
      ·have hcl0:cl=0:=by have:=HFRP.out;split at this <;> omega
       have hM:pgB (vl:Int)=((frP p:Nat):Int):=by have:=HFRP.out;rw [if_pos hcl0] at this;omega
       subst hcl0;obtain ⟨M,hMM⟩:∃ M,frP p=M:=⟨_,rfl⟩;rw [hMM] at hM hs HST;have HMM:=hZq hMM
       have hkm:kj+M<=un:=by
        have h1:=HLE.out;have h2:=HPART.out;have h3:=HST.out;have h4:=HKJ.out;have h5:=HUL.out;unfold frN at h1;omega
       obtain ⟨nb,noff,hua,hzr⟩:=nz_sub Z9.out hkm hs;have ZS:=hZq (hzr.kept GA.out);have HUA:=hZq hua;rw [hua];rw [hM] at PQ
       have hch:(numP p ((zs.drop k).drop (sumT frP (x.ps.take j)))).chain=(zs.drop kj).take M:=by
        rw [numP_chain,hMM,if_pos hs,List.drop_drop,<- HKJ.out]
       have HCH:=hZq hch
       have HLM:Hid (((zs.drop kj).take M).length=M):=by
        show _=_
        rw [List.length_take,List.length_drop];have:=HUL.out;omega
       have hcc:=HZC.out.1;have k0:(0:Int)<=(kj:Int):=by omega
       have k1:(kj:Int)<=(kj:Int)+(M:Int):=by omega
       have k2:(kj:Int)+(M:Int)<=(uc:Int):=by omega
       have k3:¬ (un:Int)<(kj:Int)+(M:Int):=by omega
       have k4:(0:Int)<(M:Int):=by omega
       have k5:¬ uc=kj:=by omega
       clear hzr hua hM hch hMM hpgb hcc hkm
       go_wp2_with fail
       refine (PQ.out _).mono ?_;rintro en wz ⟨rfl,hwz⟩;rw [hwz];clear hwz
       go_wp2_with (at_builtin;refine wpList_append_own _ rfl _ _ 50 rfl (B+1) 52 ti (.slice none 0 0) 1 24 Tryz.underlying50 hti hz0 hz1 hz2 rfl (by decide) _ j es rfl (HOW.out.alloc _) ⟨wr.heap.size,0,none⟩ 1 1 [.slice (some ⟨nb,noff+kj,none⟩) M M] rfl rfl (cell_one10 _ _ _) (by intro u hu;simp at hu;subst hu;rfl) (by unfold maxLen;omega) (by omega) (by have:=(Array.getElem?_eq_some_iff.1 HBX.out).1;simp;omega) ?_)
       intro v5 w5 ho5 hg5 _;obtain ⟨va5,vc5,rfl,hb5,hJ5⟩:=nuj_step HBW.out HJ.out.gr HBX.out HOW.out HEL.out HES.out (by rw [List.length_map,List.length_take];have:=HDL.out;omega) ZS.out HLM.out ho5 hg5;have J5:=hZq hJ5;have y5:=cell_heap (i:=3) hb5 rfl;have z5:=frozen_of_row w5 B 3 _ _ hb5;clear ho5 hg5 hb5 hJ5 y3 z3 e2 e3 f1 f2;go_wp2;go_roundw
       case rel =>
        have hst:=HST.out;have e:(D.take (j+1)).map PrT.chain=(D.take j).map PrT.chain++[(numP p ((zs.drop k).drop (sumT frP (x.ps.take j)))).chain]:=by rw [takeS HDP.out,List.map_append];rfl
        refine ⟨j+1,kj+M,by omega,by have:=HKJ.out;omega,by go_num,by go_num,?_⟩;rw [e,HCH.out];exact J5.out
       case measure=>simp [intOf];omega
      ·have c0:¬ (cl:Int)=0:=by omega
       have c1:((cl:Int)==0)=false:=by simp;omega
       have HS0:=hZq hs0;generalize pgB (vl:Int)=m19 at *;clear hs0 hpgb HFRP
       go_wp2_with fail
       refine (PQ.out _).mono ?_;rintro en wz ⟨rfl,hwz⟩;rw [hwz];clear hwz
       go_wp2_with (at_builtin;refine wpList_append_own _ rfl _ _ 50 rfl (B+1) 52 ti (.slice none 0 0) 1 24 Tryz.underlying50 hti hz0 hz1 hz2 rfl (by decide) _ j es rfl (HOW.out.alloc _) ⟨wr.heap.size,0,none⟩ 1 1 [.slice cao cl ccc] rfl rfl (cell_one10 _ _ _) (by intro u hu;simp at hu;subst hu;rfl) (by unfold maxLen;omega) (by omega) (by have:=(Array.getElem?_eq_some_iff.1 HBX.out).1;simp;omega) ?_)
       intro v5 w5 ho5 hg5 _;obtain ⟨va5,vc5,rfl,hb5,hJ5⟩:=nuj_step HBW.out HJ.out.gr HBX.out HOW.out HEL.out HES.out (by rw [List.length_map,List.length_take];have:=HDL.out;omega) Q3.out HCL.out ho5 hg5;have J5:=hZq hJ5;have y5:=cell_heap (i:=3) hb5 rfl;have z5:=frozen_of_row w5 B 3 _ _ hb5;clear ho5 hg5 hb5 hJ5 y3 z3 e2 e3 f1 f2;go_wp2;go_roundw
       case rel =>
        have hst:=HST.out;have e:(D.take (j+1)).map PrT.chain=(D.take j).map PrT.chain++[(numP p ((zs.drop k).drop (sumT frP (x.ps.take j)))).chain]:=by rw [takeS HDP.out,List.map_append];rfl
        refine ⟨j+1,kj,by omega,by have:=HKJ.out;have:=HS0.out;omega,by go_num,by go_num,?_⟩;rw [e,numP_id HS0.out];exact J5.out
       case measure=>simp [intOf];omega
      ·have hM:pgB (vl:Int)=0:=by have:=HFRP.out;rw [if_pos hs] at this;omega
       have HS0:=hZq hs0;subst hs;rw [hM] at PQ;clear hs0 hpgb HFRP hM
       go_wp2_with fail
       refine (PQ.out _).mono ?_;rintro en wz ⟨rfl,hwz⟩;rw [hwz];clear hwz
       go_wp2_with (at_builtin;refine wpList_append_own _ rfl _ _ 50 rfl (B+1) 52 ti (.slice none 0 0) 1 24 Tryz.underlying50 hti hz0 hz1 hz2 rfl (by decide) _ j es rfl (HOW.out.alloc _) ⟨wr.heap.size,0,none⟩ 1 1 [.slice cao 0 ccc] rfl rfl (cell_one10 _ _ _) (by intro u hu;simp at hu;subst hu;rfl) (by unfold maxLen;omega) (by omega) (by have:=(Array.getElem?_eq_some_iff.1 HBX.out).1;simp;omega) ?_)
       intro v5 w5 ho5 hg5 _;obtain ⟨va5,vc5,rfl,hb5,hJ5⟩:=nuj_step HBW.out HJ.out.gr HBX.out HOW.out HEL.out HES.out (by rw [List.length_map,List.length_take];have:=HDL.out;omega) Q3.out HCL.out ho5 hg5;have J5:=hZq hJ5;have y5:=cell_heap (i:=3) hb5 rfl;have z5:=frozen_of_row w5 B 3 _ _ hb5;clear ho5 hg5 hb5 hJ5 y3 z3 e2 e3 f1 f2;go_wp2;go_roundw
       case rel =>
        have hst:=HST.out;have e:(D.take (j+1)).map PrT.chain=(D.take j).map PrT.chain++[(numP p ((zs.drop k).drop (sumT frP (x.ps.take j)))).chain]:=by rw [takeS HDP.out,List.map_append];rfl
        refine ⟨j+1,kj,by omega,by have:=HKJ.out;have:=HS0.out;omega,by go_num,by go_num,?_⟩;rw [e,numP_id HS0.out];exact J5.out
       case measure=>simp [intOf];omega
     ·obtain rfl:j=pn:=by omega
      have j1:¬ (j:Int)<(j:Int):=by omega
      have HTK:Hid (D.take j=D):=List.take_of_length_le (by have:=HDL.out;omega);rw [HTK.out] at HJ;have HT2:Hid (x.ps.take j=x.ps):=List.take_of_length_le (by have:=HPN.out;omega);rw [HT2.out] at HKJ;obtain ⟨va6,vc6,hb6,hz6⟩:=NuJ.zl HJ.out (by rw [List.length_map];exact HDL.out) (by have:=HBW.out;omega);have X6:=hZq hb6;have Z6:=hZq hz6;obtain ⟨X',hX'⟩:∃ X',numX x (zs.drop k)=X':=⟨_,rfl⟩;have hXp:X'.ps=D:=by rw [<- hX',<- HDD.out];rfl
      have hXs:X'.ss=x.ss:=by rw [<- hX'];rfl
      have hXk:X'.ks=x.ks:=by rw [<- hX'];rfl
      have hXl:(X'.lv:Int)=lv:=by rw [<- HLV.out,<- hX'];rfl
      have hXn:X'.no=if no=0 then (zs.drop k).getD (sumT frP x.ps) 0 else no:=by rw [<- HNO.out,<- hX'];rfl
      have hXpl:X'.ps.length=j:=by rw [hXp];exact HDL.out
      have hXsl:X'.ss.length=sn:=by rw [hXs];exact HSN.out
      have hXkl:X'.ks.length=kn:=by rw [hXk];exact HKN.out
      rw [hX'] at HNUM;have hmx:=List.mem_of_getElem? HNUM.out;have Q1:=hZq (TZU.out.ps X' hmx);have Q2:=hZq (TZU.out.pv X' hmx);have Q3:=hZq (TZU.out.ks X' hmx);obtain ⟨b',off',pb',pd',cb',cd',sb',sd',kb',kd',rfl,e'⟩:=L9.out i _ HNUM.out
      have SN:=hZq (fun (W:World) (hW:wa.grownBy W none) (hzl:ZlW W va6 (D.map PrT.chain))=>sameNode10 pa1 va6 sa1 ka1 pb' cb' sb' kb' pc1 vc6 sc1 kc1 pd' cd' sd' kd' X' j sn kn W
       ⟨by rw [hXpl,hXp,<- HDD.out];exact mp_cong (MP1.out.cef (CeF.of hW)) (numL_str x.ps _).symm,by rw [hXp];exact hzl,by rw [hXs];exact BL1.out.kept hW,by rw [hXk];exact ZR1.out.kept hW⟩
       (e'.r.kept (gZq GA.out hW)) (by rw [List.length_map];exact hXpl) hXsl (by rw [List.length_map];exact hXkl) (by have:=Q1.out;omega) (by have:=Q3.out.2.1;omega) (by have:=Q3.out.1;omega) (fun p hp=>by have:=Q2.out p hp;omega))
      have w0:=keep1 e'.c0 (gZq GA.out HJ.out.gr);have w1':=keep1 e'.c1 (gZq GA.out HJ.out.gr);have w2':=keep1 e'.c2 (gZq GA.out HJ.out.gr);have w3':=keep1 e'.c3 (gZq GA.out HJ.out.gr);have w4':=keep1 e'.c4 (gZq GA.out HJ.out.gr);have w5':=keep1 e'.c5 (gZq GA.out HJ.out.gr);rw [hXl] at w1' SN;rw [hXpl] at w2' w3' SN;rw [hXsl] at w4';rw [hXkl] at w5';have YC:=hZq (And.intro w0 (And.intro w1' (And.intro w2' (And.intro w3' (And.intro w4' w5')))));obtain ⟨xn,hxn⟩:∃ xn,X'.no=xn:=⟨_,rfl⟩;rw [hxn] at SN YC hXn;have HXN:=hZq hXn
      have hbn:b'≠B:=fun e=>by
       have h1:=cell_lt e'.c0;have h2:=GA.out.size;have h3:=HBW.out;rw [e] at h1;omega
      have HBN:=hZq hbn;clear hX' hXp hXs hXk hXl hXn hXpl hXsl hXkl hmx e' w0 w1' w2' w3' w4' w5' hxn hbn;have y0:=cell_heap (i:=0) hb6 rfl;clear hb6 hz6 HES HOW HBX e3 HEL HTK HT2
      by_cases hno0:no=0
      ·subst hno0
       have hfn:frN x=sumT frP x.ps+1:=by unfold frN;rw [if_pos HNO.out]
       have HFN:=hZq hfn
       have hku:kj<un:=by
        have h1:=HLE.out;have h2:=HKJ.out;have h3:=HUL.out;omega
       obtain ⟨z,hz⟩:∃ z,zs[kj]?=some z:=⟨_,List.getElem?_eq_getElem (by have:=HUL.out;omega)⟩
       have hxz:xn=z:=by
        have h1:=HXN.out;rw [if_pos rfl,List.getD_eq_getElem?_getD,List.getElem?_drop,<- HKJ.out,hz] at h1;exact h1
       subst hxz;obtain ⟨nb,noff,hua,hcz⟩:=NmT.zr Z9.out kj xn hz;have hcw:=keep1 hcz (gZq GA.out HJ.out.gr);have HUA:=hZq hua;rw [hua];have z0:=frozen_of_row wr B 0 _ _ X6.out;have k0:(0:Int)<=(kj:Int):=by omega
       have k1:(kj:Int)<(un:Int):=by omega
       have k2:¬ (un:Int)<=(kj:Int):=by omega
       have X7:Hid ((wr.setCell ⟨B,0,none⟩ (.int .i64 xn)).heap[B]?=some (.cells #[.int .i64 xn,.int .i64 lv,.slice pa1 j pc1,.slice va6 j vc6,.slice sa1 sn sc1,.slice ka1 kn kc1] 54 (0,0))):=heap_setCell_same wr B 0 _ _ (.int .i64 xn) X6.out;have G7:=hZq (grown_new HJ.out.gr (grown_cell wr B 0 (.int .i64 xn)) (by have:=HBW.out;omega));have Z7:=hZq (Z6.out _ (grown_cell wr B 0 (.int .i64 xn)));have GC7:=hZq (grown_cell wr B 0 (.int .i64 xn));have YC7:=hZq (And.intro (GC7.out.cell YC.out.1 (fun e=>HBN.out (Option.some.inj e))) (And.intro (GC7.out.cell YC.out.2.1 (fun e=>HBN.out (Option.some.inj e))) (And.intro (GC7.out.cell YC.out.2.2.1 (fun e=>HBN.out (Option.some.inj e))) (And.intro (GC7.out.cell YC.out.2.2.2.1 (fun e=>HBN.out (Option.some.inj e))) (And.intro (GC7.out.cell YC.out.2.2.2.2.1 (fun e=>HBN.out (Option.some.inj e))) (GC7.out.cell YC.out.2.2.2.2.2 (fun e=>HBN.out (Option.some.inj e))))))));clear hfn hku hz hua hcz;go_upto_region 40 with fail
       generalize wr.setCell ⟨B,0,none⟩ (.int .i64 xn)=w7 at *;rw [<- HUA.out];have k3:(kj:Int)+1<=200000:=by omega
       clear y0 z0 e2 hcw k1 k2;obtain ⟨b0,b1,b2,b3,b4,b5⟩:=C6.of X7.out;obtain ⟨m0,m1,m2,m3,m4,m5⟩:=YC7.out;go_upto_region 41 with fail
       go_region_with ((go_at_call 30;refine (SN.out w7.drew (gZq G7.out ((Qt.refl _).drew.grown none)) (Z7.out.kept ((Qt.refl _).drew.grown none))).mono ?_;rintro en wy ⟨rfl,hgy⟩;have GY:=hZq (undrewW hgy);clear hgy))
       all_goals
        go_wp2;go_roundw
        case rel=>exact ⟨i+1,kj+1,by omega,by have:=HSTEP.out;have:=HKJ.out;have:=HFN.out;omega,by go_num,by go_num,gZq (gZq GA.out G7.out) GY.out⟩
        case measure=>simp [intOf];omega
      ·have hxz:xn=no:=by have h1:=HXN.out;rw [if_neg hno0] at h1;exact h1
       subst hxz;have hfn:frN x=sumT frP x.ps+0:=by unfold frN;rw [if_neg (by rw [HNO.out];exact hno0)]
       have HFN:=hZq hfn;have hb0:(xn==0)=false:=by simp [hno0]
       have Z7:=hZq (Z6.out wr (World.grownBy.refl _ _));clear hfn y0;obtain ⟨b0,b1,b2,b3,b4,b5⟩:=C6.of X6.out;obtain ⟨m0,m1,m2,m3,m4,m5⟩:=YC.out;go_upto_region 41 with fail
       go_region_with ((go_at_call 30;refine (SN.out wr.drew (gZq HJ.out.gr ((Qt.refl _).drew.grown none)) (Z7.out.kept ((Qt.refl _).drew.grown none))).mono ?_;rintro en wy ⟨rfl,hgy⟩;have GY:=hZq (undrewW hgy);clear hgy))
       all_goals
        go_wp2;go_roundw
        case rel=>exact ⟨i+1,kj,by omega,by have:=HSTEP.out;have:=HKJ.out;have:=HFN.out;omega,by go_num,by go_num,gZq (gZq GA.out HJ.out.gr) GY.out⟩
        case measure=>simp [intOf];omega
   ·obtain rfl:i=N:=by omega
    have i1:¬ (i:Int)<(i:Int):=by omega
    have HKU:Hid (k=un):=by
     show _=_
     rw [HKK.out,List.take_of_length_le (by have:=HNL.out;omega),tellO_fr HN.out];exact HFR.out
    have hbk:((k:Int) != (un:Int))=false:=by simp [HKU.out]
    have RC:=hZq (refused10 t q q2 ua un uc zs wr (HT.out.kept (FrT.of (gZq H9.out HG.out))) SD.out HF.out HLN.out TK.out (T6.out.kept (FrT.of (gZq G69.out HG.out))) SU.out (EsT.kept Z9.out (by decide) (FrT.of HG.out)))
    go_wp2_with fail
    refine RC.out.mono ?_;rintro en wz ⟨rfl,hgz⟩;have GZ:=hZq (gZq (gZq G9.out HG.out) hgz);clear hgz RC;go_wp2;go_ret;exact ⟨rfl,GZ.out⟩
 ·have hb:((un:Int) != (F:Int))=true:=by simp;omega
  go_wp2;go_ret;exact ⟨rfl,gZq G2.out H5.out⟩
end Go.Proofs.YtepcgckapoljpaaGreat
namespace Go.Proofs.YtepcgckapoljpaaGreat.treeNumbers
open Go.ChangeShapes Go.WideShapes Go.ChangeAt Go.WideMaps Go.WideElems Go.RowKit Go.Deep
open Go.ChangeMaps (open_string shut_string)
theorem own:ownKnob Tryz.prog.godebug=none:=by kernel_rfl
theorem laidOut:laidOutB Tryz.prog=true:=by kernel_rfl
theorem bytes_u8:Tryz.prog.bytesOf 5=1:=by kernel_rfl
theorem bytes_i64:Tryz.prog.bytesOf 3=8:=by kernel_rfl
set_option linter.unusedVariables false
theorem lifted (os:Os)(started:os.Started)(H:Type)(enc:TypeId × Value->H) :
  ReturnsInHanded {} Tryz.checked os 5 .any (Rows.treeNumbersSpec.pre6 enc Tryz.prog Tryz.f5 Rows.treeNumbersRow.domain false) (Rows.treeNumbersSpec.post enc Tryz.prog Tryz.f5 false true false false):=by
 refine returnsInHanded_of_change_sized (C:=Tryz.checked) own started (by kernel_rfl) Tryz.func5
  (ChangeSpec.witness6 (enc:=enc) (C:=Tryz.checked) false ⟨#[],#[.slice none 0 0,.int .i64 0],[]⟩ 8 (by kernel_rfl) (by kernel_rfl) (by kernel_rfl) (by kernel_rfl)) ?_
 intro W base args ds gs before hval0 hW hcnd hsz0 _;have hval:∀ (j:Nat) t v,Tryz.f5.params[j]?=some t->args[j]?=some v->Value.okWide Tryz.prog W .any base t v:=hval0;have hsz:(DataW.weightsEach Tryz.prog (Tryz.f5.params.toList++Rows.treeNumbersSpec.plain.varTypes Tryz.prog) (ds++gs)).all (·<=reachBytes)=true:=hsz0;clear hsz0;have hW':=hW;obtain ⟨p,q,hA0,hV,rfl,hfz,hnd⟩:=hW;have hA:DataW.TrodAll enc Tryz.prog W 0 (fun _=>true) true Tryz.f5.params.toList args.toList ds p:=hA0;rw [Tryz.params5] at hA hval hsz;obtain ⟨v0,vs0,d0,ds0,p0,q0,hargs,rfl,rfl,h0,r0⟩:=trodAll_cons hA;obtain ⟨v1,vs1,d1,ds1,p1,q1,rfl,rfl,rfl,h1,r1⟩:=trodAll_cons r0;obtain ⟨rfl,rfl,rfl⟩:=trodAll_nil r1;obtain rfl:args=#[v0,v1]:=by cases args;simp_all
 obtain ⟨rfl,rfl⟩:=trodVars_none hV;obtain ⟨a0,len0,cap0,rfl⟩:=okWide_slice Tryz.underlying22 (hval 0 22 v0 rfl rfl);have k0:=h0;have lt0:∀ x∈p0,x.block<W.heap.size:=by obtain ⟨m,hm⟩:=k0;exact DataW.trod_lt m _ _ _ hm
 obtain ⟨z0,b0,e0,l0,c0⟩:∃ L,AcW W a0 L/\L.length=len0/\len0<=cap0/\cap0<=9223372036854775807:=by
  obtain ⟨fuel,hf⟩:=h0;exact acts_open (by simpa [Value.cells] using hf)
 obtain ⟨a1,rfl,rfl,rfl,w1⟩:=open_int Tryz.underlying3 (hval 1 3 v1 rfl rfl) h1;clear hA0 hval0;refine (treeNumbers_walk a0 len0 cap0 z0 a1 W b0 e0).mono fun e W' ⟨he,hg⟩=>?_
 subst he;have bel:=below_ofW hg;exact ⟨_,rfl,_,_,_,[],_,[],hW',trodAll_mk1 (shut_bool Tryz.underlying4 _),(trodAll_cons_mk (Below.trod laidOut (by kernel_rfl) (of_decide_eq_true (by kernel_rfl)) k0 bel lt0) (trodAll_cons_mk (shut_int Tryz.underlying3 w1) trodAll_mk0)),rfl,bel.frame _,fun h=>by cases h⟩
theorem over:Rows.treeNumbersRow.holds Tryz.pinned (OpenSpec.ofChange Rows.treeNumbersSpec) :=
 OpenClaim.holds_of_wide 5 Tryz.f5 rfl rfl rfl rfl rfl rfl rfl ⟨rfl,rfl,rfl,rfl,rfl⟩ rfl rfl rfl rfl rfl (by kernel_rfl) Tryz.func5 (by kernel_rfl)
  (of_decide_eq_true (by kernel_rfl)) (by unfold Func.isWrapper;first | (rw [if_pos (by decide +kernel)];kernel_rfl) | (rw [if_neg (by decide +kernel)];exact ⟨rfl,rfl⟩))
  (fun os started H enc _=>lifted os started H enc)
end Go.Proofs.YtepcgckapoljpaaGreat.treeNumbers
namespace Go.Proofs.YtepcgckapoljpaaGreat
theorem treeNumbers_holds:Rows.TreeNumbersSaid:=treeNumbers.over
#print axioms treeNumbers_holds
end Go.Proofs.YtepcgckapoljpaaGreat
