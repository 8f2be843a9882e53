import Derived.Test.YteaahinjcfjngaaGreatQ51
import Derived.Test.YteaahinjcfjngaaGreatQ50
import Derived.WalkKit
import Derived.ProofKit
import Derived.OpenShut
import Derived.ShutString
import Derived.ChangeOld
import Derived.Below
import Derived.SizedLaws
import Derived.Deep.Slices
import Derived.Laws.Cover2
import Derived.Test.YteaahinjcfjngaaGreatRows
set_option maxRecDepth 100000
set_option maxHeartbeats 16000000
namespace Go.Proofs.YteaahinjcfjngaaGreat
open Go.RowKit
theorem rises_any (a:Option Addr)(n c q r:Nat)(z:Int)(xs:List RnT)(w:World)(hx:RnU w a xs)(hn:xs.length=n)(hb:∀ x∈xs,RnB x)(hq:q<2 ^ 64)(hr:r<2 ^ 64) :
  Calls Tryz.prog 8 #[.slice a n c,.float .f64 q,.float .f64 r,.int .i64 z] w fun en w'=>en=.returned (.bool true)/\w.grownBy w' none:=by
 have MD:=hZq (fun (W:World) (hW:w.grownBy W none)=>made_any a n c xs W (hx.kept (CkF.of hW)) hn hb);have HN:=hZq hn;have HQ:=hZq hq;have HR:=hZq hr;clear hx hn hb hq hr;go_enter Tryz.func8,Tryz.ntmps8
 go_wp2_with fail
 refine (first22 w).mono ?_;rintro en w1 ⟨rfl,hg1⟩;have G1:=hZq hg1;clear hg1
 go_wp2_with fail
 refine (MD.out w1 G1.out).mono ?_;rintro en w2 ⟨⟨p,t,rfl,ht,hbk,hl3⟩ | rfl,hg2⟩
 ·have HT:=hZq ht
  have HBK:=hZq (trs_built hbk hl3);have G2:=hZq (gZq G1.out hg2);clear ht hbk hl3 hg2 MD G1
  by_cases hn0:n=0
  ·subst hn0
   go_wp2;go_ret;exact ⟨rfl,G2.out⟩
  have hn1:((n:Int)==0)=false:=by simp;omega
  have HN0:=hZq hn0;clear hn0;cases b1:(FloatKind.f64.format.order q 0==some Ordering.gt || FloatKind.f64.format.order q 0==some Ordering.eq)
  ·go_wp2
   go_ret;exact ⟨rfl,G2.out⟩
  cases b2:(FloatKind.f64.format.order q r==some Ordering.lt || FloatKind.f64.format.order q r==some Ordering.eq)
  ·go_wp2
   go_ret;exact ⟨rfl,G2.out⟩
  cases b3:(FloatKind.f64.format.order r 4607182418800017408==some Ordering.lt || FloatKind.f64.format.order r 4607182418800017408==some Ordering.eq)
  ·go_wp2
   go_ret;exact ⟨rfl,G2.out⟩
  have SH:=hZq (share22 HQ.out HR.out b1 b2 b3);have HTS:=hZq HBK.out.1
  have HE:Hid (tellO t≠[]):=fun e=>by
   have h1:=HBK.out.2.1;rw [e,HN.out] at h1;exact HN0.out h1.symm
  have LV:=hZq (fun (W:World) (hW:w2.grownBy W none)=>levels_any t p W (HT.out.kept (FrT.of hW)) HTS.out);have QU:=hZq (fun (W:World) (hW:w2.grownBy W none) (x:Nat) (hx:ShF x)=>quantile_any t p x W (HT.out.kept (FrT.of hW)) HTS.out hx);have PB:=hZq (fun (W:World) (hz:z<1∨1000<z)=>parts_bad p z W hz);have PG:=hZq (fun (W:World) (hW:w2.grownBy W none) (k:Nat) (h1:1<=k) (h2:k<=1000)=>parts_any t p k W (HT.out.kept (FrT.of hW)) HTS.out h1 h2);clear HN HBK HT
  go_wp2_with fail
  refine (LV.out w2 (World.grownBy.refl _ _)).mono ?_;rintro en w3 ⟨g,rfl,_,hfl,hg3⟩;have F3:=hZq hfl;have G3:=hZq hg3;clear hfl hg3 LV b1 b2 b3 hn1;have hhp:=high_pos HE.out;have HLP:=hZq (leaf_pos HTS.out HE.out);have HLL:=hZq (lfz_le HTS.out);have HLZ:=hZq (lfz_len t);have HLN:=hZq (lfn_len t);have HTL:=hZq HTS.out.hi
  have QT0:Hid (qtE t=0):=by
   have h1:=HLP.out;rw [<- HLZ.out] at h1;exact if_neg (fun e=>by rw [e] at h1;exact Nat.lt_irrefl _ h1)
  have QL:=hZq (qtv_low HTS.out (by rw [HLZ.out];exact HLP.out));have QH:=hZq (qtv_high HTS.out (by rw [HLZ.out];exact HLP.out));have s0:ShF 0:=.inl (Nat.zero_le _);have s1:ShF oneF:=.inl (Nat.le_refl _);have o1:=hZq (qtv_gt HTS.out SH.out.1 SH.out.2.1 SH.out.2.2.2.1);have o2:=hZq (qtv_gt HTS.out s0 SH.out.1 SH.out.2.2.1);have o3:=hZq (qtv_gt HTS.out SH.out.2.1 s1 SH.out.2.2.2.2);have o4:=hZq (order_self (qtv_inf HTS.out s0));have o5:=hZq (order_self (qtv_inf HTS.out s1));have S0:=hZq s0;have S1:=hZq s1;clear s0 s1;obtain ⟨m,hm⟩:∃ m,highO t=m:=⟨_,rfl⟩;rw [hm] at F3 hhp HTL ⊢;have F0:=hZq (lvls_zero (xs:=tellO t) hhp);clear hm;have hm0:((m:Int)==0)=false:=by simp;omega
  go_wp2_with fail
  refine (QU.out w3 G3.out q SH.out.1).mono ?_;rintro en w4 ⟨rfl,hg4⟩;have G4:=hZq (gZq G3.out hg4);have F4:=hZq (F3.out.keptN hg4);clear hg4 F3 G3
  go_wp2_with fail
  refine (QU.out w4 G4.out r SH.out.2.1).mono ?_;rintro en w5 ⟨rfl,hg5⟩;have G5:=hZq (gZq G4.out hg5);have F5:=hZq (F4.out.keptN hg5);clear hg5 F4 G4
  go_wp2_with fail
  refine (QU.out w5 G5.out 0 S0.out).mono ?_;rintro en w6 ⟨rfl,hg6⟩;have G6:=hZq (gZq G5.out hg6);have F6:=hZq (F5.out.keptN hg6);clear hg6 F5 G5
  go_wp2_with fail
  refine (QU.out w6 G6.out 4607182418800017408 (by rw [one22];exact S1.out)).mono ?_;rintro en w7 ⟨rfl,hg7⟩;have G7:=hZq (gZq G6.out hg7);have F7:=hZq (F6.out.keptN hg7);clear hg7 F6 G6 QU;rw [QT0.out];have e1:qtV t 4607182418800017408=qtV t oneF:=by rw [one22]
  rw [e1];clear e1 QT0;have l3:=F7.out.get (i:=0) (f:=3) F0.out rfl;have l4:=F7.out.get (i:=0) (f:=4) F0.out rfl;have l1:=hZq (F7.out.get (i:=0) (f:=1) F0.out rfl);rw [Nat.zero_mul,Nat.zero_add] at l3 l4 l1;have HMN:Hid (mnF (atL (tellO t) 0) 4092<=4092):=mn_le _ _;have HMX:Hid (mxF (atL (tellO t) 0) 0<=4092):=mx_le _ _ _ (Nat.zero_le _) (fun x hx=>(HTS.out.sz x (atL_mem hx)).hi);have p1:=o1.out;have p2:=o2.out;have p3:=o3.out;have p4:=o4.out;have p5:=o5.out;rw [QL.out] at p2 p4 ⊢;rw [QH.out] at p3 p5 ⊢;obtain ⟨X,hX⟩:∃ X,qtV t q=X:=⟨_,rfl⟩;obtain ⟨Y,hY⟩:∃ Y,qtV t r=Y:=⟨_,rfl⟩;obtain ⟨mn,hmn⟩:∃ mn,mnF (atL (tellO t) 0) 4092=mn:=⟨_,rfl⟩;obtain ⟨mx,hmx⟩:∃ mx,mxF (atL (tellO t) 0) 0=mx:=⟨_,rfl⟩;obtain ⟨nl,hnl⟩:∃ nl,(atL (tellO t) 0).length=nl:=⟨_,rfl⟩;rw [hX] at p1 p2 ⊢;rw [hY] at p1 p3 ⊢;rw [hmn] at l3 p2 p4 HMN ⊢;rw [hmx] at l4 p3 p5 HMX ⊢;rw [hnl] at l1 HLZ HLN HLP;clear hX hY hmn hmx hnl o1 o2 o3 o4 o5 QL QH F0;have hmnb:=HMN.out;have hmxb:=HMX.out;have d1:=fun (W:World)=>run_quo22 W (t:=26) (qu_some (a:=mn) (b:=4092) (by omega) (by omega) (by omega)).1
  have d2:=fun (W:World)=>run_quo22 W (t:=26) (qu_some (a:=mx) (b:=4092) (by omega) (by omega) (by omega)).1
  have e1:=floatOf_nat mn;have e2:=floatOf_nat mx;rw [in4092] at d1 d2;obtain ⟨U,hU⟩:∃ U,quW mn 4092=U:=⟨_,rfl⟩;obtain ⟨V,hV⟩:∃ V,quW mx 4092=V:=⟨_,rfl⟩;rw [hU] at d1 p2 p4 ⊢;rw [hV] at d2 p3 p5 ⊢;clear hU hV HMN HMX;have q4:(FloatKind.f64.format.order U U != some Ordering.eq)=false:=by rw [p4];rfl
  have q5:(FloatKind.f64.format.order V V != some Ordering.eq)=false:=by rw [p5];rfl
  clear p4 p5;go_upto_region 14 with (first | (go_at_call 22;refine (num22 _ _).mono ?_;rintro en wz ⟨rfl,hwz⟩;rw [hwz];clear hwz) | fail)
  clear l3 l4 p1 p2 p3 d1 d2 e1 e2 q4 q5 hmnb hmxb HQ HR SH S0 S1 HE HN0 hm0
  by_cases hz:z<1∨1000<z
  ·have PB2:=hZq (PB.out w7 hz)
   clear PB PG
   by_cases hz1:z<1
   ·clear hz
    go_wp2_with (first | (go_at_call 22;refine (num22 _ _).mono ?_;rintro en wz ⟨rfl,hwz⟩;rw [hwz];clear hwz) | fail)
    refine PB2.out.mono ?_;rintro en w8 ⟨rfl,hg8⟩;have G8:=hZq (gZq G2.out (gZq G7.out hg8));clear hg8 PB2
    go_wp2_with (first | (go_at_call 22;refine (num22 _ _).mono ?_;rintro en wz ⟨rfl,hwz⟩;rw [hwz];clear hwz) | fail)
    go_ret;exact ⟨rfl,G8.out⟩
   ·have hz2:1000<z:=by omega
    clear hz
    go_wp2_with (first | (go_at_call 22;refine (num22 _ _).mono ?_;rintro en wz ⟨rfl,hwz⟩;rw [hwz];clear hwz) | fail)
    refine PB2.out.mono ?_;rintro en w8 ⟨rfl,hg8⟩;have G8:=hZq (gZq G2.out (gZq G7.out hg8));clear hg8 PB2
    go_wp2_with (first | (go_at_call 22;refine (num22 _ _).mono ?_;rintro en wz ⟨rfl,hwz⟩;rw [hwz];clear hwz) | fail)
    go_ret;exact ⟨rfl,G8.out⟩
  obtain ⟨k,rfl⟩:∃ k:Nat,z=(k:Int):=⟨z.toNat,by omega⟩;have hk1:1<=k:=by omega
  have hk2:k<=1000:=by omega
  have PG2:=hZq (PG.out w7 G7.out k hk1 hk2);have z1:¬ (k:Int)<1:=by omega
  have z2:¬ (1000:Int)<(k:Int):=by omega
  clear PG PB hz
  go_wp2_with (first | (go_at_call 22;refine (num22 _ _).mono ?_;rintro en wz ⟨rfl,hwz⟩;rw [hwz];clear hwz) | fail)
  refine PG2.out.mono ?_;rintro en w8 ⟨pg,rfl,hpg,ho8,hg8⟩;have G8:=hZq (gZq G2.out (gZq G7.out hg8));have F8:=hZq (F7.out.keptN hg8);have O8:=hZq ho8;have L1:=hZq (hg8.cell l1.out (by simp))
  have LL:Hid (nl<=100000):=by
   have h1:=HLL.out;rw [HLZ.out] at h1;exact h1
  have HSA:=hZq (ptS_all (n:=k) (by omega) (lfN t));rw [HLN.out] at HSA;clear hpg ho8 hg8 PG2 F7 l1 HLL HLZ
  go_wp2_with (first | (go_at_call 22;refine (num22 _ _).mono ?_;rintro en wz ⟨rfl,hwz⟩;rw [hwz];clear hwz) | fail)
  go_loopw [21,22] (fun su si wr=>∃ j:Nat,j<=k/\si=.int .i64 (j:Nat)/\su=.int .i64 (ptS k (lfN t) j:Nat)/\wr=w8) (fun _ si _=>k - (intOf si).toNat)
  case atStart=>exact ⟨0,Nat.zero_le _,rfl,rfl,rfl⟩
  case round =>
   obtain ⟨j,hj,rfl,rfl,rfl⟩:=hrel
   by_cases hlt:j<k
   ·have c1:wr.cell? ⟨pg,j,none⟩=some (.int .i64 (ptC k (lfN t) j:Nat)):=by
     rw [O8.out.cellAt j (by omega),List.getElem?_map,ptL_at _ hlt]
     rfl
    have HS1:Hid (ptS k (lfN t) (j+1)=ptS k (lfN t) j+ptC k (lfN t) j):=rfl
    have hb1:ptS k (lfN t) j+ptC k (lfN t) j<=100000:=by
     have h1:=ptS_mono k (lfN t) (show j+1<=k by omega);rw [HSA.out,HS1.out] at h1;have:=LL.out;omega
    obtain ⟨sv,hsv⟩:∃ v,ptS k (lfN t) j=v:=⟨_,rfl⟩;obtain ⟨cv,hcv⟩:∃ v,ptC k (lfN t) j=v:=⟨_,rfl⟩;rw [hsv,hcv] at hb1 HS1;rw [hsv];rw [hcv] at c1;clear hsv hcv;have i0:(0:Int)<=(j:Int):=by omega
    have i1:(j:Int)<(k:Int):=by omega
    go_wp2_with fail
    refine ⟨⟨j+1,by omega,by go_num,by rw [HS1.out];go_num,trivial⟩,?_⟩;simp [intOf];omega
   ·obtain rfl:j=k:=by omega
    rw [HSA.out];have l1:=L1.out
    go_wp2_with (first | (go_at_call 22;refine (num22 _ _).mono ?_;rintro en wz ⟨rfl,hwz⟩;rw [hwz];clear hwz) | fail)
    go_ret;exact ⟨rfl,G8.out⟩
 ·have G2:=hZq (gZq G1.out hg2)
  clear hg2 MD G1;go_wp2;go_ret;exact ⟨rfl,G2.out⟩
end Go.Proofs.YteaahinjcfjngaaGreat
namespace Go.Proofs.YteaahinjcfjngaaGreat.statsRises
open Go.ChangeShapes Go.WideShapes Go.ChangeAt Go.WideMaps Go.WideElems Go.RowKit Go.Deep
open Go.ChangeMaps (open_string shut_string)
theorem own:ownKnob Tryz.prog.godebug=none:=by kernel_rfl
theorem laidOut:laidOutB Tryz.prog=true:=by kernel_rfl
theorem bytes_u8:Tryz.prog.bytesOf 5=1:=by kernel_rfl
theorem bytes_i64:Tryz.prog.bytesOf 3=8:=by kernel_rfl
set_option linter.unusedVariables false
theorem lifted (os:Os)(started:os.Started)(H:Type)(enc:TypeId × Value->H) :
  ReturnsInHanded {} Tryz.checked os 8 .any (Rows.statsRisesSpec.pre6 enc Tryz.prog Tryz.f8 Rows.statsRisesRow.domain false) (Rows.statsRisesSpec.post enc Tryz.prog Tryz.f8 false true false false):=by
 refine returnsInHanded_of_change_sized (C:=Tryz.checked) own started (by kernel_rfl) Tryz.func8
  (ChangeSpec.witness6 (enc:=enc) (C:=Tryz.checked) false ⟨#[],#[.slice none 0 0,.float .f64 0,.float .f64 0,.int .i64 0],[]⟩ 8 (by kernel_rfl) (by kernel_rfl) (by kernel_rfl) (by kernel_rfl)) ?_
 intro W base args ds gs before hval0 hW hcnd hsz0 _;have hval:∀ (j:Nat) t v,Tryz.f8.params[j]?=some t->args[j]?=some v->Value.okWide Tryz.prog W .any base t v:=hval0;have hsz:(DataW.weightsEach Tryz.prog (Tryz.f8.params.toList++Rows.statsRisesSpec.plain.varTypes Tryz.prog) (ds++gs)).all (·<=reachBytes)=true:=hsz0;clear hsz0;have hW':=hW;obtain ⟨p,q,hA0,hV,rfl,hfz,hnd⟩:=hW;have hA:DataW.TrodAll enc Tryz.prog W 0 (fun _=>true) true Tryz.f8.params.toList args.toList ds p:=hA0;rw [Tryz.params8] at hA hval hsz;obtain ⟨v0,vs0,d0,ds0,p0,q0,hargs,rfl,rfl,h0,r0⟩:=trodAll_cons hA;obtain ⟨v1,vs1,d1,ds1,p1,q1,rfl,rfl,rfl,h1,r1⟩:=trodAll_cons r0;obtain ⟨v2,vs2,d2,ds2,p2,q2,rfl,rfl,rfl,h2,r2⟩:=trodAll_cons r1;obtain ⟨v3,vs3,d3,ds3,p3,q3,rfl,rfl,rfl,h3,r3⟩:=trodAll_cons r2;obtain ⟨rfl,rfl,rfl⟩:=trodAll_nil r3;obtain rfl:args=#[v0,v1,v2,v3]:=by cases args;simp_all
 obtain ⟨rfl,rfl⟩:=trodVars_none hV;obtain ⟨a0,len0,cap0,rfl⟩:=okWide_slice Tryz.underlying22 (hval 0 22 v0 rfl rfl);have k0:=h0;have lt0:∀ x∈p0,x.block<W.heap.size:=by obtain ⟨m,hm⟩:=k0;exact DataW.trod_lt m _ _ _ hm
 obtain ⟨z0,b0,l0,t0⟩:∃ xs,RnU W a0 xs/\xs.length=len0/\∀ x∈xs,RnB x:=by
  obtain ⟨fuel,hf⟩:=h0;obtain ⟨xs,h1,h2,_,_,h3⟩:=nodes_open22 (by simpa [Value.cells] using hf) (Wt22.of hsz (j:=0) rfl rfl);exact ⟨xs,h1,h2,h3⟩
 obtain ⟨a1,rfl,rfl,rfl,w1⟩:=open_float Tryz.underlying26 (hval 1 26 v1 rfl rfl) h1;obtain ⟨a2,rfl,rfl,rfl,w2⟩:=open_float Tryz.underlying26 (hval 2 26 v2 rfl rfl) h2;obtain ⟨a3,rfl,rfl,rfl,w3⟩:=open_int Tryz.underlying3 (hval 3 3 v3 rfl rfl) h3;clear hA0 hval0;refine (rises_any a0 len0 cap0 a1 a2 a3 z0 W b0 l0 t0 (of_decide_eq_true w1) (of_decide_eq_true w2)).mono fun e W' ⟨he,hg⟩=>?_
 subst he;have bel:=below_ofW hg;exact ⟨_,rfl,_,_,_,[],_,[],hW',trodAll_mk1 (shut_bool Tryz.underlying4 _),(trodAll_cons_mk (Below.trod laidOut (by kernel_rfl) (of_decide_eq_true (by kernel_rfl)) k0 bel lt0) (trodAll_cons_mk (shut_float Tryz.underlying26 w1) (trodAll_cons_mk (shut_float Tryz.underlying26 w2) (trodAll_cons_mk (shut_int Tryz.underlying3 w3) trodAll_mk0)))),rfl,bel.frame _,fun h=>by cases h⟩
theorem over:Rows.statsRisesRow.holds Tryz.pinned (OpenSpec.ofChange Rows.statsRisesSpec) :=
 OpenClaim.holds_of_wide 8 Tryz.f8 rfl rfl rfl rfl rfl rfl rfl ⟨rfl,rfl,rfl,rfl,rfl⟩ rfl rfl rfl rfl rfl (by kernel_rfl) Tryz.func8 (by kernel_rfl)
  (of_decide_eq_true (by kernel_rfl)) (by unfold Func.isWrapper;first | (rw [if_pos (by decide +kernel)];kernel_rfl) | (rw [if_neg (by decide +kernel)];exact ⟨rfl,rfl⟩))
  (fun os started H enc _=>lifted os started H enc)
end Go.Proofs.YteaahinjcfjngaaGreat.statsRises
namespace Go.Proofs.YteaahinjcfjngaaGreat
theorem statsRises_holds:Rows.StatsRisesSaid:=statsRises.over
#print axioms statsRises_holds
end Go.Proofs.YteaahinjcfjngaaGreat
