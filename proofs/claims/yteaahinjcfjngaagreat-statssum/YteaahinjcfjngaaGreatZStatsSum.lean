import Derived.Test.YteaahinjcfjngaaGreatQ61
import Derived.Test.YteaahinjcfjngaaGreatQ42
import Derived.Test.YteaahinjcfjngaaGreatQ51
import Derived.Test.YteaahinjcfjngaaGreatQ50
import Derived.WalkKit
import Derived.ProofKit
import Derived.OpenShut
import Derived.ShutString
import Derived.ChangeOld
import Derived.Below
import Derived.SizedLaws
import Derived.Deep.Slices
import Derived.Laws.Cover2
import Derived.Test.YteaahinjcfjngaaGreatRows
set_option maxRecDepth 100000
set_option maxHeartbeats 32000000
namespace Go.Proofs.YteaahinjcfjngaaGreat
open Go.RowKit
theorem zr_own5 {w:World}{base n c:Nat}{a:Option Addr}{zs:List Int}(h:w.ownsRow base 3 1 (.slice a n c) n (zs.map (Value.int .i64)))(hn:zs.length=n):ZrW w a zs:=fun i z hz=>by
 have hi:=(List.getElem?_eq_some_iff.1 hz).1
 obtain ⟨g,rfl⟩:∃ g,a=some ⟨g,0,none⟩:=by
  rcases h.2 with ⟨_,e0⟩ | ⟨g,cap,cur,e,_⟩
  ·omega
  ·injection e with e1
   exact ⟨g,e1⟩
 refine ⟨g,0,rfl,?_⟩;rw [Nat.zero_add,h.cellAt i (by omega),List.getElem?_map,hz]
 rfl
theorem sumLaw_any (a:Option Addr)(n c:Nat)(xs:List RnT)(w:World)(hx:RnU w a xs)(hn:xs.length=n)(hb:∀ x∈xs,RnB x) :
  Calls Tryz.prog 3 #[.slice a n c] w fun en w'=>en=.returned (.bool true)/\w.grownBy w' none:=by
 have HX:=hZq (fun (W:World) (hW:w.grownBy W none)=>hx.kept (CkF.of hW));have MD:=hZq (fun (W:World) (hW:w.grownBy W none)=>made_any a n c xs W (hx.kept (CkF.of hW)) hn hb);have HN:=hZq hn;have hsf:=store_f22;clear hx hn hb;go_enter Tryz.func3,Tryz.ntmps3
 go_wp2_with fail
 refine (first22 w).mono ?_;rintro en w1 ⟨rfl,hg1⟩;have G1:=hZq hg1;clear hg1
 go_wp2_with fail
 refine (MD.out w1 G1.out).mono ?_;rintro en w2 ⟨⟨p,t,rfl,ht,hbk,hl3⟩ | rfl,hg2⟩
 ·have HT:=hZq ht
  have HBK:=hZq (trs_built hbk hl3);have HTS:=hZq HBK.out.1;have G2:=hZq (gZq G1.out hg2);have HTL:Hid ((tellO t).length=n):=by have h1:=HBK.out.2.1;have h2:=HN.out;show _=_;omega
  have HNB:Hid (n<=3000):=by have h1:=HN.out;show _<=_;omega
  have HNV:Hid (∀ W:World,w2.grownBy W none->NvL W a (tellO t)):=fun W hW=>by
   match t,HBK.out.2.2 with
   | none,_=>exact fun i x h=>by simp [tellO] at h
   | some t0,h=>exact (HX.out W (gZq G2.out hW)).nv (h t0 rfl)
  have HNU:Hid (∀ W:World,w2.grownBy W none->NlU W a (tellO t)):=fun W hW=>by
   match t,HBK.out.2.2 with
   | none,_=>exact fun i x h=>by simp [tellO] at h
   | some t0,h=>exact (HX.out W (gZq G2.out hW)).nl (h t0 rfl)
  have OF:=hZq (fun (W:World) (hW:w2.grownBy W none)=>of_any t p W (HT.out.kept (FrT.of hW)) HTS.out);have RF:=hZq (fun (W:World) (hW:w2.grownBy W none)=>refSum22 a n c (tellO t) W (HNV.out W hW) HTL.out HTS.out.sz HNB.out);have ND:=hZq (fun (W:World) (hW:w2.grownBy W none)=>nodes_any t p W (HT.out.kept (FrT.of hW)) HTS.out.ok HTS.out.ck (by have:=HTS.out.ln;omega) HTS.out.hi);have HFO:Hid (FloatKind.f64.format.order (fillV (tellO t)) (fillV (tellO t))=some .eq):=sum_order HTS.out (Nat.le_of_eq HTL.out) HNB.out;clear ht hbk hl3 hg2 MD HX HN G1 HBK HT HNV
  go_wp2_with fail
  refine (OF.out w2 (World.grownBy.refl _ _)).mono ?_;rintro en w3 ⟨rfl,hg3⟩;have G3:=hZq hg3;clear hg3;have HSV:Hid (sumV (tellO t)=#[.int .i64 (sumT kyN (tellO t):Nat),.int .i64 (sumT kbN (tellO t):Nat),.int .i64 (sumT vbN (tellO t):Nat),.int .i64 (sumT pgN (tellO t):Nat),.int .i64 (sumT usN (tellO t):Nat),.float .f64 (fillV (tellO t))]):=rfl;have HSR:Hid (smR (tellO t)=[((sumT kyN (tellO t):Nat):Int),((sumT kbN (tellO t):Nat):Int),((sumT vbN (tellO t):Nat):Int),((sumT pgN (tellO t):Nat):Int),((sumT usN (tellO t):Nat):Int)]):=rfl;rw [HSV.out] at OF ⊢;rw [HSR.out] at RF;clear HSV HSR;generalize fillV (tellO t)=fl at *;generalize sumT kyN (tellO t)=ky at *;generalize sumT pgN (tellO t)=pg at *;generalize sumT usN (tellO t)=us at *;generalize sumT kbN (tellO t)=kb at *;generalize sumT vbN (tellO t)=vb at *;go_upto_region 6 with fail
  have ga:=World.grownBy_alloc w3 (.cells #[.int .i64 (ky:Nat),.int .i64 (kb:Nat),.int .i64 (vb:Nat),.int .i64 (pg:Nat),.int .i64 (us:Nat),.float .f64 fl] 28) none;have XS:=hZq (heap_at0 w3 #[.int .i64 (ky:Nat),.int .i64 (kb:Nat),.int .i64 (vb:Nat),.int .i64 (pg:Nat),.int .i64 (us:Nat),.float .f64 fl] 28);have G5:=hZq (gZq G3.out ga);clear ga G3;generalize w3.alloc (.cells #[.int .i64 (ky:Nat),.int .i64 (kb:Nat),.int .i64 (vb:Nat),.int .i64 (pg:Nat),.int .i64 (us:Nat),.float .f64 fl] 28)=w5 at *;generalize w3.heap.size=E at *
  go_wp2_with fail
  refine (RF.out w5 G5.out).mono ?_;rintro en w6 ⟨g6,rfl,ho6,hg6⟩;have X6:=hZq (heap_kept XS.out hg6);have G6:=hZq (gZq G5.out hg6);have Z6:=hZq (zr_own5 ho6 rfl);have c0:=cell_heap (i:=0) X6.out rfl;have c1:=cell_heap (i:=1) X6.out rfl;have c2:=cell_heap (i:=2) X6.out rfl;have c3:=cell_heap (i:=3) X6.out rfl;have c4:=cell_heap (i:=4) X6.out rfl;clear ho6 hg6 XS G5 RF;go_upto_region 8 with fail
  have GA:Hid (w6.grownBy (w6.alloc (.cells #[.int .i64 (ky:Nat),.int .i64 (kb:Nat),.int .i64 (vb:Nat),.int .i64 (pg:Nat),.int .i64 (us:Nat)] 3)) none):=World.grownBy_alloc _ _ none
  have ZN:ZrW (w6.alloc (.cells #[.int .i64 (ky:Nat),.int .i64 (kb:Nat),.int .i64 (vb:Nat),.int .i64 (pg:Nat),.int .i64 (us:Nat)] 3)) (some ⟨w6.heap.size,0,none⟩) [((ky:Nat):Int),((kb:Nat):Int),((vb:Nat):Int),((pg:Nat):Int),((us:Nat):Int)]:=fun j z hz=>by
   have h1:=itm_new w6 ([((ky:Nat):Int),((kb:Nat):Int),((vb:Nat):Int),((pg:Nat):Int),((us:Nat):Int)].map (Value.int .i64)) 3 j (.int .i64 z) (by rw [List.getElem?_map,hz];rfl);rw [Addr.add_lit] at h1;exact ⟨_,0,rfl,h1⟩
  have SI:=hZq (sameInts10 (some ⟨w6.heap.size,0,none⟩) (some ⟨g6,0,none⟩) 5 5 5 [((ky:Nat):Int),((kb:Nat):Int),((vb:Nat):Int),((pg:Nat):Int),((us:Nat):Int)] _ ZN (Z6.out.kept GA.out) rfl (by omega));have X7:=hZq (heap_kept X6.out GA.out);have G7:=hZq (gZq G6.out GA.out);clear ZN Z6 GA X6 c0 c1 c2 c3 c4 G6;generalize w6.alloc (.cells #[.int .i64 (ky:Nat),.int .i64 (kb:Nat),.int .i64 (vb:Nat),.int .i64 (pg:Nat),.int .i64 (us:Nat)] 3)=w7 at *;generalize w6.heap.size=E6 at *
  go_wp2_with fail
  refine SI.out.mono ?_;rintro en w8 ⟨rfl,hq8⟩;have G8:=hZq (gZq G7.out (hq8.grown none));have X8:=hZq (heap_kept X7.out (hq8.grown none));clear hq8 X7 G7 SI
  go_wp2_with fail
  refine (ND.out w8 G8.out).mono ?_;rintro en w9 ⟨v9,es,rfl,ho9,hto,hg9⟩;obtain ⟨a9,c9,rfl⟩:=own_shape10 ho9;have NL:=hZq (nl_of ho9 hto);have G9:=hZq (gZq G8.out hg9);have X9:=hZq (heap_kept X8.out hg9);have SN:=hZq (sameNodes22 a9 a n c9 c (tellO t) w9 NL.out (HNU.out w9 G9.out) HTL.out (by have:=HNB.out;omega) (fun x hx=>by have:=(HTS.out.sz x hx).pn;omega));rw [HTL.out];clear ho9 hto hg9 X8 G8
  go_wp2_with fail
  refine SN.out.mono ?_;rintro en w10 ⟨rfl,hg10⟩;have G10:=hZq (gZq G9.out hg10);have X10:=hZq (heap_kept X9.out hg10);clear hg10 X9 G9 SN NL
  go_wp2_with fail
  refine (OF.out w10 G10.out).mono ?_;rintro en w11 ⟨rfl,hg11⟩;have G11:=hZq (gZq G10.out hg11);have X11:=hZq (heap_kept X10.out hg11);clear hg11 X10 G10;go_upto_region 11 with fail
  have ga:=World.grownBy_alloc w11 (.cells #[.int .i64 (ky:Nat),.int .i64 (kb:Nat),.int .i64 (vb:Nat),.int .i64 (pg:Nat),.int .i64 (us:Nat),.float .f64 fl] 28) none;have XQ:=hZq (heap_at0 w11 #[.int .i64 (ky:Nat),.int .i64 (kb:Nat),.int .i64 (vb:Nat),.int .i64 (pg:Nat),.int .i64 (us:Nat),.float .f64 fl] 28);have XE:=hZq (heap_kept X11.out ga);have G12:=hZq (gZq G2.out (gZq G11.out ga));clear ga X11 G11;generalize w11.alloc (.cells #[.int .i64 (ky:Nat),.int .i64 (kb:Nat),.int .i64 (vb:Nat),.int .i64 (pg:Nat),.int .i64 (us:Nat),.float .f64 fl] 28)=w12 at *;generalize w11.heap.size=F at *;have q0:=cell_heap (i:=0) XQ.out rfl;have q1:=cell_heap (i:=1) XQ.out rfl;have q2:=cell_heap (i:=2) XQ.out rfl;have q3:=cell_heap (i:=3) XQ.out rfl;have q4:=cell_heap (i:=4) XQ.out rfl;have q5:=cell_heap (i:=5) XQ.out rfl;have e0:=cell_heap (i:=0) XE.out rfl;have e1:=cell_heap (i:=1) XE.out rfl;have e2:=cell_heap (i:=2) XE.out rfl;have e3:=cell_heap (i:=3) XE.out rfl;have e4:=cell_heap (i:=4) XE.out rfl;have e5:=cell_heap (i:=5) XE.out rfl;have hq:=fun W=>eql_sum (ky:Nat) (kb:Nat) (vb:Nat) (pg:Nat) (us:Nat) fl W HFO.out
  have hgd:=fun (x y:Operand) (W:World)=>guard_sum x y #[.int .i64 (ky:Nat),.int .i64 (kb:Nat),.int .i64 (vb:Nat),.int .i64 (pg:Nat),.int .i64 (us:Nat),.float .f64 fl] #[.int .i64 (ky:Nat),.int .i64 (kb:Nat),.int .i64 (vb:Nat),.int .i64 (pg:Nat),.int .i64 (us:Nat),.float .f64 fl] W
  have hfo:(FloatKind.f64.format.order fl fl==some Ordering.eq)=true:=by rw [HFO.out];rfl
  go_wp2;go_ret;exact ⟨rfl,G12.out⟩
 ·have G2:=hZq (gZq G1.out hg2)
  clear hg2 MD G1;go_wp2;go_ret;exact ⟨rfl,G2.out⟩
end Go.Proofs.YteaahinjcfjngaaGreat
namespace Go.Proofs.YteaahinjcfjngaaGreat.statsSum
open Go.ChangeShapes Go.WideShapes Go.ChangeAt Go.WideMaps Go.WideElems Go.RowKit Go.Deep
open Go.ChangeMaps (open_string shut_string)
theorem own:ownKnob Tryz.prog.godebug=none:=by kernel_rfl
theorem laidOut:laidOutB Tryz.prog=true:=by kernel_rfl
theorem bytes_u8:Tryz.prog.bytesOf 5=1:=by kernel_rfl
theorem bytes_i64:Tryz.prog.bytesOf 3=8:=by kernel_rfl
set_option linter.unusedVariables false
theorem lifted (os:Os)(started:os.Started)(H:Type)(enc:TypeId × Value->H) :
  ReturnsInHanded {} Tryz.checked os 3 .any (Rows.statsSumSpec.pre6 enc Tryz.prog Tryz.f3 Rows.statsSumRow.domain false) (Rows.statsSumSpec.post enc Tryz.prog Tryz.f3 false true false false):=by
 refine returnsInHanded_of_change_sized (C:=Tryz.checked) own started (by kernel_rfl) Tryz.func3
  (ChangeSpec.witness6 (enc:=enc) (C:=Tryz.checked) false ⟨#[],#[.slice none 0 0],[]⟩ 8 (by kernel_rfl) (by kernel_rfl) (by kernel_rfl) (by kernel_rfl)) ?_
 intro W base args ds gs before hval0 hW hcnd hsz0 _;have hval:∀ (j:Nat) t v,Tryz.f3.params[j]?=some t->args[j]?=some v->Value.okWide Tryz.prog W .any base t v:=hval0;have hsz:(DataW.weightsEach Tryz.prog (Tryz.f3.params.toList++Rows.statsSumSpec.plain.varTypes Tryz.prog) (ds++gs)).all (·<=reachBytes)=true:=hsz0;clear hsz0;have hW':=hW;obtain ⟨p,q,hA0,hV,rfl,hfz,hnd⟩:=hW;have hA:DataW.TrodAll enc Tryz.prog W 0 (fun _=>true) true Tryz.f3.params.toList args.toList ds p:=hA0;rw [Tryz.params3] at hA hval hsz;obtain ⟨v0,vs0,d0,ds0,p0,q0,hargs,rfl,rfl,h0,r0⟩:=trodAll_cons hA;obtain ⟨rfl,rfl,rfl⟩:=trodAll_nil r0;obtain rfl:args=#[v0]:=by cases args;simp_all
 obtain ⟨rfl,rfl⟩:=trodVars_none hV;obtain ⟨a0,len0,cap0,rfl⟩:=okWide_slice Tryz.underlying22 (hval 0 22 v0 rfl rfl);have k0:=h0;have lt0:∀ x∈p0,x.block<W.heap.size:=by obtain ⟨m,hm⟩:=k0;exact DataW.trod_lt m _ _ _ hm
 obtain ⟨z0,b0,l0,t0⟩:∃ xs,RnU W a0 xs/\xs.length=len0/\∀ x∈xs,RnB x:=by
  obtain ⟨fuel,hf⟩:=h0;obtain ⟨xs,h1,h2,_,_,h3⟩:=nodes_open22 (by simpa [Value.cells] using hf) (Wt22.of hsz (j:=0) rfl rfl);exact ⟨xs,h1,h2,h3⟩
 clear hA0 hval0;refine (sumLaw_any a0 len0 cap0 z0 W b0 l0 t0).mono fun e W' ⟨he,hg⟩=>?_
 subst he;have bel:=below_ofW hg;exact ⟨_,rfl,_,_,_,[],_,[],hW',trodAll_mk1 (shut_bool Tryz.underlying4 _),(trodAll_cons_mk (Below.trod laidOut (by kernel_rfl) (of_decide_eq_true (by kernel_rfl)) k0 bel lt0) trodAll_mk0),rfl,bel.frame _,fun h=>by cases h⟩
theorem over:Rows.statsSumRow.holds Tryz.pinned (OpenSpec.ofChange Rows.statsSumSpec) :=
 OpenClaim.holds_of_wide 3 Tryz.f3 rfl rfl rfl rfl rfl rfl rfl ⟨rfl,rfl,rfl,rfl,rfl⟩ rfl rfl rfl rfl rfl (by kernel_rfl) Tryz.func3 (by kernel_rfl)
  (of_decide_eq_true (by kernel_rfl)) (by unfold Func.isWrapper;first | (rw [if_pos (by decide +kernel)];kernel_rfl) | (rw [if_neg (by decide +kernel)];exact ⟨rfl,rfl⟩))
  (fun os started H enc _=>lifted os started H enc)
end Go.Proofs.YteaahinjcfjngaaGreat.statsSum
namespace Go.Proofs.YteaahinjcfjngaaGreat
theorem statsSum_holds:Rows.StatsSumSaid:=statsSum.over
#print axioms statsSum_holds
end Go.Proofs.YteaahinjcfjngaaGreat
