import Derived.Test.YteaahinjcfjngaaGreatQ58
import Derived.Test.YteaahinjcfjngaaGreatQ50
import Derived.WalkKit
import Derived.ProofKit
import Derived.OpenShut
import Derived.ShutString
import Derived.ChangeOld
import Derived.Below
import Derived.SizedLaws
import Derived.Deep.Slices
import Derived.Laws.Cover2
import Derived.Test.YteaahinjcfjngaaGreatRows
set_option maxRecDepth 100000
set_option maxHeartbeats 16000000
namespace Go.Proofs.YteaahinjcfjngaaGreat
open Go.RowKit
theorem quant_both (t:Option TrT)(p q:Nat)(w:World)(ht:TreeT w p t)(h:TrS t)(hq:q<2 ^ 64):∃ (x:Nat) (e:Int),FloatKind.f64.format.order x x=some .eq /\
  (∀ W:World,w.grownBy W none->Calls Tryz.prog 23 #[.pointer (some ⟨p,0,none⟩),.float .f64 q] W fun en w'=>en=.returned (.tuple #[.float .f64 x,.int .i64 e])/\W.grownBy w' none) /\
  (∀ (W:World) (base:Nat) (v:Value),W.ownsRow base 3 1 v (lzN (tellO t) 0).length ((lzN (tellO t) 0).map (Value.int .i64))->Calls Tryz.prog 24 #[v,.float .f64 q] W fun en w'=>en=.returned (.tuple #[.float .f64 x,.int .i64 e])/\W.grownBy w' none):=by
 rcases sh_or hq with hs | hbad
 ·exact ⟨qtV t q,qtE t,order_self (qtv_inf h hs),fun W hW=>quantile_any t p q W (ht.kept (FrT.of hW)) h hs,fun W base v hv=>refQuantile22 t q base v W h hv hs⟩
 ·refine ⟨0,221,by decide +kernel,fun W _=>quantile_bad p q W hbad,fun W base v hv=>?_⟩
  obtain ⟨a,c,rfl⟩:=own_shape10 hv;exact refQuantile_bad a _ c q W hbad
theorem quantiles_any (a:Option Addr)(n c q:Nat)(xs:List RnT)(w:World)(hx:RnU w a xs)(hn:xs.length=n)(hb:∀ x∈xs,RnB x)(hq:q<2 ^ 64) :
  Calls Tryz.prog 6 #[.slice a n c,.float .f64 q] w fun en w'=>en=.returned (.bool true)/\w.grownBy w' none:=by
 have HX:=hZq (fun (W:World) (hW:w.grownBy W none)=>hx.kept (CkF.of hW));have MD:=hZq (fun (W:World) (hW:w.grownBy W none)=>made_any a n c xs W (hx.kept (CkF.of hW)) hn hb);have HN:=hZq hn;have HQ:=hZq hq;clear hx hn hb hq;go_enter Tryz.func6,Tryz.ntmps6
 go_wp2_with fail
 refine (first22 w).mono ?_;rintro en w1 ⟨rfl,hg1⟩;have G1:=hZq hg1;clear hg1
 go_wp2_with fail
 refine (MD.out w1 G1.out).mono ?_;rintro en w2 ⟨⟨p,t,rfl,ht,hbk,hl3⟩ | rfl,hg2⟩
 ·have HBK:=hZq (trs_built hbk hl3)
  have HTS:=hZq HBK.out.1;have G2:=hZq (gZq G1.out hg2)
  have HNV:Hid (∀ W:World,w2.grownBy W none->NvL W a (tellO t)):=fun W hW=>by
   match t,HBK.out.2.2 with
   | none,_=>exact fun i x h=>by simp [tellO] at h
   | some t0,h=>exact (HX.out W (gZq G2.out hW)).nv (h t0 rfl)
  have SZ:=hZq (fun (W:World) (hW:w2.grownBy W none)=>refSizes22 a n c (tellO t) 0 W (HNV.out W hW) (by have h1:=HBK.out.2.1;have h2:=HN.out;omega) HTS.out.sz (by have h1:=HN.out;omega));obtain ⟨x,e,oe,pa,pb⟩:=quant_both t p q w2 ht HTS.out HQ.out;have PA:=hZq (pa w2 (World.grownBy.refl _ _));have PB:=hZq pb;have oe2:(FloatKind.f64.format.order x x==some Ordering.eq)=true:=by rw [oe];rfl
  clear ht hbk hl3 hg2 MD HX HN G1 HBK HNV HTS pa pb HQ oe
  go_wp2_with fail
  refine PA.out.mono ?_;rintro en w3 ⟨rfl,hg3⟩;have G3:=hZq hg3;clear hg3 PA
  go_wp2_with fail
  refine (SZ.out w3 G3.out).mono ?_;rintro en w4 ⟨v,rfl,ho4,hg4⟩;have P4:=hZq (PB.out w4 _ v ho4);have G4:=hZq (gZq G3.out hg4);clear ho4 hg4 SZ PB G3
  go_wp2_with fail
  refine P4.out.mono ?_;rintro en w5 ⟨rfl,hg5⟩;have G5:=hZq (gZq G2.out (gZq G4.out hg5));clear hg5 P4 G4
  go_wp2_with (first | (go_at_call 22;refine (num22 _ _).mono ?_;rintro en wz ⟨rfl,hwz⟩;rw [hwz];clear hwz) | fail)
  go_ret;exact ⟨rfl,G5.out⟩
 ·have G2:=hZq (gZq G1.out hg2)
  clear hg2 MD G1;go_wp2;go_ret;exact ⟨rfl,G2.out⟩
end Go.Proofs.YteaahinjcfjngaaGreat
namespace Go.Proofs.YteaahinjcfjngaaGreat.statsQuantiles
open Go.ChangeShapes Go.WideShapes Go.ChangeAt Go.WideMaps Go.WideElems Go.RowKit Go.Deep
open Go.ChangeMaps (open_string shut_string)
theorem own:ownKnob Tryz.prog.godebug=none:=by kernel_rfl
theorem laidOut:laidOutB Tryz.prog=true:=by kernel_rfl
theorem bytes_u8:Tryz.prog.bytesOf 5=1:=by kernel_rfl
theorem bytes_i64:Tryz.prog.bytesOf 3=8:=by kernel_rfl
set_option linter.unusedVariables false
theorem lifted (os:Os)(started:os.Started)(H:Type)(enc:TypeId × Value->H) :
  ReturnsInHanded {} Tryz.checked os 6 .any (Rows.statsQuantilesSpec.pre6 enc Tryz.prog Tryz.f6 Rows.statsQuantilesRow.domain false) (Rows.statsQuantilesSpec.post enc Tryz.prog Tryz.f6 false true false false):=by
 refine returnsInHanded_of_change_sized (C:=Tryz.checked) own started (by kernel_rfl) Tryz.func6
  (ChangeSpec.witness6 (enc:=enc) (C:=Tryz.checked) false ⟨#[],#[.slice none 0 0,.float .f64 0],[]⟩ 8 (by kernel_rfl) (by kernel_rfl) (by kernel_rfl) (by kernel_rfl)) ?_
 intro W base args ds gs before hval0 hW hcnd hsz0 _;have hval:∀ (j:Nat) t v,Tryz.f6.params[j]?=some t->args[j]?=some v->Value.okWide Tryz.prog W .any base t v:=hval0;have hsz:(DataW.weightsEach Tryz.prog (Tryz.f6.params.toList++Rows.statsQuantilesSpec.plain.varTypes Tryz.prog) (ds++gs)).all (·<=reachBytes)=true:=hsz0;clear hsz0;have hW':=hW;obtain ⟨p,q,hA0,hV,rfl,hfz,hnd⟩:=hW;have hA:DataW.TrodAll enc Tryz.prog W 0 (fun _=>true) true Tryz.f6.params.toList args.toList ds p:=hA0;rw [Tryz.params6] at hA hval hsz;obtain ⟨v0,vs0,d0,ds0,p0,q0,hargs,rfl,rfl,h0,r0⟩:=trodAll_cons hA;obtain ⟨v1,vs1,d1,ds1,p1,q1,rfl,rfl,rfl,h1,r1⟩:=trodAll_cons r0;obtain ⟨rfl,rfl,rfl⟩:=trodAll_nil r1;obtain rfl:args=#[v0,v1]:=by cases args;simp_all
 obtain ⟨rfl,rfl⟩:=trodVars_none hV;obtain ⟨a0,len0,cap0,rfl⟩:=okWide_slice Tryz.underlying22 (hval 0 22 v0 rfl rfl);have k0:=h0;have lt0:∀ x∈p0,x.block<W.heap.size:=by obtain ⟨m,hm⟩:=k0;exact DataW.trod_lt m _ _ _ hm
 obtain ⟨z0,b0,l0,t0⟩:∃ xs,RnU W a0 xs/\xs.length=len0/\∀ x∈xs,RnB x:=by
  obtain ⟨fuel,hf⟩:=h0;obtain ⟨xs,h1,h2,_,_,h3⟩:=nodes_open22 (by simpa [Value.cells] using hf) (Wt22.of hsz (j:=0) rfl rfl);exact ⟨xs,h1,h2,h3⟩
 obtain ⟨a1,rfl,rfl,rfl,w1⟩:=open_float Tryz.underlying26 (hval 1 26 v1 rfl rfl) h1;clear hA0 hval0;refine (quantiles_any a0 len0 cap0 a1 z0 W b0 l0 t0 (of_decide_eq_true w1)).mono fun e W' ⟨he,hg⟩=>?_
 subst he;have bel:=below_ofW hg;exact ⟨_,rfl,_,_,_,[],_,[],hW',trodAll_mk1 (shut_bool Tryz.underlying4 _),(trodAll_cons_mk (Below.trod laidOut (by kernel_rfl) (of_decide_eq_true (by kernel_rfl)) k0 bel lt0) (trodAll_cons_mk (shut_float Tryz.underlying26 w1) trodAll_mk0)),rfl,bel.frame _,fun h=>by cases h⟩
theorem over:Rows.statsQuantilesRow.holds Tryz.pinned (OpenSpec.ofChange Rows.statsQuantilesSpec) :=
 OpenClaim.holds_of_wide 6 Tryz.f6 rfl rfl rfl rfl rfl rfl rfl ⟨rfl,rfl,rfl,rfl,rfl⟩ rfl rfl rfl rfl rfl (by kernel_rfl) Tryz.func6 (by kernel_rfl)
  (of_decide_eq_true (by kernel_rfl)) (by unfold Func.isWrapper;first | (rw [if_pos (by decide +kernel)];kernel_rfl) | (rw [if_neg (by decide +kernel)];exact ⟨rfl,rfl⟩))
  (fun os started H enc _=>lifted os started H enc)
end Go.Proofs.YteaahinjcfjngaaGreat.statsQuantiles
namespace Go.Proofs.YteaahinjcfjngaaGreat
theorem statsQuantiles_holds:Rows.StatsQuantilesSaid:=statsQuantiles.over
#print axioms statsQuantiles_holds
end Go.Proofs.YteaahinjcfjngaaGreat
