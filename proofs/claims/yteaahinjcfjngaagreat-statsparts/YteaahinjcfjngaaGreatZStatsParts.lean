import Derived.Test.YteaahinjcfjngaaGreatQ58
import Derived.Test.YteaahinjcfjngaaGreatQ30
import Derived.Test.YteaahinjcfjngaaGreatQ50
import Derived.WalkKit
import Derived.ProofKit
import Derived.OpenShut
import Derived.ShutString
import Derived.ChangeOld
import Derived.Below
import Derived.SizedLaws
import Derived.Deep.Slices
import Derived.Laws.Cover2
import Derived.Test.YteaahinjcfjngaaGreatRows
set_option maxRecDepth 100000
set_option maxHeartbeats 16000000
namespace Go.Proofs.YteaahinjcfjngaaGreat
open Go.RowKit
theorem zr_own {w:World}{base n c:Nat}{a:Option Addr}{zs:List Int}(h:w.ownsRow base 3 1 (.slice a n c) n (zs.map (Value.int .i64)))(hn:zs.length=n):ZrW w a zs:=fun i z hz=>by
 have hi:=(List.getElem?_eq_some_iff.1 hz).1
 obtain ⟨g,rfl⟩:∃ g,a=some ⟨g,0,none⟩:=by
  rcases h.2 with ⟨_,e0⟩ | ⟨g,cap,cur,e,_⟩
  ·omega
  ·injection e with e1
   exact ⟨g,e1⟩
 refine ⟨g,0,rfl,?_⟩;rw [Nat.zero_add,h.cellAt i (by omega),List.getElem?_map,hz]
 rfl
theorem own_low22 {w:World}{base low sz:Nat}{e:TypeId}{v:Value}{n:Nat}{xs:List Value}(h:w.ownsRow base e sz v n xs)(hb:low<=base):w.ownsRow low e sz v n xs:=by
 refine ⟨h.1,?_⟩;rcases h.2 with h1 | ⟨g,cap,cur,h1,h2,h3⟩
 ·exact .inl h1
 ·exact .inr ⟨g,cap,cur,h1,Nat.le_trans hb h2,h3⟩
theorem parts_both (t:Option TrT)(p:Nat)(z:Int)(w:World)(ht:TreeT w p t)(h:TrS t):∃ (M:List Int) (e:Int),M.length<=1000 /\
  (∀ W:World,w.grownBy W none->Calls Tryz.prog 21 #[.pointer (some ⟨p,0,none⟩),.int .i64 z] W fun en w'=>∃ v,en=.returned (.tuple #[v,.int .i64 e])/\w'.ownsRow W.heap.size 3 1 v M.length (M.map (Value.int .i64))/\W.grownBy w' none) /\
  (∀ (W:World) (base:Nat) (v:Value),W.ownsRow base 3 1 v (lzN (tellO t) 0).length ((lzN (tellO t) 0).map (Value.int .i64))->Calls Tryz.prog 20 #[v,.int .i64 z] W fun en w'=>∃ v,en=.returned (.tuple #[v,.int .i64 e])/\w'.ownsRow W.heap.size 3 1 v M.length (M.map (Value.int .i64))/\W.grownBy w' none):=by
 by_cases hz:z<1∨1000<z
 ·refine ⟨[],220,Nat.zero_le _,fun W _=>(parts_bad p z W hz).mono ?_,fun W base v hv=>?_⟩
  ·rintro en w' ⟨rfl,hg⟩
   exact ⟨_,rfl,⟨rfl,.inl ⟨rfl,rfl⟩⟩,hg⟩
  ·obtain ⟨a,c,rfl⟩:=own_shape10 hv
   refine (refParts_bad22 _ z W hz ⟨_,_,_,rfl⟩).mono ?_;rintro en w' ⟨rfl,hg⟩;exact ⟨_,rfl,⟨rfl,.inl ⟨rfl,rfl⟩⟩,hg⟩
 ·obtain ⟨k,rfl⟩:∃ k:Nat,z=(k:Int):=⟨z.toNat,by omega⟩
  have e1:lzN (tellO t) 0=(lfN t).map fun s=>((s:Nat):Int):=by
   unfold lzN lfN;rw [List.map_map]
   rfl
  have hlen:(lfN t).length<=100000:=by
   rw [lfn_len];exact Nat.le_trans (atL_len _ _) h.ln
  have hpl:=ptL_len k (lfN t);refine ⟨ptL k (lfN t),0,by omega,fun W hW=>(parts_any t p k W (ht.kept (FrT.of hW)) h (by omega) (by omega)).mono ?_,fun W base v hv=>?_⟩
  ·rintro en w' ⟨g,rfl,h1,h2,h3⟩
   exact ⟨_,rfl,own_low22 (by rw [hpl];exact h2) h1,h3⟩
  ·rw [e1,List.length_map] at hv
   refine (refParts22 (lfN t) k base v W hv (fun s hs=>?_) hlen (by omega) (by omega)).mono ?_
   ·obtain ⟨x,hx,rfl⟩:=List.mem_map.1 hs
    exact (h.sz x (atL_mem hx)).hi
   ·rintro en w' ⟨g,rfl,h1,h2,h3⟩
    exact ⟨_,rfl,own_low22 (by rw [hpl];exact h2) h1,h3⟩
theorem partsLaw_any (a:Option Addr)(n c:Nat)(z:Int)(xs:List RnT)(w:World)(hx:RnU w a xs)(hn:xs.length=n)(hb:∀ x∈xs,RnB x) :
  Calls Tryz.prog 5 #[.slice a n c,.int .i64 z] w fun en w'=>en=.returned (.bool true)/\w.grownBy w' none:=by
 have HX:=hZq (fun (W:World) (hW:w.grownBy W none)=>hx.kept (CkF.of hW));have MD:=hZq (fun (W:World) (hW:w.grownBy W none)=>made_any a n c xs W (hx.kept (CkF.of hW)) hn hb);have HN:=hZq hn;clear hx hn hb;go_enter Tryz.func5,Tryz.ntmps5
 go_wp2_with fail
 refine (first22 w).mono ?_;rintro en w1 ⟨rfl,hg1⟩;have G1:=hZq hg1;clear hg1
 go_wp2_with fail
 refine (MD.out w1 G1.out).mono ?_;rintro en w2 ⟨⟨p,t,rfl,ht,hbk,hl3⟩ | rfl,hg2⟩
 ·have HBK:=hZq (trs_built hbk hl3)
  have HTS:=hZq HBK.out.1;have G2:=hZq (gZq G1.out hg2)
  have HNV:Hid (NvL w2 a (tellO t)):=by
   show NvL w2 a (tellO t)
   match t,HBK.out.2.2 with
   | none,_=>exact fun i x h=>by simp [tellO] at h
   | some t0,h=>exact (HX.out w2 G2.out).nv (h t0 rfl)
  have SZ:=hZq (refSizes22 a n c (tellO t) 0 w2 HNV.out (by have h1:=HBK.out.2.1;have h2:=HN.out;omega) HTS.out.sz (by have h1:=HN.out;omega));obtain ⟨M,e,hm,pa,pb⟩:=parts_both t p z w2 ht HTS.out;have PA:=hZq pa;have PB:=hZq pb;clear ht hbk hl3 hg2 MD HX HN G1 HBK HNV HTS pa pb
  go_wp2_with fail
  refine SZ.out.mono ?_;rintro en w3 ⟨v,rfl,ho3,hg3⟩;have P3:=hZq (PB.out w3 _ v ho3);have G3:=hZq hg3;clear ho3 hg3 SZ PB
  go_wp2_with fail
  refine P3.out.mono ?_;rintro en w4 ⟨v4,rfl,ho4,hg4⟩;obtain ⟨a4,c4,rfl⟩:=own_shape10 ho4;obtain ⟨m,hmm⟩:∃ m,M.length=m:=⟨_,rfl⟩;rw [hmm] at ho4 hm PA ⊢;have Z4:=hZq (zr_own ho4 hmm);have G4:=hZq (gZq G3.out hg4);have HML:=hZq hmm;clear ho4 hg4 P3 G3 hmm
  go_wp2_with fail
  go_loopw [9] (fun s9 wr=>∃ r:Nat,r<=2/\s9=.int .i64 (r:Nat)/\w4.grownBy wr none) (fun s9 _=>2 - (intOf s9).toNat)
  case atStart=>exact ⟨0,Nat.zero_le _,rfl,World.grownBy.refl _ _⟩
  case round =>
   obtain ⟨r,hr,rfl,hg⟩:=hrel;have HG:=hZq hg;clear hg
   by_cases hlt:r<2
   ·have i1:(r:Int)<2:=by omega
    go_wp2_with fail
    refine (PA.out wr (gZq G4.out HG.out)).mono ?_;rintro en w5 ⟨v5,rfl,ho5,hg5⟩;obtain ⟨a5,c5,rfl⟩:=own_shape10 ho5;have Z5:=hZq (zr_own ho5 HML.out);have HO5:=hZq ho5;have G5:=hZq hg5;have Z45:=hZq (Z4.out.kept (gZq HG.out hg5));clear ho5 hg5
    go_wp2_with fail
    refine (sameInts10 a5 a4 m c5 c4 M w5 Z5.out Z45.out HML.out (by omega)).mono ?_;rintro en w6 ⟨rfl,hq6⟩;have G6:=hZq (hq6.grown none);have HO6:=hZq (own_kept22 HO5.out G6.out);have GA:=hZq (gZq HG.out (gZq G5.out G6.out));have HBB:=hZq HG.out.size;obtain ⟨B,hB⟩:∃ B,wr.heap.size=B:=⟨_,rfl⟩;rw [hB] at HO6 HBB;clear hq6 Z5 Z45 HO5 hB G5 G6 HG
    go_wp2_with (first | (go_at_call 22;refine (num22 _ _).mono ?_;rintro en wz ⟨rfl,hwz⟩;rw [hwz];clear hwz) | fail)
    go_loopw [13] (fun s13 wz=>∃ (k:Nat) (us:List Int),k<=m/\s13=.int .i64 (k:Nat)/\us.length=m/\wz.ownsRow B 3 1 (.slice a5 m c5) m (us.map (Value.int .i64))/\w6.grownBy wz (Value.slice a5 m c5).ownBlock) (fun s13 _=>m - (intOf s13).toNat)
    case atStart=>exact ⟨0,M,Nat.zero_le _,rfl,HML.out,HO6.out,World.grownBy.refl _ _⟩
    case round =>
     obtain ⟨k,us,hk,rfl,hu,ho,hg⟩:=hrel
     by_cases hlt2:k<m
     ·obtain ⟨g,rfl⟩:∃ g,a5=some ⟨g,0,none⟩:=by
       rcases ho.2 with ⟨_,e0⟩ | ⟨g,cap,cur,e,_⟩
       ·omega
       ·injection e with e1
        exact ⟨g,e1⟩
      obtain ⟨y,hy⟩:∃ y,us[k]?=some y:=⟨_,List.getElem?_eq_getElem (by omega)⟩
      have c2:wr.cell? ⟨g,k,none⟩=some (.int .i64 y):=by
       rw [ho.cellAt k (by omega),List.getElem?_map,hy]
       rfl
      have f2:=ho.frozenAt k;have ST:=hZq (ho.stored k (.int .i64 (-1)));rw [<- List.map_set] at ST;have HGR:=hZq hg;clear ho hg hy;have i0:(0:Int)<=(k:Int):=by omega
      have i2:(k:Int)<(m:Int):=by omega
      go_wp2_with fail
      refine ⟨⟨k+1,us.set k (-1),by omega,by go_num,by rw [List.length_set];exact hu,ST.out.1,gZq HGR.out ST.out.2⟩,?_⟩;simp [intOf];omega
     ·obtain rfl:k=m:=by omega
      have GF:=hZq (grown_ownN GA.out hg (fun g e=>Nat.le_trans HBB.out (own_lt10 ho e).1));clear ho hg GA HO6
      go_wp2_with fail
      refine ⟨⟨r+1,by omega,by go_num,GF.out⟩,?_⟩;simp [intOf];omega
   ·obtain rfl:r=2:=by omega
    go_wp2;go_ret;exact ⟨rfl,gZq G2.out (gZq G4.out HG.out)⟩
 ·have G2:=hZq (gZq G1.out hg2)
  clear hg2 MD G1;go_wp2;go_ret;exact ⟨rfl,G2.out⟩
end Go.Proofs.YteaahinjcfjngaaGreat
namespace Go.Proofs.YteaahinjcfjngaaGreat.statsParts
open Go.ChangeShapes Go.WideShapes Go.ChangeAt Go.WideMaps Go.WideElems Go.RowKit Go.Deep
open Go.ChangeMaps (open_string shut_string)
theorem own:ownKnob Tryz.prog.godebug=none:=by kernel_rfl
theorem laidOut:laidOutB Tryz.prog=true:=by kernel_rfl
theorem bytes_u8:Tryz.prog.bytesOf 5=1:=by kernel_rfl
theorem bytes_i64:Tryz.prog.bytesOf 3=8:=by kernel_rfl
set_option linter.unusedVariables false
theorem lifted (os:Os)(started:os.Started)(H:Type)(enc:TypeId × Value->H) :
  ReturnsInHanded {} Tryz.checked os 5 .any (Rows.statsPartsSpec.pre6 enc Tryz.prog Tryz.f5 Rows.statsPartsRow.domain false) (Rows.statsPartsSpec.post enc Tryz.prog Tryz.f5 false true false false):=by
 refine returnsInHanded_of_change_sized (C:=Tryz.checked) own started (by kernel_rfl) Tryz.func5
  (ChangeSpec.witness6 (enc:=enc) (C:=Tryz.checked) false ⟨#[],#[.slice none 0 0,.int .i64 0],[]⟩ 8 (by kernel_rfl) (by kernel_rfl) (by kernel_rfl) (by kernel_rfl)) ?_
 intro W base args ds gs before hval0 hW hcnd hsz0 _;have hval:∀ (j:Nat) t v,Tryz.f5.params[j]?=some t->args[j]?=some v->Value.okWide Tryz.prog W .any base t v:=hval0;have hsz:(DataW.weightsEach Tryz.prog (Tryz.f5.params.toList++Rows.statsPartsSpec.plain.varTypes Tryz.prog) (ds++gs)).all (·<=reachBytes)=true:=hsz0;clear hsz0;have hW':=hW;obtain ⟨p,q,hA0,hV,rfl,hfz,hnd⟩:=hW;have hA:DataW.TrodAll enc Tryz.prog W 0 (fun _=>true) true Tryz.f5.params.toList args.toList ds p:=hA0;rw [Tryz.params5] at hA hval hsz;obtain ⟨v0,vs0,d0,ds0,p0,q0,hargs,rfl,rfl,h0,r0⟩:=trodAll_cons hA;obtain ⟨v1,vs1,d1,ds1,p1,q1,rfl,rfl,rfl,h1,r1⟩:=trodAll_cons r0;obtain ⟨rfl,rfl,rfl⟩:=trodAll_nil r1;obtain rfl:args=#[v0,v1]:=by cases args;simp_all
 obtain ⟨rfl,rfl⟩:=trodVars_none hV;obtain ⟨a0,len0,cap0,rfl⟩:=okWide_slice Tryz.underlying22 (hval 0 22 v0 rfl rfl);have k0:=h0;have lt0:∀ x∈p0,x.block<W.heap.size:=by obtain ⟨m,hm⟩:=k0;exact DataW.trod_lt m _ _ _ hm
 obtain ⟨z0,b0,l0,t0⟩:∃ xs,RnU W a0 xs/\xs.length=len0/\∀ x∈xs,RnB x:=by
  obtain ⟨fuel,hf⟩:=h0;obtain ⟨xs,h1,h2,_,_,h3⟩:=nodes_open22 (by simpa [Value.cells] using hf) (Wt22.of hsz (j:=0) rfl rfl);exact ⟨xs,h1,h2,h3⟩
 obtain ⟨a1,rfl,rfl,rfl,w1⟩:=open_int Tryz.underlying3 (hval 1 3 v1 rfl rfl) h1;clear hA0 hval0;refine (partsLaw_any a0 len0 cap0 a1 z0 W b0 l0 t0).mono fun e W' ⟨he,hg⟩=>?_
 subst he;have bel:=below_ofW hg;exact ⟨_,rfl,_,_,_,[],_,[],hW',trodAll_mk1 (shut_bool Tryz.underlying4 _),(trodAll_cons_mk (Below.trod laidOut (by kernel_rfl) (of_decide_eq_true (by kernel_rfl)) k0 bel lt0) (trodAll_cons_mk (shut_int Tryz.underlying3 w1) trodAll_mk0)),rfl,bel.frame _,fun h=>by cases h⟩
theorem over:Rows.statsPartsRow.holds Tryz.pinned (OpenSpec.ofChange Rows.statsPartsSpec) :=
 OpenClaim.holds_of_wide 5 Tryz.f5 rfl rfl rfl rfl rfl rfl rfl ⟨rfl,rfl,rfl,rfl,rfl⟩ rfl rfl rfl rfl rfl (by kernel_rfl) Tryz.func5 (by kernel_rfl)
  (of_decide_eq_true (by kernel_rfl)) (by unfold Func.isWrapper;first | (rw [if_pos (by decide +kernel)];kernel_rfl) | (rw [if_neg (by decide +kernel)];exact ⟨rfl,rfl⟩))
  (fun os started H enc _=>lifted os started H enc)
end Go.Proofs.YteaahinjcfjngaaGreat.statsParts
namespace Go.Proofs.YteaahinjcfjngaaGreat
theorem statsParts_holds:Rows.StatsPartsSaid:=statsParts.over
#print axioms statsParts_holds
end Go.Proofs.YteaahinjcfjngaaGreat
