import Derived.Test.YteaahinjcfjngaaGreatQ23
import Derived.Test.YteaahinjcfjngaaGreatQ61
import Derived.Test.YteaahinjcfjngaaGreatQ50
import Derived.WalkKit
import Derived.ProofKit
import Derived.OpenShut
import Derived.ShutString
import Derived.ChangeOld
import Derived.Below
import Derived.SizedLaws
import Derived.Deep.Slices
import Derived.Laws.Cover2
import Derived.Test.YteaahinjcfjngaaGreatRows
set_option maxRecDepth 100000
set_option maxHeartbeats 32000000
namespace Go.Proofs.YteaahinjcfjngaaGreat
open Go.RowKit
theorem FlT.wipe {w:World}{g n k:Nat}{t:TypeId}{es:List (List Value)}(h:FlT w g n k t es)(o:Nat)(vs:List Value):FlT (setL w g o vs) g n k t []:=by
 obtain ⟨cur,r1,r2,r3⟩:=h.row;exact ⟨⟨_,setL_heap vs w o _ r1,by rw [setA_size];exact r2,fun i e he=>by simp at he⟩,EwfT.nil _⟩
theorem FlT.weak {w:World}{g n k:Nat}{t:TypeId}{es:List (List Value)}(h:FlT w g n k t es):FlT w g n k t []:=by
 obtain ⟨cur,r1,r2,r3⟩:=h.row;exact ⟨⟨cur,r1,r2,fun i e he=>by simp at he⟩,EwfT.nil _⟩
theorem zr_own22 {w:World}{base n c:Nat}{a:Option Addr}{zs:List Int}(h:w.ownsRow base 3 1 (.slice a n c) n (zs.map (Value.int .i64)))(hn:zs.length=n):ZrW w a zs:=fun i z hz=>by
 have hi:=(List.getElem?_eq_some_iff.1 hz).1
 obtain ⟨g,rfl⟩:∃ g,a=some ⟨g,0,none⟩:=by
  rcases h.2 with ⟨_,e0⟩ | ⟨g,cap,cur,e,_⟩
  ·omega
  ·injection e with e1
   exact ⟨g,e1⟩
 refine ⟨g,0,rfl,?_⟩;rw [Nat.zero_add,h.cellAt i (by omega),List.getElem?_map,hz]
 rfl
theorem levelsLaw_any (a:Option Addr)(n c:Nat)(xs:List RnT)(w:World)(hx:RnU w a xs)(hn:xs.length=n)(hb:∀ x∈xs,RnB x) :
  Calls Tryz.prog 4 #[.slice a n c] w fun en w'=>en=.returned (.bool true)/\w.grownBy w' none:=by
 have HX:=hZq (fun (W:World) (hW:w.grownBy W none)=>hx.kept (CkF.of hW));have MD:=hZq (fun (W:World) (hW:w.grownBy W none)=>made_any a n c xs W (hx.kept (CkF.of hW)) hn hb);have HN:=hZq hn;have hsf:=store_f22;clear hx hn hb;go_enter Tryz.func4,Tryz.ntmps4
 go_wp2_with fail
 refine (first22 w).mono ?_;rintro en w1 ⟨rfl,hg1⟩;have G1:=hZq hg1;clear hg1
 go_wp2_with fail
 refine (MD.out w1 G1.out).mono ?_;rintro en w2 ⟨⟨p,t,rfl,ht,hbk,hl3⟩ | rfl,hg2⟩
 ·have HT:=hZq ht
  have HBK:=hZq (trs_built hbk hl3);have HTS:=hZq HBK.out.1;have G2:=hZq (gZq G1.out hg2);have HTL:Hid ((tellO t).length=n):=by have h1:=HBK.out.2.1;have h2:=HN.out;show _=_;omega
  have HNB:Hid (n<=3000):=by have h1:=HN.out;show _<=_;omega
  have HNV:Hid (∀ W:World,w2.grownBy W none->NvL W a (tellO t)):=fun W hW=>by
   match t,HBK.out.2.2 with
   | none,_=>exact fun i x h=>by simp [tellO] at h
   | some t0,h=>exact (HX.out W (gZq G2.out hW)).nv (h t0 rfl)
  have HNU:Hid (∀ W:World,w2.grownBy W none->NlU W a (tellO t)):=fun W hW=>by
   match t,HBK.out.2.2 with
   | none,_=>exact fun i x h=>by simp [tellO] at h
   | some t0,h=>exact (HX.out W (gZq G2.out hW)).nl (h t0 rfl)
  have LV:=hZq (fun (W:World) (hW:w2.grownBy W none)=>levels_any t p W (HT.out.kept (FrT.of hW)) HTS.out);have HE:=hZq (fun (W:World) (hW:w2.grownBy W none)=>height_any t p W (HT.out.kept (FrT.of hW)) HTS.out.ok HTS.out.hi);have SZ:=hZq (fun (W:World) (hW:w2.grownBy W none) (lv:Nat)=>refSizes22 a n c (tellO t) lv W (HNV.out W hW) HTL.out HTS.out.sz (by have h1:=HNB.out;omega));have ND:=hZq (fun (W:World) (hW:w2.grownBy W none)=>nodes_any t p W (HT.out.kept (FrT.of hW)) HTS.out.ok HTS.out.ck (by have:=HTS.out.ln;omega) HTS.out.hi);clear ht hbk hl3 hg2 MD HX HN G1 HBK HT HNV;obtain ⟨m,hm⟩:∃ m,highO t=m:=⟨_,rfl⟩;have HHI:=hZq HTS.out.hi;have HLO:=hZq HTS.out.lo;rw [hm] at LV HE HHI HLO;have hmb:=HHI.out;clear hm HHI
  go_wp2_with fail
  go_loopw [5] (fun s5 wr=>∃ r:Nat,r<=2/\s5=.int .i64 (r:Nat)/\w2.grownBy wr none) (fun s5 _=>2 - (intOf s5).toNat)
  case atStart=>exact ⟨0,Nat.zero_le _,rfl,World.grownBy.refl _ _⟩
  case round =>
   obtain ⟨r,hr,rfl,hg⟩:=hrel;have HG:=hZq hg;clear hg
   by_cases hlt:r<2
   ·have i1:(r:Int)<2:=by omega
    go_wp2_with fail
    refine (LV.out wr HG.out).mono ?_;rintro en w5 ⟨g,rfl,hgs,hfl,hg5⟩;have HGS:=hZq hgs;have F5:=hZq hfl;have G5:=hZq (gZq HG.out hg5);have HR5:=hZq hg5;clear hgs hfl hg5
    go_wp2_with fail
    refine (HE.out w5 G5.out).mono ?_;rintro en w6 ⟨rfl,hg6⟩;have F6:=hZq (F5.out.keptN hg6);have G6:=hZq (gZq G5.out hg6);have HR6:=hZq (gZq HR5.out hg6);have g0:((m:Int) != (m:Int))=false:=by simp
    clear hg6 F5 G5 HR5
    go_wp2_with fail
    go_loopw [7] (fun s7 wz=>∃ i:Nat,i<=m/\s7=.int .i64 (i:Nat)/\w6.grownBy wz none) (fun s7 _=>m - (intOf s7).toNat)
    case atStart=>exact ⟨0,Nat.zero_le _,rfl,World.grownBy.refl _ _⟩
    case round =>
     obtain ⟨i,hi,rfl,hg⟩:=hrel;have HZ:=hZq hg;clear hg
     by_cases hlt2:i<m
     ·have L0:=hZq (List.length_pos_iff.2 (HLO.out i hlt2))
      have L1:Hid ((atL (tellO t) i).length<=100000):=Nat.le_trans (atL_len _ _) HTS.out.ln;have LZ:Hid (∀ x∈atL (tellO t) i,SzN x):=fun x hx=>HTS.out.sz x (atL_mem hx)
      have i0:(0:Int)<=(i:Int):=by omega
      have i2:(i:Int)<(m:Int):=by omega
      go_wp2_with fail
      refine (SZ.out wr (gZq G6.out HZ.out) i).mono ?_;rintro en w7 ⟨v7,rfl,ho7,hg7⟩;have hlz:(lzN (tellO t) i).length=(atL (tellO t) i).length:=List.length_map _;rw [hlz] at ho7;have RL:=hZq (refLevel22 (atL (tellO t) i) _ v7 w7 ho7 LZ.out L0.out L1.out);obtain ⟨a7,c7,rfl⟩:=own_shape10 ho7;have HZ7:=hZq (gZq HZ.out hg7);have ln0:(((atL (tellO t) i).length:Int)==0)=false:=by have:=L0.out;rw [beq_eq_false_iff_ne];omega
      clear ho7 hg7
      go_wp2_with fail
      refine RL.out.mono ?_;rintro en w8 ⟨g8,rfl,ho8,hg8⟩;have HZ8:=hZq (gZq HZ7.out hg8);have O8:=hZq ho8;have F8:=hZq (F6.out.keptN HZ8.out);clear ho8 hg8 RL ln0
      have F0:(lvlsE (tellO t) m)[i]?=some (lvlE (tellO t) i):=by
       unfold lvlsE;rw [List.getElem?_map,List.getElem?_range hlt2]
       rfl
      have c0:=F8.out.get (f:=0) F0 rfl;rw [Nat.add_zero] at c0;have c1:=F8.out.get (f:=1) F0 rfl;have c2:=F8.out.get (f:=2) F0 rfl;have c3:=F8.out.get (f:=3) F0 rfl;have c4:=F8.out.get (f:=4) F0 rfl;have c5:=F8.out.get (f:=5) F0 rfl;have c6:=F8.out.get (f:=6) F0 rfl;have hlv:lvR (atL (tellO t) i)=[(((atL (tellO t) i).length:Nat):Int),((sumT nsz (atL (tellO t) i):Nat):Int),((mnF (atL (tellO t) i) 4092:Nat):Int),((mxF (atL (tellO t) i) 0:Nat):Int)]:=by unfold lvR;rw [if_neg (List.length_pos_iff.1 L0.out)]
      rw [hlv] at O8;have Z8:=hZq (zr_own22 O8.out rfl)
      have b53:sumT nsz (atL (tellO t) i)<9007199254740992:=by
       have h1:=sumT_bound22 (f:=nsz) (c:=4092) (atL (tellO t) i) (fun y hy=>(LZ.out y hy).hi);have h2:=L1.out;omega
      have o5:(FloatKind.f64.format.order (quW (sumT nsz (atL (tellO t) i)) ((atL (tellO t) i).length*4092)) (quW (sumT nsz (atL (tellO t) i)) ((atL (tellO t) i).length*4092)) != some Ordering.eq)=false:=by
       rw [order_self (qu_some b53 (by have:=L1.out;omega) (by have:=L0.out;omega)).2]
       rfl
      have o6:(FloatKind.f64.format.order (spW (sumT (sqN (sumT nsz (atL (tellO t) i) / (atL (tellO t) i).length)) (atL (tellO t) i)) (atL (tellO t) i).length) (spW (sumT (sqN (sumT nsz (atL (tellO t) i) / (atL (tellO t) i).length)) (atL (tellO t) i)) (atL (tellO t) i).length) != some Ordering.eq)=false:=by
       have hmid:sumT nsz (atL (tellO t) i) / (atL (tellO t) i).length<=4092:=Nat.div_le_of_le_mul (sumT_bound22 (f:=nsz) (c:=4092) (atL (tellO t) i) (fun y hy=>(LZ.out y hy).hi));have h3:=sumT_bound22 (f:=sqN (sumT nsz (atL (tellO t) i) / (atL (tellO t) i).length)) (c:=16744464) (atL (tellO t) i) (fun y hy=>sq_le hmid (LZ.out y hy).hi);rw [order_self (sp_zero (by have:=L1.out;omega) (by have:=L1.out;omega) L0.out).2]
       rfl
      clear F0 hlv b53 O8 F8 L0 L1 LZ;generalize mnF (atL (tellO t) i) 4092=mn at *;generalize mxF (atL (tellO t) i) 0=mx at *;generalize quW (sumT nsz (atL (tellO t) i)) ((atL (tellO t) i).length*4092)=me at *;generalize spW (sumT (sqN (sumT nsz (atL (tellO t) i) / (atL (tellO t) i).length)) (atL (tellO t) i)) (atL (tellO t) i).length=sp at *;generalize (atL (tellO t) i).length=cn at *;generalize sumT nsz (atL (tellO t) i)=sn at *;go_upto_region 18 with fail
      go_region
      go_upto_region 19 with fail
      have GA:Hid (w8.grownBy (w8.alloc (.cells #[.int .i64 (cn:Nat),.int .i64 (sn:Nat),.int .i64 (mn:Nat),.int .i64 (mx:Nat)] 3)).drew none):=gZq (World.grownBy_alloc _ _ none) ((Qt.refl _).drew.grown none)
      have ZN:ZrW ((w8.alloc (.cells #[.int .i64 (cn:Nat),.int .i64 (sn:Nat),.int .i64 (mn:Nat),.int .i64 (mx:Nat)] 3)).drew) (some ⟨w8.heap.size,0,none⟩) [((cn:Nat):Int),((sn:Nat):Int),((mn:Nat):Int),((mx:Nat):Int)]:=fun j z hz=>by
       have h1:=itm_new w8 ([((cn:Nat):Int),((sn:Nat):Int),((mn:Nat):Int),((mx:Nat):Int)].map (Value.int .i64)) 3 j (.int .i64 z) (by rw [List.getElem?_map,hz];rfl);rw [Addr.add_lit] at h1;exact ⟨_,0,rfl,h1⟩
      have SI:=hZq (sameInts10 (some ⟨w8.heap.size,0,none⟩) (some ⟨g8,0,none⟩) 4 4 4 [((cn:Nat):Int),((sn:Nat):Int),((mn:Nat):Int),((mx:Nat):Int)] _ ZN (Z8.out.kept GA.out) rfl (by omega));have d0:=GA.out.cell c0 (by simp);have d5:=GA.out.cell c5 (by simp);have d6:=GA.out.cell c6 (by simp);have HZA:=hZq (gZq HZ8.out GA.out);clear ZN c0 c1 c2 c3 c4 c5 c6 Z8 GA;generalize (w8.alloc (.cells #[.int .i64 (cn:Nat),.int .i64 (sn:Nat),.int .i64 (mn:Nat),.int .i64 (mx:Nat)] 3)).drew=wa at *
      go_wp2_with fail
      refine SI.out.mono ?_;rintro en w9 ⟨rfl,hq9⟩;have Q9:=hZq (hq9.grown none);have c0:=Q9.out.cell d0 (by simp);have c5:=Q9.out.cell d5 (by simp);have c6:=Q9.out.cell d6 (by simp);have n0:((i:Int) != (i:Int))=false:=by simp
      clear d0 d5 d6 hq9 SI
      go_wp2_with fail
      refine ⟨⟨i+1,by omega,by go_num,gZq HZA.out Q9.out⟩,?_⟩;simp [intOf];omega
     ·obtain rfl:i=m:=by omega
      have F9:=hZq ((F6.out.keptN HZ.out).weak);have R9:=hZq (gZq HR6.out HZ.out);clear F6 HR6 HZ HLO SZ ND HE
      go_wp2_with fail
      go_loopw [14] (fun s14 wz=>∃ j:Nat,j<=i/\s14=.int .i64 (j:Nat)/\FlT wz g i 7 44 []/\wr.grownBy wz (some g)) (fun s14 _=>i - (intOf s14).toNat)
      case atStart=>exact ⟨0,Nat.zero_le _,rfl,F9.out,World.grownBy.refl _ _⟩
      case round =>
       obtain ⟨j,hj,rfl,hfl,hg⟩:=hrel
       by_cases hlt3:j<i
       ·obtain ⟨⟨y0,f0⟩,z0⟩:=hfl.cell (j:=j*7) (by omega)
        obtain ⟨⟨y1,f1⟩,z1⟩:=hfl.cell (j:=j*7+1) (by omega);obtain ⟨⟨y2,f2⟩,z2⟩:=hfl.cell (j:=j*7+2) (by omega);obtain ⟨⟨y3,f3⟩,z3⟩:=hfl.cell (j:=j*7+3) (by omega);obtain ⟨⟨y4,f4⟩,z4⟩:=hfl.cell (j:=j*7+4) (by omega);obtain ⟨⟨y5,f5⟩,z5⟩:=hfl.cell (j:=j*7+5) (by omega);obtain ⟨⟨y6,f6⟩,z6⟩:=hfl.cell (j:=j*7+6) (by omega);have HNX:=hZq (hfl.wipe (j*7) [.int .i64 (-1),.int .i64 0,.int .i64 0,.int .i64 0,.int .i64 0,.float .f64 0,.float .f64 0]);have GNX:=hZq (gZq hg (setL_grown (g:=g) [.int .i64 (-1),.int .i64 0,.int .i64 0,.int .i64 0,.int .i64 0,.float .f64 0,.float .f64 0] wr (j*7)));have i0:(0:Int)<=(j:Int):=by omega
        have i2:(j:Int)<(i:Int):=by omega
        clear hfl hg
        go_wp2_with fail
        refine ⟨⟨j+1,by omega,by go_num,HNX.out,GNX.out⟩,?_⟩;simp [intOf];omega
       ·obtain rfl:j=i:=by omega
        have GF:=hZq (grown_new (gZq HG.out R9.out) hg (Nat.le_trans HG.out.size HGS.out));clear hfl hg F9 R9
        go_wp2_with fail
        refine ⟨⟨r+1,by omega,by go_num,GF.out⟩,?_⟩;simp [intOf];omega
   ·obtain rfl:r=2:=by omega
    go_wp2_with fail
    refine (ND.out wr HG.out).mono ?_;rintro en w5 ⟨v,es,rfl,ho5,hto,hg5⟩;obtain ⟨a5,c5,rfl⟩:=own_shape10 ho5;have NL:=hZq (nl_of ho5 hto);have G5:=hZq (gZq HG.out hg5);have SN:=hZq (sameNodes22 a5 a n c5 c (tellO t) w5 NL.out (HNU.out w5 G5.out) HTL.out (by have:=HNB.out;omega) (fun x hx=>by have:=(HTS.out.sz x hx).pn;omega));rw [HTL.out];clear ho5 hto hg5
    go_wp2_with fail
    refine SN.out.mono ?_;rintro en w6 ⟨rfl,hg6⟩;have G6:=hZq (gZq G2.out (gZq G5.out hg6));clear hg6;go_wp2;go_ret;exact ⟨rfl,G6.out⟩
 ·have G2:=hZq (gZq G1.out hg2)
  clear hg2 MD G1;go_wp2;go_ret;exact ⟨rfl,G2.out⟩
end Go.Proofs.YteaahinjcfjngaaGreat
namespace Go.Proofs.YteaahinjcfjngaaGreat.statsLevels
open Go.ChangeShapes Go.WideShapes Go.ChangeAt Go.WideMaps Go.WideElems Go.RowKit Go.Deep
open Go.ChangeMaps (open_string shut_string)
theorem own:ownKnob Tryz.prog.godebug=none:=by kernel_rfl
theorem laidOut:laidOutB Tryz.prog=true:=by kernel_rfl
theorem bytes_u8:Tryz.prog.bytesOf 5=1:=by kernel_rfl
theorem bytes_i64:Tryz.prog.bytesOf 3=8:=by kernel_rfl
set_option linter.unusedVariables false
theorem lifted (os:Os)(started:os.Started)(H:Type)(enc:TypeId × Value->H) :
  ReturnsInHanded {} Tryz.checked os 4 .any (Rows.statsLevelsSpec.pre6 enc Tryz.prog Tryz.f4 Rows.statsLevelsRow.domain false) (Rows.statsLevelsSpec.post enc Tryz.prog Tryz.f4 false true false false):=by
 refine returnsInHanded_of_change_sized (C:=Tryz.checked) own started (by kernel_rfl) Tryz.func4
  (ChangeSpec.witness6 (enc:=enc) (C:=Tryz.checked) false ⟨#[],#[.slice none 0 0],[]⟩ 8 (by kernel_rfl) (by kernel_rfl) (by kernel_rfl) (by kernel_rfl)) ?_
 intro W base args ds gs before hval0 hW hcnd hsz0 _;have hval:∀ (j:Nat) t v,Tryz.f4.params[j]?=some t->args[j]?=some v->Value.okWide Tryz.prog W .any base t v:=hval0;have hsz:(DataW.weightsEach Tryz.prog (Tryz.f4.params.toList++Rows.statsLevelsSpec.plain.varTypes Tryz.prog) (ds++gs)).all (·<=reachBytes)=true:=hsz0;clear hsz0;have hW':=hW;obtain ⟨p,q,hA0,hV,rfl,hfz,hnd⟩:=hW;have hA:DataW.TrodAll enc Tryz.prog W 0 (fun _=>true) true Tryz.f4.params.toList args.toList ds p:=hA0;rw [Tryz.params4] at hA hval hsz;obtain ⟨v0,vs0,d0,ds0,p0,q0,hargs,rfl,rfl,h0,r0⟩:=trodAll_cons hA;obtain ⟨rfl,rfl,rfl⟩:=trodAll_nil r0;obtain rfl:args=#[v0]:=by cases args;simp_all
 obtain ⟨rfl,rfl⟩:=trodVars_none hV;obtain ⟨a0,len0,cap0,rfl⟩:=okWide_slice Tryz.underlying22 (hval 0 22 v0 rfl rfl);have k0:=h0;have lt0:∀ x∈p0,x.block<W.heap.size:=by obtain ⟨m,hm⟩:=k0;exact DataW.trod_lt m _ _ _ hm
 obtain ⟨z0,b0,l0,t0⟩:∃ xs,RnU W a0 xs/\xs.length=len0/\∀ x∈xs,RnB x:=by
  obtain ⟨fuel,hf⟩:=h0;obtain ⟨xs,h1,h2,_,_,h3⟩:=nodes_open22 (by simpa [Value.cells] using hf) (Wt22.of hsz (j:=0) rfl rfl);exact ⟨xs,h1,h2,h3⟩
 clear hA0 hval0;refine (levelsLaw_any a0 len0 cap0 z0 W b0 l0 t0).mono fun e W' ⟨he,hg⟩=>?_
 subst he;have bel:=below_ofW hg;exact ⟨_,rfl,_,_,_,[],_,[],hW',trodAll_mk1 (shut_bool Tryz.underlying4 _),(trodAll_cons_mk (Below.trod laidOut (by kernel_rfl) (of_decide_eq_true (by kernel_rfl)) k0 bel lt0) trodAll_mk0),rfl,bel.frame _,fun h=>by cases h⟩
theorem over:Rows.statsLevelsRow.holds Tryz.pinned (OpenSpec.ofChange Rows.statsLevelsSpec) :=
 OpenClaim.holds_of_wide 4 Tryz.f4 rfl rfl rfl rfl rfl rfl rfl ⟨rfl,rfl,rfl,rfl,rfl⟩ rfl rfl rfl rfl rfl (by kernel_rfl) Tryz.func4 (by kernel_rfl)
  (of_decide_eq_true (by kernel_rfl)) (by unfold Func.isWrapper;first | (rw [if_pos (by decide +kernel)];kernel_rfl) | (rw [if_neg (by decide +kernel)];exact ⟨rfl,rfl⟩))
  (fun os started H enc _=>lifted os started H enc)
end Go.Proofs.YteaahinjcfjngaaGreat.statsLevels
namespace Go.Proofs.YteaahinjcfjngaaGreat
theorem statsLevels_holds:Rows.StatsLevelsSaid:=statsLevels.over
#print axioms statsLevels_holds
end Go.Proofs.YteaahinjcfjngaaGreat
