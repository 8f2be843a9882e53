import Derived.Test.YteaahinjcfjngaaGreatQ58
import Derived.Deep.RegionHeld3
import Derived.Deep.DrawnRows
import Derived.Laws.StructEq
import Derived.ChangeKeysEq
set_option maxRecDepth 100000
set_option maxHeartbeats 16000000
namespace Go.Proofs.YteaahinjcfjngaaGreat
open Go.RowKit
theorem mnF_snoc:∀ (xs:List NoT) (z:Nat) (x:NoT),mnF (xs++[x]) z=min (mnF xs z) (nsz x)
 | [],_,_=>rfl
 | y::xs,z,x=>by
  rw [List.cons_append,mnF,mnF,mnF_snoc xs]
theorem mxF_snoc:∀ (xs:List NoT) (z:Nat) (x:NoT),mxF (xs++[x]) z=max (mxF xs z) (nsz x)
 | [],_,_=>rfl
 | y::xs,z,x=>by
  rw [List.cons_append,mxF,mxF,mxF_snoc xs]
def lvR (xs:List NoT):List Int:=[((xs.length:Nat):Int),((sumT nsz xs:Nat):Int),if xs=[] then 0 else ((mnF xs 4092:Nat):Int),((mxF xs 0:Nat):Int)]
theorem refLevel22 (ns:List NoT)(base:Nat)(v:Value)(w:World) (ho:w.ownsRow base 3 1 v ns.length ((ns.map fun x=>((nsz x:Nat):Int)).map (Value.int .i64))) (hz:∀ x∈ns,SzN x) (h0:0<ns.length) (hl:ns.length<=100000) :
  Calls Tryz.prog 19 #[v] w fun en w'=>∃ g,en=.returned (.tuple #[.slice (some ⟨g,0,none⟩) 4 4,.float .f64 (quW (sumT nsz ns) (ns.length*4092)),.float .f64 (spW (sumT (sqN (sumT nsz ns / ns.length)) ns) ns.length)])/\w'.ownsRow w.heap.size 3 1 (.slice (some ⟨g,0,none⟩) 4 4) 4 ((lvR ns).map (Value.int .i64))/\w.grownBy w' none:=by
 obtain ⟨i0,hi,hz0,hz1,hz2⟩:=info_parts info_i10;obtain ⟨la,lc,rfl⟩:=own_shape10 ho;have HZ:=hZq hz
 obtain ⟨lb,rfl⟩:∃ lb,la=some ⟨lb,0,none⟩:=by
  rcases ho.2 with ⟨_,e0⟩ | ⟨g',cap,cur,e,_⟩
  ·omega
  ·injection e with e1
   exact ⟨g',e1⟩
 have HLB:Hid (lb<w.heap.size):=(own_lt10 ho rfl).2.1
 have HLC:Hid (∀ (k:Nat) (x:NoT),ns[k]?=some x->w.cell? ⟨lb,k,none⟩=some (.int .i64 (nsz x:Nat))):=fun k x hs=>by
  have hk:=(List.getElem?_eq_some_iff.1 hs).1;rw [ho.cellAt k (by omega),List.getElem?_map,List.getElem?_map,hs]
  rfl
 clear ho hz;obtain ⟨m,hm⟩:∃ m,ns.length=m:=⟨_,rfl⟩;rw [hm] at hl h0 ⊢;have HM:=hZq hm;clear hm;go_enter Tryz.func19,Tryz.ntmps19
 go_wp2_with (at_make;refine wpList_make_full _ rfl _ _ 30 rfl w.heap.size 3 i0 (.int .i64 0) 1 Tryz.underlying30 hi hz0 hz1 _ _ _ _ 4 rfl rfl rfl rfl ?b2 ?b3 (Nat.le_refl _) ?_)
 case b2=>first | omega | (rw [hz2];omega)
 case b3=>unfold maxLen;omega
 intro w4 ho3 hg3;obtain ⟨g,hg⟩:∃ g,w.heap.size=g:=⟨_,rfl⟩
 have O4:Hid (w4.ownsRow g 3 1 (.slice (some ⟨g,0,none⟩) 4 4) 4 ((lvR []).map (Value.int .i64))):=by
  have ho4:=ho3
  (try rw [Nat.mul_one] at ho4)
  (try rw [show (Value.int IntKind.i64 0).cells=#[Value.int IntKind.i64 0] from rfl] at ho4)
  rw [toList_madeCells_one,hg] at ho4;exact ho4
 rw [hg] at HLB ⊢;have G4:=hZq hg3;have HG:=hZq hg;clear ho3 hg3 hg
 go_wp2_with fail
 go_loopw [6] (fun si wr=>∃ k:Nat,k<=m/\si=.int .i64 (k:Nat)/\wr.ownsRow g 3 1 (.slice (some ⟨g,0,none⟩) 4 4) 4 ((lvR (ns.take k)).map (Value.int .i64))/\w4.grownBy wr (some g)) (fun si _=>m - (intOf si).toNat)
 case atStart=>exact ⟨0,Nat.zero_le _,rfl,O4.out,World.grownBy.refl _ _⟩
 case round =>
  obtain ⟨k,hk,rfl,ho,hgr⟩:=hrel
  by_cases hlt:k<m
  ·obtain ⟨x,hx⟩:∃ x,ns[k]?=some x:=⟨_,List.getElem?_eq_getElem (by have:=HM.out;omega)⟩
   have c9:=hgr.cell (G4.out.cell (HLC.out k x hx) (by simp)) (by intro e;have h3:lb=g:=Option.some.inj e;have:=HLB.out;omega);have SZ:=hZq (HZ.out x (List.mem_of_getElem? hx));have HT:Hid (ns.take (k+1)=ns.take k++[x]):=by show _=_;rw [List.take_add_one,hx];rfl
   have hlk:(ns.take k).length=k:=by rw [List.length_take];have:=HM.out;omega
   obtain ⟨s,hs⟩:∃ s,sumT nsz (ns.take k)=s:=⟨_,rfl⟩;obtain ⟨mn,hmn⟩:∃ s,(if ns.take k=[] then (0:Int) else ((mnF (ns.take k) 4092:Nat):Int))=s:=⟨_,rfl⟩;obtain ⟨mx,hmx⟩:∃ s,mxF (ns.take k) 0=s:=⟨_,rfl⟩;have hlv:lvR (ns.take k)=[(k:Int),(s:Int),mn,(mx:Int)]:=by unfold lvR;rw [hlk,hs,hmn,hmx]
   rw [hlv] at ho;have a0:=ho.cellAt 0 (by omega);have a1:=ho.cellAt 1 (by omega);have a2:=ho.cellAt 2 (by omega);have a3:=ho.cellAt 3 (by omega);have f0:=ho.frozenAt 0;have f1:=ho.frozenAt 1;have f2:=ho.frozenAt 2;have f3:=ho.frozenAt 3;simp only [List.map_cons,List.map_nil,List.getElem?_cons_zero,List.getElem?_cons_succ] at a0 a1 a2 a3
   have hsb:s<=409200000:=by
    have h1:=sumT_lim (g:=nsz) (c:=4092) (fun y hy=>(HZ.out y hy).hi) k;rw [HM.out,hs] at h1;omega
   have hsz:=SZ.out.hi;have HO:=hZq ho;have GR:=hZq hgr;clear ho hgr hx hlv;have i1:(0:Int)<=(k:Int):=by omega
   have i2:(k:Int)<(m:Int):=by omega
   have hne:lb≠g:=by have:=HLB.out;omega
   have hw1:IntKind.i64.wrap ((s:Int)+((nsz x:Nat):Int))=(s:Int)+((nsz x:Nat):Int):=wrap_id10 (by omega) (by omega);go_upto_region 6 with fail
   go_region
   have NX:Hid (lvR (ns.take (k+1))=[(k:Int)+1,(s:Int)+((nsz x:Nat):Int),if k=0∨((nsz x:Nat):Int)<mn then ((nsz x:Nat):Int) else mn,if (mx:Int)<((nsz x:Nat):Int) then ((nsz x:Nat):Int) else (mx:Int)]):=by
    show _=_
    unfold lvR;rw [HT.out,List.length_append,hlk,sumT_snoc,hs,if_neg (by simp),mnF_snoc,mxF_snoc,hmx]
    have e3:(if k=0∨((nsz x:Nat):Int)<mn then ((nsz x:Nat):Int) else mn)=((min (mnF (ns.take k) 4092) (nsz x):Nat):Int):=by
     have hsz:=SZ.out.hi
     by_cases hk0:k=0
     ·have e0:ns.take k=[]:=by rw [hk0,List.take_zero]
      rw [if_pos (.inl hk0),e0]
      show _=((min 4092 (nsz x):Nat):Int)
      omega
     ·have e0:ns.take k≠[]:=fun e=>hk0 (by rw [<- hlk,e];rfl)
      rw [if_neg e0] at hmn;rw [<- hmn]
      by_cases hx2:((nsz x:Nat):Int)<((mnF (ns.take k) 4092:Nat):Int)
      ·rw [if_pos (.inr hx2)];omega
      ·rw [if_neg (by omega)];omega
    have e4:(if (mx:Int)<((nsz x:Nat):Int) then ((nsz x:Nat):Int) else (mx:Int))=((max mx (nsz x):Nat):Int):=by
     by_cases hx2:(mx:Int)<((nsz x:Nat):Int)
     ·rw [if_pos hx2];omega
     ·rw [if_neg hx2];omega
    rw [e3,e4];have e5:((s+nsz x:Nat):Int)=(s:Int)+((nsz x:Nat):Int):=by omega
    have e6:((k+[x].length:Nat):Int)=(k:Int)+1:=by simp
    rw [e5,e6]
   have HMX:=hZq hmx;have HMN:=hZq hmn;have HSS:=hZq hs;clear hmx hmn hs hlk;generalize ((nsz x:Nat):Int)=z at *;have D0:=hZq (HO.out.stored 0 (.int .i64 ((k:Int)+1)));have D1:=hZq (D0.out.1.stored 1 (.int .i64 ((s:Int)+z)));have O1:Hid ((((wr.setCell ⟨g,0,none⟩ (.int .i64 ((k:Int)+1))).setCell ⟨g,1,none⟩ (.int .i64 ((s:Int)+z))).drew).ownsRow g 3 1 (.slice (some ⟨g,0,none⟩) 4 4) 4 ([.int .i64 ((k:Int)+1),.int .i64 ((s:Int)+z),.int .i64 mn,.int .i64 (mx:Int)])):=own_kept22 D1.out.1 ((Qt.refl _).drew.grown none);have GB:=hZq (gZq GR.out (gZq D0.out.2 (gZq D1.out.2 ((Qt.refl _).drew.grown (some g)))));have c9':=(gZq D0.out.2 (gZq D1.out.2 ((Qt.refl _).drew.grown (some g)))).cell c9 (by intro e;exact hne (Option.some.inj e));clear D0 D1 HO GR a0 a1 a2 a3 f0 f1 f2 f3 c9 hw1;generalize ((wr.setCell ⟨g,0,none⟩ (.int .i64 ((k:Int)+1))).setCell ⟨g,1,none⟩ (.int .i64 ((s:Int)+z))).drew=wb at *;have a2:=O1.out.cellAt 2 (by omega);have a3:=O1.out.cellAt 3 (by omega);have f2:=O1.out.frozenAt 2;have f3:=O1.out.frozenAt 3;simp only [List.getElem?_cons_zero,List.getElem?_cons_succ] at a2 a3
   by_cases hk0:k=0
   ·have HA:Hid (k=0∨z<mn):=.inl hk0
    have kb:((k:Int)==0)=true:=by simp [hk0]
    clear hk0
    by_cases hB:(mx:Int)<z
    ·have HB:Hid ((mx:Int)<z):=hB
     go_upto_region 7 with fail
     go_region
     go_upto_region 9 with fail
     go_region
     go_wp2_with fail
     refine ⟨⟨k+1,by omega,by go_num,?_,?_⟩,?_⟩
     ·rw [NX.out,if_pos HA.out,if_pos HB.out]
      exact ((O1.out.stored 2 (.int .i64 z)).1.stored 3 (.int .i64 z)).1
     ·exact (gZq (gZq (gZq GB.out (O1.out.stored 2 (.int .i64 z)).2) ((O1.out.stored 2 (.int .i64 z)).1.stored 3 (.int .i64 z)).2) (gZq ((Qt.refl _).drew.grown (some g)) ((Qt.refl _).drew.grown (some g))))
     ·simp [intOf];omega
    ·have HB:Hid (¬ (mx:Int)<z):=hB
     go_upto_region 7 with fail
     go_region
     go_upto_region 9 with fail
     go_region
     go_wp2_with fail
     refine ⟨⟨k+1,by omega,by go_num,?_,?_⟩,?_⟩
     ·rw [NX.out,if_pos HA.out,if_neg HB.out]
      exact (O1.out.stored 2 (.int .i64 z)).1
     ·exact (gZq (gZq GB.out (O1.out.stored 2 (.int .i64 z)).2) (gZq ((Qt.refl _).drew.grown (some g)) ((Qt.refl _).drew.grown (some g))))
     ·simp [intOf];omega
   ·have kb:((k:Int)==0)=false:=by simp [hk0]
    by_cases hA:z<mn
    ·have HA:Hid (k=0∨z<mn):=.inr hA
     clear hk0
     by_cases hB:(mx:Int)<z
     ·have HB:Hid ((mx:Int)<z):=hB
      go_upto_region 7 with fail
      go_region
      go_upto_region 9 with fail
      go_region
      go_wp2_with fail
      refine ⟨⟨k+1,by omega,by go_num,?_,?_⟩,?_⟩
      ·rw [NX.out,if_pos HA.out,if_pos HB.out]
       exact ((O1.out.stored 2 (.int .i64 z)).1.stored 3 (.int .i64 z)).1
      ·exact (gZq (gZq (gZq GB.out (O1.out.stored 2 (.int .i64 z)).2) ((O1.out.stored 2 (.int .i64 z)).1.stored 3 (.int .i64 z)).2) (gZq ((Qt.refl _).drew.grown (some g)) ((Qt.refl _).drew.grown (some g))))
      ·simp [intOf];omega
     ·have HB:Hid (¬ (mx:Int)<z):=hB
      go_upto_region 7 with fail
      go_region
      go_upto_region 9 with fail
      go_region
      go_wp2_with fail
      refine ⟨⟨k+1,by omega,by go_num,?_,?_⟩,?_⟩
      ·rw [NX.out,if_pos HA.out,if_neg HB.out]
       exact (O1.out.stored 2 (.int .i64 z)).1
      ·exact (gZq (gZq GB.out (O1.out.stored 2 (.int .i64 z)).2) (gZq ((Qt.refl _).drew.grown (some g)) ((Qt.refl _).drew.grown (some g))))
      ·simp [intOf];omega
    ·have HA:Hid (¬ (k=0∨z<mn)):=fun e=>e.elim hk0 hA
     clear hk0
     by_cases hB:(mx:Int)<z
     ·have HB:Hid ((mx:Int)<z):=hB
      go_upto_region 7 with fail
      go_region
      go_upto_region 9 with fail
      go_region
      go_wp2_with fail
      refine ⟨⟨k+1,by omega,by go_num,?_,?_⟩,?_⟩
      ·rw [NX.out,if_neg HA.out,if_pos HB.out]
       exact (O1.out.stored 3 (.int .i64 z)).1
      ·exact (gZq (gZq GB.out (O1.out.stored 3 (.int .i64 z)).2) (gZq ((Qt.refl _).drew.grown (some g)) ((Qt.refl _).drew.grown (some g))))
      ·simp [intOf];omega
     ·have HB:Hid (¬ (mx:Int)<z):=hB
      go_upto_region 7 with fail
      go_region
      go_upto_region 9 with fail
      go_region
      go_wp2_with fail
      refine ⟨⟨k+1,by omega,by go_num,?_,?_⟩,?_⟩
      ·rw [NX.out,if_neg HA.out,if_neg HB.out]
       exact O1.out
      ·exact (gZq GB.out (gZq ((Qt.refl _).drew.grown (some g)) ((Qt.refl _).drew.grown (some g))))
      ·simp [intOf];omega
  ·obtain rfl:k=m:=by omega
   have e:ns.take k=ns:=by rw [<- HM.out,List.take_length]
   rw [e] at ho;have hne:ns≠[]:=fun e=>by have:=HM.out;rw [e] at this;simp at this;omega
   obtain ⟨S,hS⟩:∃ v,sumT nsz ns=v:=⟨_,rfl⟩
   have hS2:S<=k*4092:=by
    have h1:=sumT_bound22 (f:=nsz) (c:=4092) ns (fun y hy=>(HZ.out y hy).hi);rw [HM.out,hS] at h1;exact h1
   have hSb:S<=409200000:=by omega
   have hlv:lvR ns=[(k:Int),(S:Int),((mnF ns 4092:Nat):Int),((mxF ns 0:Nat):Int)]:=by unfold lvR;rw [HM.out,hS,if_neg hne]
   have HLV:=hZq hlv;rw [hlv] at ho;have a0:=ho.cellAt 0 (by omega);have a1:=ho.cellAt 1 (by omega);simp only [List.map_cons,List.map_nil,List.getElem?_cons_zero,List.getElem?_cons_succ] at a0 a1;have HO:=hZq ho;have GR:=hZq (grown_new G4.out hgr (Nat.le_of_eq HG.out));have HSS:=hZq hS;obtain ⟨md,hmd⟩:∃ v,S / k=v:=⟨_,rfl⟩;have hmdb:md<=4092:=by rw [<- hmd];exact Nat.div_le_of_le_mul hS2
   have hdv:((S:Nat):Int) / ((k:Nat):Int)=((md:Nat):Int):=by rw [<- hmd];exact (Int.natCast_ediv S k).symm
   have hq9:∀ W:World,(Op.intDiv .quo .i64 ((S:Nat):Int) ((k:Nat):Int)).run Tryz.prog W=.ok (.int .i64 ((md:Nat):Int)) W:=fun W=>by
    have h0:k≠0:=by omega
    have h1:IntKind.i64.wrap ((md:Nat):Int)=((md:Nat):Int):=wrap_id22 (by omega) (by omega);simp [Op.intDiv,h0,hdv,h1]
   have hw9:Hid (wrap64 (((S:Nat):Int) / ((k:Nat):Int))=((md:Nat):Int)):=by
    show _=_
    rw [hdv];unfold wrap64;omega
   have HMD:=hZq hmd;have r1:=fun (W:World)=>run_quo22 W (t:=26) (qu_some (a:=S) (b:=k*4092) (by omega) (by omega) (by omega)).1
   have e1:=floatOf_nat S;have e2:=floatOf_nat (k*4092);rw [show ((k*4092:Nat):Int)=(k:Int)*4092 by omega] at e2;have hw1:IntKind.i64.wrap ((k:Int)*4092)=(k:Int)*4092:=wrap_id10 (by omega) (by omega);clear ho hgr hlv hS hmd hlt hk e hne hdv;go_upto_region 11 with fail
   go_region
   go_upto_region 12 with fail
   go_region
   rw [hw9.out];have HD:=hZq (gZq GR.out (gZq ((Qt.refl wr).drew.grown none) ((Qt.refl wr.drew).drew.grown none)));have OD:=hZq (own_kept22 HO.out (gZq ((Qt.refl wr).drew.grown none) ((Qt.refl wr.drew).drew.grown none)));have a0':wr.drew.drew.cell? ⟨g,0,none⟩=some (.int .i64 (k:Nat)):=a0;clear a0 a1 r1 e1 e2 hw1 hq9 hw9 HO GR;generalize wr.drew.drew=wb at *
   go_wp2_with fail
   go_loopw [9,10] (fun s9 s10 wz=>∃ j:Nat,j<=k/\s10=.int .i64 (j:Nat)/\s9=.int .i64 (sumT (sqN md) (ns.take j):Nat)/\wb.grownBy wz none) (fun _ s10 _=>k - (intOf s10).toNat)
   case atStart=>exact ⟨0,Nat.zero_le _,rfl,rfl,World.grownBy.refl _ _⟩
   case round =>
    obtain ⟨j,hj,rfl,rfl,hg2⟩:=hrel;have HGZ:=hZq hg2;clear hg2
    by_cases hlt:j<k
    ·obtain ⟨x,hx⟩:∃ x,ns[j]?=some x:=⟨_,List.getElem?_eq_getElem (by have:=HM.out;omega)⟩
     have c9:=(gZq HD.out HGZ.out).cell (HLC.out j x hx) (by simp);have HT:=hZq (sumT_step (sqN md) hx);have hsq:=sq_int md x;have hb:=sumT_lim (g:=sqN md) (c:=16744464) (fun y hy=>sq_le hmdb (HZ.out y hy).hi) (j+1);rw [HT.out,HM.out] at hb;have hsz:=(HZ.out x (List.mem_of_getElem? hx)).hi;obtain ⟨q,hq⟩:∃ v,sqN md x=v:=⟨_,rfl⟩;obtain ⟨s,hs⟩:∃ v,sumT (sqN md) (ns.take j)=v:=⟨_,rfl⟩;rw [hq,hs] at hb HT;rw [hq] at hsq;rw [hs];have hb2:s+q<=1674446400000:=Nat.le_trans hb (Nat.mul_le_mul_right _ hl);have w1:IntKind.i64.wrap (((nsz x:Nat):Int) - (md:Int))=((nsz x:Nat):Int) - (md:Int):=wrap_id22 (by omega) (by omega);have w2:IntKind.i64.wrap ((((nsz x:Nat):Int) - (md:Int))*(((nsz x:Nat):Int) - (md:Int)))=(q:Int):=by rw [hsq];exact wrap_id22 (by omega) (by omega)
     have w3:IntKind.i64.wrap ((s:Int)+(q:Int))=(s:Int)+(q:Int):=wrap_id22 (by omega) (by omega);clear hsq hb hx hq hs;have i1:(0:Int)<=(j:Int):=by omega
     have i2:(j:Int)<(k:Int):=by omega
     go_upto_region 17 with fail
     go_region
     go_wp2_with fail
     refine ⟨⟨j+1,by omega,by go_num,by rw [HT.out];go_num,gZq HGZ.out ((Qt.refl _).drew.grown none)⟩,?_⟩;simp [intOf];omega
    ·obtain rfl:j=k:=by omega
     have e:ns.take j=ns:=by rw [<- HM.out,List.take_length]
     rw [e];obtain ⟨Q,hQ⟩:∃ v,sumT (sqN md) ns=v:=⟨_,rfl⟩
     have hQb:Q<=1674446400000:=by
      have h1:=sumT_bound22 (f:=sqN md) (c:=16744464) ns (fun y hy=>sq_le hmdb (HZ.out y hy).hi);rw [HM.out,hQ] at h1;exact Nat.le_trans h1 (Nat.mul_le_mul_right _ hl)
     have HQ:=hZq hQ;rw [hQ];have a0:=HGZ.out.cell a0' (by simp);obtain ⟨q1,q2⟩:=qu_some (a:=Q) (b:=j) (Nat.lt_of_le_of_lt hQb (by decide)) (Nat.lt_of_le_of_lt hl (by decide)) h0;have r1:=fun (W:World)=>run_quo22 W (t:=26) q1
     obtain ⟨t1,t2,_⟩:=rt_some q2;have SQ:=hZq (fun W=>sqrt_any (quW Q j) _ W t1);have hd:=fun (W:World)=>run_quo22 W (t:=26) (sh_some t2).1
     rw [in4092] at hd;have e1:=floatOf_nat Q;have e2:=floatOf_nat j;clear q1 q2 t1 t2 hQ e a0'
     go_wp2_with fail
     refine (SQ.out _).mono ?_;rintro en w6 ⟨rfl,rfl⟩;go_wp2
     go_ret3
     exact ⟨g,by rw [HSS.out,HMD.out,HQ.out];rfl,by rw [HLV.out,HG.out];exact own_kept22 OD.out HGZ.out,gZq HD.out HGZ.out⟩
def smR (xs:List NoT):List Int:=[((sumT kyN xs:Nat):Int),((sumT kbN xs:Nat):Int),((sumT vbN xs:Nat):Int),((sumT pgN xs:Nat):Int),((sumT usN xs:Nat):Int)]
theorem refPages22 (x:Int)(w:World):Calls Tryz.prog 39 #[.int .i64 x] w fun en w'=>en=.returned (.int .i64 (pgB x))/\w'=w:=by
 by_cases h1:x<=512
 ·have e:Hid (pgB x=0):=by show _=_;unfold pgB;rw [if_pos (.inl h1)]
  go_enter Tryz.func39,Tryz.ntmps39;go_wp2;go_ret;exact ⟨by rw [e.out];rfl,rfl⟩
 ·by_cases h2:262144<x
  ·have e:Hid (pgB x=0):=by show _=_;unfold pgB;rw [if_pos (.inr h2)]
   go_enter Tryz.func39,Tryz.ntmps39;go_wp2;go_ret;exact ⟨by rw [e.out];rfl,rfl⟩
  ·have e:Hid (pgB x=(x - 1) / 4085+1):=by show _=_;unfold pgB;rw [if_neg (by omega)];omega
   go_enter Tryz.func39,Tryz.ntmps39;go_wp2;go_ret;exact ⟨by rw [e.out];rfl,rfl⟩
def ipR (ky kb vb pg us:Nat)(L:List PrT):List Int:=[((ky+L.length:Nat):Int),((kb+sumT (fun p:PrT=>p.key.length) L:Nat):Int),((vb+sumT (fun p:PrT=>p.val.length) L:Nat):Int),((pg+sumT (fun p:PrT=>chN p.val.length) L:Nat):Int),((us+sumT (fun p:PrT=>if 512<p.val.length then p.val.length else 0) L:Nat):Int)]
theorem ipR_snoc (ky kb vb pg us:Nat)(L:List PrT)(q:PrT):ipR ky kb vb pg us (L++[q])=[((ky+L.length+1:Nat):Int),((kb+sumT (fun p:PrT=>p.key.length) L+q.key.length:Nat):Int),((vb+sumT (fun p:PrT=>p.val.length) L+q.val.length:Nat):Int),((pg+sumT (fun p:PrT=>chN p.val.length) L+chN q.val.length:Nat):Int),((us+sumT (fun p:PrT=>if 512<p.val.length then p.val.length else 0) L+(if 512<q.val.length then q.val.length else 0):Nat):Int)]:=by
 unfold ipR;rw [List.length_append,sumT_snoc,sumT_snoc,sumT_snoc,sumT_snoc];simp only [List.length_singleton,Nat.add_assoc]
theorem five22 (a b c d e:Int):[a,b,c,d,e].map (Value.int .i64)=[.int .i64 a,.int .i64 b,.int .i64 c,.int .i64 d,.int .i64 e]:=rfl
def fillV (xs:List NoT):Nat:=if sumT pgN xs=0 then 0 else quW (sumT usN xs) (sumT pgN xs*4092)
theorem refSum22 (a:Option Addr)(n c:Nat)(ns:List NoT)(w:World)(h:NvL w a ns)(hn:ns.length=n)(hz:∀ x∈ns,SzN x)(hb:n<=3000) :
  Calls Tryz.prog 12 #[.slice a n c] w fun en w'=>∃ g,en=.returned (.tuple #[.slice (some ⟨g,0,none⟩) 5 5,.float .f64 (fillV ns)])/\w'.ownsRow w.heap.size 3 1 (.slice (some ⟨g,0,none⟩) 5 5) 5 ((smR ns).map (Value.int .i64))/\w.grownBy w' none:=by
 obtain ⟨i0,hi,hz0,hz1,hz2⟩:=info_parts info_i10;have HV:=hZq h;have HN:=hZq hn;have HZ:=hZq hz
 have hp:∀ x∈ns,usN x<=536350716/\pgN x<=132991/\kbN x<=521730/\vbN x<=536346624/\kyN x<=2046:=fun x hx=>by
  have sz:=hz x hx;have b1:=sumT_bound22 (f:=fun p:PrT=>chN p.val.length) (c:=65) x.ps (fun q hq=>ch_le65 (sz.pv q hq).2.1);have b2:=sumT_bound22 (f:=fun p:PrT=>if 512<p.val.length then p.val.length else 0) (c:=262144) x.ps (fun q hq=>Nat.le_trans (ite_le22 _) (sz.pv q hq).2.1);have b3:=sumT_bound22 (f:=fun p:PrT=>p.val.length) (c:=262144) x.ps (fun q hq=>(sz.pv q hq).2.1);have:=sz.pn;have:=sz.hi;have:=kb_le sz;unfold usN pgN vbN kyN;omega
 have HP:=hZq hp
 have HB:Hid (∀ k,sumT usN (ns.take k)<=1609052148000/\sumT pgN (ns.take k)<=398973000/\sumT kbN (ns.take k)<=1565190000/\sumT vbN (ns.take k)<=1609039872000/\sumT kyN (ns.take k)<=6138000):=fun k=>by
  have b1:=sumT_lim (g:=usN) (fun x hx=>(hp x hx).1) k;have b2:=sumT_lim (g:=pgN) (fun x hx=>(hp x hx).2.1) k;have b3:=sumT_lim (g:=kbN) (fun x hx=>(hp x hx).2.2.1) k;have b4:=sumT_lim (g:=vbN) (fun x hx=>(hp x hx).2.2.2.1) k;have b5:=sumT_lim (g:=kyN) (fun x hx=>(hp x hx).2.2.2.2) k;rw [hn] at b1 b2 b3 b4 b5;omega
 clear h hn hz hp;go_enter Tryz.func12,Tryz.ntmps12
 go_wp2_with (at_make;refine wpList_make_full _ rfl _ _ 30 rfl w.heap.size 3 i0 (.int .i64 0) 1 Tryz.underlying30 hi hz0 hz1 _ _ _ _ 5 rfl rfl rfl rfl ?b2 ?b3 (Nat.le_refl _) ?_)
 case b2=>first | omega | (rw [hz2];omega)
 case b3=>unfold maxLen;omega
 intro w4 ho3 hg3;obtain ⟨g,hg⟩:∃ g,w.heap.size=g:=⟨_,rfl⟩
 have O4:Hid (w4.ownsRow g 3 1 (.slice (some ⟨g,0,none⟩) 5 5) 5 ((smR []).map (Value.int .i64))):=by
  have ho4:=ho3
  (try rw [Nat.mul_one] at ho4)
  (try rw [show (Value.int IntKind.i64 0).cells=#[Value.int IntKind.i64 0] from rfl] at ho4)
  rw [toList_madeCells_one,hg] at ho4;exact ho4
 rw [hg];have G4:=hZq hg3;have HG:=hZq hg;have HGW:Hid (∀ W:World,w4.grownBy W (some g)->w.grownBy W none):=fun W hW=>grown_new G4.out hW (Nat.le_of_eq HG.out)
 clear ho3 hg3 hg
 go_wp2_with fail
 go_loopw [5,6,7,8] (fun s5 _ _ _ wr=>∃ k:Nat,k<=n/\s5=.int .i64 (k:Nat)/\wr.ownsRow g 3 1 (.slice (some ⟨g,0,none⟩) 5 5) 5 ((smR (ns.take k)).map (Value.int .i64))/\w4.grownBy wr (some g)) (fun s5 _ _ _ _=>n - (intOf s5).toNat)
 case atStart=>exact ⟨0,Nat.zero_le _,rfl,O4.out,World.grownBy.refl _ _⟩
 case round =>
  obtain ⟨k,hk,rfl,ho,hgr⟩:=hrel;have HO:=hZq ho;have GR:=hZq hgr;clear ho hgr
  by_cases hlt:k<n
  ·obtain ⟨x,hx⟩:∃ x,ns[k]?=some x:=⟨_,List.getElem?_eq_getElem (by have:=HN.out;omega)⟩
   have SZ:=hZq (HZ.out x (List.mem_of_getElem? hx));have HT:Hid (ns.take (k+1)=ns.take k++[x]):=by show _=_;rw [List.take_add_one,hx];rfl
   obtain ⟨b,off,pa,pc,ca,cn,cc,sa,sc,ka,kn,kc,rfl,hv⟩:=HV.out k x hx;have HVV:=hZq hv;have gw:=HGW.out wr GR.out;have RS:=hZq (refSize22 x pa pc ca cn cc sa sc ka kn kc wr (hv.p.cef (CeF.of gw)) (lz_cef (CeF.of gw) hv.s) SZ.out);have c0:=gw.cell hv.c0 (by simp);have c1:=gw.cell hv.c1 (by simp);have c2:=gw.cell hv.c2 (by simp);have c3:=gw.cell hv.c3 (by simp);have c4:=gw.cell hv.c4 (by simp);have c5:=gw.cell hv.c5 (by simp);have hB:=HB.out (k+1);obtain ⟨ky,hky⟩:∃ v,sumT kyN (ns.take k)=v:=⟨_,rfl⟩;obtain ⟨kb,hkb⟩:∃ v,sumT kbN (ns.take k)=v:=⟨_,rfl⟩;obtain ⟨vb,hvb⟩:∃ v,sumT vbN (ns.take k)=v:=⟨_,rfl⟩;obtain ⟨pg,hpg⟩:∃ v,sumT pgN (ns.take k)=v:=⟨_,rfl⟩;obtain ⟨us,hus⟩:∃ v,sumT usN (ns.take k)=v:=⟨_,rfl⟩;have HSM:Hid (smR (ns.take k)=[(ky:Int),(kb:Int),(vb:Int),(pg:Int),(us:Int)]):=by show _=_;unfold smR;rw [hky,hkb,hvb,hpg,hus]
   have HS1:Hid (smR (ns.take (k+1))=[((ky+kyN x:Nat):Int),((kb+kbN x:Nat):Int),((vb+vbN x:Nat):Int),((pg+pgN x:Nat):Int),((us+usN x:Nat):Int)]):=by
    show _=_
    unfold smR;rw [HT.out,sumT_snoc,sumT_snoc,sumT_snoc,sumT_snoc,sumT_snoc,hky,hkb,hvb,hpg,hus]
   rw [HT.out,sumT_snoc,sumT_snoc,sumT_snoc,sumT_snoc,sumT_snoc,hky,hkb,hvb,hpg,hus] at hB;have HBB:=hZq hB;rw [HSM.out] at HO;have ex1:pgN x=1+sumT (fun p:PrT=>chN p.val.length) x.ps:=rfl;have ex2:usN x=nsz x+sumT (fun p:PrT=>if 512<p.val.length then p.val.length else 0) x.ps:=rfl;have bb1:pg+1<=398973000:=by omega
   have bb2:us+nsz x<=1609052148000:=by omega
   obtain ⟨z,hz⟩:∃ z,nsz x=z:=⟨_,rfl⟩;have HZZ:=hZq hz;rw [hz] at bb2 RS;clear hx hv gw hky hkb hvb hpg hus hB ex1 ex2 HSM hz HT;have i0':(0:Int)<=(k:Int):=by omega
   have i1:(k:Int)<(n:Int):=by omega
   go_wp2_with fail
   refine RS.out.mono ?_;rintro en w5 ⟨rfl,hg5⟩;have O5:=hZq (own_kept22 HO.out hg5);have G5:=hZq (gZq GR.out (grown_any (row:=some g) hg5));clear hg5 RS HO GR c0 c1 c2 c3 c4 c5;have hsz5:g<w5.heap.size:=(own_lt10 O5.out rfl).2.1;have a3:=O5.out.cellAt 3 (by omega);have a4:=O5.out.cellAt 4 (by omega);have f3:=O5.out.frozenAt 3;have f4:=O5.out.frozenAt 4;rw [five22] at a3 a4;simp only [List.getElem?_cons_zero,List.getElem?_cons_succ] at a3 a4;have hw1:IntKind.i64.wrap ((pg:Int)+1)=(pg:Int)+1:=wrap_id10 (by omega) (by omega);have hw2:IntKind.i64.wrap ((us:Int)+(z:Int))=(us:Int)+(z:Int):=wrap_id10 (by omega) (by omega);have D3:=hZq (O5.out.stored 3 (.int .i64 ((pg:Int)+1)));have D4:=hZq (D3.out.1.stored 4 (.int .i64 ((us:Int)+(z:Int))));clear O5 hsz5
   go_wp2_with fail
   have O6:Hid (((w5.setCell ⟨g,3,none⟩ (.int .i64 ((pg:Int)+1))).setCell ⟨g,4,none⟩ (.int .i64 ((us:Int)+(z:Int)))).ownsRow g 3 1 (.slice (some ⟨g,0,none⟩) 5 5) 5 ((ipR ky kb vb (pg+1) (us+z) []).map (Value.int .i64))):=by
    have e:(ipR ky kb vb (pg+1) (us+z) []).map (Value.int .i64)=[.int .i64 (ky:Nat),.int .i64 (kb:Nat),.int .i64 (vb:Nat),.int .i64 ((pg:Int)+1),.int .i64 ((us:Int)+(z:Int))]:=rfl
    show World.ownsRow _ _ _ _ _ _ _
    rw [e];exact D4.out.1
   have G6:=hZq (gZq G5.out (gZq D3.out.2 D4.out.2));clear D3 D4 G5 a3 a4 f3 f4 hw1 hw2;generalize (w5.setCell ⟨g,3,none⟩ (.int .i64 ((pg:Int)+1))).setCell ⟨g,4,none⟩ (.int .i64 ((us:Int)+(z:Int)))=w6 at *;obtain ⟨pn,hpn⟩:∃ v,x.ps.length=v:=⟨_,rfl⟩;have HPN:=hZq hpn
   have HC2:Hid (∀ W:World,w4.grownBy W (some g)->W.cell? ⟨b,off+k*6+2,none⟩=some (.slice pa pn pc)):=fun W hW=>by
    rw [<- hpn];exact (HGW.out W hW).cell HVV.out.c2 (by simp)
   have hpm:pn<=2046:=by rw [<- hpn];exact SZ.out.pn
   clear hpn;go_loopw [7,8] (fun s7 _ wz=>∃ j:Nat,j<=pn/\s7=.int .i64 (j:Nat)/\wz.ownsRow g 3 1 (.slice (some ⟨g,0,none⟩) 5 5) 5 ((ipR ky kb vb (pg+1) (us+z) (x.ps.take j)).map (Value.int .i64))/\w4.grownBy wz (some g)) (fun s7 _ _=>pn - (intOf s7).toNat)
   case atStart=>exact ⟨0,Nat.zero_le _,rfl,O6.out,G6.out⟩
   case round =>
    obtain ⟨j,hj,rfl,ho,hgr⟩:=hrel;have HO:=hZq ho;have GR:=hZq hgr;clear ho hgr O6 G6;have c2:=HC2.out wr GR.out
    by_cases hlt2:j<pn
    ·obtain ⟨q,hq⟩:∃ q,x.ps[j]?=some q:=⟨_,List.getElem?_eq_getElem (by have:=HPN.out;omega)⟩
     obtain ⟨pb,poff,ka',kc',va',vc',rfl,e0,e1,_⟩:=HVV.out.p j q hq;have HTQ:Hid (x.ps.take (j+1)=x.ps.take j++[q]):=by show _=_;rw [List.take_add_one,hq];rfl
     have hqv:=SZ.out.pv q (List.mem_of_getElem? hq);obtain ⟨kl,hkl⟩:∃ v,q.key.length=v:=⟨_,rfl⟩;obtain ⟨vl,hvl⟩:∃ v,q.val.length=v:=⟨_,rfl⟩;have hch:=ch_le65 hqv.2.1;have hin:=ipR_snoc ky kb vb (pg+1) (us+z) (x.ps.take j) q;rw [<- HTQ.out] at hin;have hl:(x.ps.take j).length=j:=by rw [List.length_take];have:=HPN.out;omega
     have s1:=sumT_part (fun p:PrT=>p.key.length) x.ps (j+1);have s2:=sumT_part (fun p:PrT=>p.val.length) x.ps (j+1);have s3:=sumT_part (fun p:PrT=>chN p.val.length) x.ps (j+1);have s4:=sumT_part (fun p:PrT=>if 512<p.val.length then p.val.length else 0) x.ps (j+1);rw [HTQ.out,sumT_snoc] at s1 s2 s3 s4;have t1:kbN x=sumT (fun p:PrT=>p.key.length) x.ps:=rfl;have t2:vbN x=sumT (fun p:PrT=>p.val.length) x.ps:=rfl;have t3:pgN x=1+sumT (fun p:PrT=>chN p.val.length) x.ps:=rfl;have t4:usN x=nsz x+sumT (fun p:PrT=>if 512<p.val.length then p.val.length else 0) x.ps:=rfl;have t5:kyN x=x.ps.length:=rfl;have hB:=HBB.out;have hZ:=HZZ.out;have hPN:=HPN.out;obtain ⟨A,hA⟩:∃ v,ky+(x.ps.take j).length=v:=⟨_,rfl⟩;obtain ⟨B,hBe⟩:∃ v,kb+sumT (fun p:PrT=>p.key.length) (x.ps.take j)=v:=⟨_,rfl⟩;obtain ⟨C,hC⟩:∃ v,vb+sumT (fun p:PrT=>p.val.length) (x.ps.take j)=v:=⟨_,rfl⟩;obtain ⟨D,hD⟩:∃ v,(pg+1)+sumT (fun p:PrT=>chN p.val.length) (x.ps.take j)=v:=⟨_,rfl⟩;obtain ⟨E,hE⟩:∃ v,(us+z)+sumT (fun p:PrT=>if 512<p.val.length then p.val.length else 0) (x.ps.take j)=v:=⟨_,rfl⟩
     have HIN:Hid (ipR ky kb vb (pg+1) (us+z) (x.ps.take (j+1))=[((A+1:Nat):Int),((B+kl:Nat):Int),((C+vl:Nat):Int),((D+chN vl:Nat):Int),((E+if 512<vl then vl else 0:Nat):Int)]):=by
      show _=_
      rw [hin,hA,hBe,hC,hD,hE,hkl,hvl]
     have hbd:A+1<=6138000/\B+kl<=1565190000/\C+vl<=1609039872000/\D+chN vl<=398973000/\E+(if 512<vl then vl else 0)<=1609052148000:=by
      rw [<- hkl,<- hvl];omega
     have e9:(ipR ky kb vb (pg+1) (us+z) (x.ps.take j)).map (Value.int .i64)=[.int .i64 (A:Nat),.int .i64 (B:Nat),.int .i64 (C:Nat),.int .i64 (D:Nat),.int .i64 (E:Nat)]:=by
      unfold ipR;rw [hA,hBe,hC,hD,hE]
      rfl
     have ho:=HO.out;rw [e9] at ho;rw [hkl] at e0;rw [hvl] at e1 hqv;have KQ:Hid (∀ W:World,w4.grownBy W (some g)->W.cell? ⟨b,off+k*6+2,none⟩=some (.slice (some ⟨pb,poff,none⟩) pn pc)/\W.cell? ⟨pb,poff+j*2,none⟩=some (.slice ka' kl kc')/\W.cell? ⟨pb,poff+j*2+1,none⟩=some (.slice va' vl vc')):=fun W hW=>⟨HC2.out W hW,(HGW.out W hW).cell e0 (by simp),(HGW.out W hW).cell e1 (by simp)⟩
     have HQV:Hid (vl<=262144):=hqv.2.1;have x0:=ho.cellAt 0 (by omega);have f0:=ho.frozenAt 0;simp only [List.getElem?_cons_zero] at x0;obtain ⟨c2',e0',e1'⟩:=KQ.out wr GR.out;have P0:=hZq (ho.stored 0 (.int .i64 ((A:Int)+1)));have hw0:IntKind.i64.wrap ((A:Int)+1)=(A:Int)+1:=wrap_id10 (by omega) (by omega);have hw1:IntKind.i64.wrap ((B:Int)+(kl:Int))=(B:Int)+(kl:Int):=wrap_id10 (by omega) (by omega);have hw2:IntKind.i64.wrap ((C:Int)+(vl:Int))=(C:Int)+(vl:Int):=wrap_id10 (by omega) (by omega);have hch2:chN vl<=65:=by rw [<- hvl];exact hch
     clear hq e0 e1 hqv hch hin hl s1 s2 s3 s4 t1 t2 t3 t4 t5 hB hZ hPN hA hBe hC hD hE e9 ho hkl hvl HO HTQ c2;have i2:(0:Int)<=(j:Int):=by omega
     have i3:(j:Int)<(pn:Int):=by omega
     go_upto_region 13 with fail
     have GP0:=hZq (gZq GR.out P0.out.2);obtain ⟨c2',e0',e1'⟩:=KQ.out _ GP0.out;have O0:=hZq P0.out.1;clear P0 GR x0 f0 hw0;generalize wr.setCell ⟨g,0,none⟩ (.int .i64 ((A:Int)+1))=wb at *;have x1:=O0.out.cellAt 1 (by omega);have f1:=O0.out.frozenAt 1;simp only [List.getElem?_cons_zero,List.getElem?_cons_succ,List.set_cons_zero] at x1
     go_region
     have P1:=hZq (O0.out.stored 1 (.int .i64 ((B:Int)+(kl:Int))));have O1:Hid ((wb.setCell ⟨g,1,none⟩ (.int .i64 ((B:Int)+(kl:Int)))).drew.ownsRow g 3 1 (.slice (some ⟨g,0,none⟩) 5 5) 5 [.int .i64 ((A:Int)+1),.int .i64 ((B:Int)+(kl:Int)),.int .i64 (C:Nat),.int .i64 (D:Nat),.int .i64 (E:Nat)]):=own_kept22 P1.out.1 ((Qt.refl _).drew.grown none);have GP1:=hZq (gZq GP0.out (gZq P1.out.2 ((Qt.refl _).drew.grown (some g))));clear P1 O0 GP0 x1 f1 hw1 c2' e0' e1' KQ;generalize (wb.setCell ⟨g,1,none⟩ (.int .i64 ((B:Int)+(kl:Int)))).drew=wc at *;have x2:=O1.out.cellAt 2 (by omega);have f2:=O1.out.frozenAt 2;simp only [List.getElem?_cons_zero,List.getElem?_cons_succ] at x2;have P2:=hZq (O1.out.stored 2 (.int .i64 ((C:Int)+(vl:Int))));have O2:Hid ((wc.setCell ⟨g,2,none⟩ (.int .i64 ((C:Int)+(vl:Int)))).ownsRow g 3 1 (.slice (some ⟨g,0,none⟩) 5 5) 5 [.int .i64 ((A:Int)+1),.int .i64 ((B:Int)+(kl:Int)),.int .i64 ((C:Int)+(vl:Int)),.int .i64 (D:Nat),.int .i64 (E:Nat)]):=P2.out.1;have GP2:=hZq (gZq GP1.out P2.out.2);clear P2
     by_cases h5:512<vl
     ·have h5':(512:Int)<(vl:Int):=by omega
      rw [if_pos h5] at hbd HIN;obtain ⟨cv,hcv⟩:∃ v,chN vl=v:=⟨_,rfl⟩;rw [hcv] at hbd HIN hch2
      have RP:Hid (∀ W:World,Calls Tryz.prog 39 #[.int .i64 (vl:Nat)] W fun en w'=>en=.returned (.int .i64 (cv:Nat))/\w'=W):=fun W=>by
       have h1:=refPages22 (vl:Int) W;rw [pgB_ch HQV.out,hcv] at h1;exact h1
      have hw3:IntKind.i64.wrap ((D:Int)+(cv:Int))=(D:Int)+(cv:Int):=wrap_id10 (by omega) (by omega);have hw4:IntKind.i64.wrap ((E:Int)+(vl:Int))=(E:Int)+(vl:Int):=wrap_id10 (by omega) (by omega);clear h5 hcv;go_upto_region 16 with fail
      clear x2 f2 O1 GP1 hw2;generalize wc.setCell ⟨g,2,none⟩ (.int .i64 ((C:Int)+(vl:Int)))=wd at *;have x3:=O2.out.cellAt 3 (by omega);have f3:=O2.out.frozenAt 3;simp only [List.getElem?_cons_zero,List.getElem?_cons_succ] at x3;have x4:=O2.out.cellAt 4 (by omega);have f4:=O2.out.frozenAt 4;simp only [List.getElem?_cons_zero,List.getElem?_cons_succ] at x4;have P3:=hZq (O2.out.stored 3 (.int .i64 ((D:Int)+(cv:Int))));have O3:Hid ((wd.setCell ⟨g,3,none⟩ (.int .i64 ((D:Int)+(cv:Int)))).drew.ownsRow g 3 1 (.slice (some ⟨g,0,none⟩) 5 5) 5 [.int .i64 ((A:Int)+1),.int .i64 ((B:Int)+(kl:Int)),.int .i64 ((C:Int)+(vl:Int)),.int .i64 ((D:Int)+(cv:Int)),.int .i64 (E:Nat)]):=own_kept22 P3.out.1 ((Qt.refl _).drew.grown none);have GP3:=hZq (gZq GP2.out (gZq P3.out.2 ((Qt.refl _).drew.grown (some g))));have P4:=hZq (O3.out.stored 4 (.int .i64 ((E:Int)+(vl:Int))));clear P3 O2 GP2
      go_region_with (go_at_call 39;refine (RP.out _).mono ?_;rintro en wz ⟨rfl,hwz⟩;rw [hwz];clear hwz)
      all_goals (try go_wp2_with fail)
      all_goals refine ⟨⟨j+1,by omega,by go_num,?_,gZq GP3.out P4.out.2⟩,?_⟩
      all_goals first
       | (rw [HIN.out,five22];exact P4.out.1)
       | (simp [intOf];omega)
     ·have h5':¬ (512:Int)<(vl:Int):=by omega
      have hcz:chN vl=0:=if_pos (by omega);rw [if_neg h5,hcz] at HIN;clear h5 hcz hbd hch2
      go_wp2_with fail
      refine ⟨⟨j+1,by omega,by go_num,?_,GP2.out⟩,?_⟩
      ·rw [HIN.out,five22]
       exact O2.out
      ·simp [intOf];omega
    ·obtain rfl:j=pn:=by omega
     have e:x.ps.take j=x.ps:=by rw [<- HPN.out,List.take_length]
     rw [e] at HO
     have e2:ipR ky kb vb (pg+1) (us+z) x.ps=smR (ns.take (k+1)):=by
      rw [HS1.out];unfold ipR kyN kbN vbN pgN usN;rw [HZZ.out,Nat.add_assoc pg,Nat.add_assoc us]
     rw [e2] at HO;clear HC2 e e2 hlt2 hj
     go_wp2_with fail
     refine ⟨⟨k+1,by omega,by go_num,HO.out,GR.out⟩,?_⟩;simp [intOf];omega
  ·obtain rfl:k=n:=by omega
   have e:ns.take k=ns:=by rw [<- HN.out,List.take_length]
   rw [e] at HO;have hB:=HB.out k;rw [e] at hB;obtain ⟨us,hus⟩:∃ v,sumT usN ns=v:=⟨_,rfl⟩;obtain ⟨pg,hpg⟩:∃ v,sumT pgN ns=v:=⟨_,rfl⟩;have HLV:Hid (smR ns=[((sumT kyN ns:Nat):Int),((sumT kbN ns:Nat):Int),((sumT vbN ns:Nat):Int),(pg:Int),(us:Int)]):=by show _=_;unfold smR;rw [hus,hpg]
   rw [hus,hpg] at hB;have HUS:=hZq hus;have HPE:=hZq hpg;have ho:=HO.out;rw [HLV.out] at ho;have a3:=ho.cellAt 3 (by omega);have a4:=ho.cellAt 4 (by omega);rw [five22] at a3 a4;simp only [List.getElem?_cons_zero,List.getElem?_cons_succ] at a3 a4;have GF:=hZq (grown_new G4.out GR.out (Nat.le_of_eq HG.out));clear ho hus hpg hlt hk e O4 GR HP HZ HB HV HGW G4
   by_cases h0:pg=0
   ·subst h0
    go_wp2_with fail
    go_ret2
    exact ⟨g,by rw [show fillV ns=0 from if_pos HPE.out];rfl,by rw [HG.out];exact HO.out,GF.out⟩
   ·have h0':((pg:Int)==0)=false:=by rw [beq_eq_false_iff_ne];omega
    have HP0:=hZq h0;have r1:=fun (W:World)=>run_quo22 W (t:=26) (qu_some (a:=us) (b:=pg*4092) (by omega) (by omega) (by omega)).1
    have e1:=floatOf_nat us;have e2:=floatOf_nat (pg*4092);rw [show ((pg*4092:Nat):Int)=(pg:Int)*4092 by omega] at e2;have hw1:IntKind.i64.wrap ((pg:Int)*4092)=(pg:Int)*4092:=wrap_id10 (by omega) (by omega);clear h0 hB;go_upto_region 20 with fail
    go_region
    go_wp2
    go_ret2
    exact ⟨g,by rw [show fillV ns=quW us (pg*4092) from by unfold fillV;rw [HPE.out,HUS.out,if_neg HP0.out]];rfl,by rw [HG.out];exact own_kept22 HO.out ((Qt.refl _).drew.grown none),gZq GF.out ((Qt.refl _).drew.grown none)⟩
theorem sameChainsN (no1 lv1 p1 s1 k1 no2 lv2 p2 s2 k2:Value)(a b:Option Addr)(n c d:Nat)(C:List (List Int))(w:World)(h1:ZlW w a C)(hn:C.length=n)(hm:n<=9223372036854775807)(hs:∀ s∈C,s=[]) :
  Calls Tryz.prog 65 #[.agg #[no1,lv1,p1,.slice a n c,s1,k1],.agg #[no2,lv2,p2,.slice b 0 d,s2,k2]] w fun en w'=>en=.returned (.bool true)/\w.grownBy w' none:=by
 have ga:=World.grownBy_alloc w (.cells #[no1,lv1,p1,.slice a n c,s1,k1] 61) none;have gb:=World.grownBy_alloc (w.alloc (.cells #[no1,lv1,p1,.slice a n c,s1,k1] 61)) (.cells #[no2,lv2,p2,.slice b 0 d,s2,k2] 61) none;have X1:=hZq (heap_kept (heap_at0 w #[no1,lv1,p1,.slice a n c,s1,k1] 61) gb);have Y1:=hZq (heap_at0 (w.alloc (.cells #[no1,lv1,p1,.slice a n c,s1,k1] 61)) #[no2,lv2,p2,.slice b 0 d,s2,k2] 61);have hs1:(w.alloc (.cells #[no1,lv1,p1,.slice a n c,s1,k1] 61)).heap.size=w.heap.size+1:=by simp
 rw [hs1] at Y1;have HG:=hZq (gZq ga gb);have HL:=hZq (h1.kept HG.out);have HS:=hZq hs;clear ga gb h1 hs hs1;go_enter Tryz.func65,Tryz.ntmps65;go_upto_region 1 with fail
 generalize (w.alloc (.cells #[no1,lv1,p1,.slice a n c,s1,k1] 61)).alloc (.cells #[no2,lv2,p2,.slice b 0 d,s2,k2] 61)=w1 at *;obtain ⟨B,hB⟩:∃ B,w.heap.size=B:=⟨_,rfl⟩;rw [hB] at X1 Y1 ⊢;clear hB;have x3:=cell_heap (i:=3) X1.out rfl;have y3:=cell_heap (i:=3) Y1.out rfl;have gm:max (n:Int) 0=(n:Int):=by omega
 go_upto_block 0 with fail
 go_wp2_with fail
 go_loopw [6,7,8,9] (fun si _ _ _ wr=>∃ i:Nat,i<=n/\si=.int .i64 (i:Nat)/\Qt w1 wr) (fun si _ _ _ _=>n - (intOf si).toNat)
 case atStart=>exact ⟨0,Nat.zero_le _,rfl,Qt.refl _⟩
 case round =>
  obtain ⟨i,hi,rfl,hq⟩:=hrel;have HQ:=hZq hq;clear hq;have e3:=(HQ.out.cell _).trans x3;have f3:=(HQ.out.cell _).trans y3
  by_cases hlt:i<n
  ·obtain ⟨z,hz⟩:∃ z,C[i]?=some z:=⟨_,List.getElem?_eq_getElem (by omega)⟩
   obtain ⟨b1,o1,ao1,c1,rfl,q1,q3⟩:=HL.out i z hz;have q1':=(HQ.out.cell _).trans q1;obtain rfl:=HS.out z (List.mem_of_getElem? hz);have HC:=hZq (sameInts10 ao1 none 0 c1 0 [] wr (fun i z h=>by simp at h) (fun i z h=>by simp at h) rfl (by omega));have g1:(0:Int)<=(i:Int):=by omega
   have g2:(i:Int)<(n:Int):=by omega
   rw [List.length_nil] at q1';have g3:¬ (i:Int)<0:=by omega
   clear hz q1 q3
   go_wp2_with fail
   refine HC.out.mono ?_;rintro en w9 ⟨rfl,hq9⟩;have Q9:=hZq (HQ.out.trans hq9);clear hq9 HC;go_wp2;go_roundw
   case rel=>exact ⟨i+1,by omega,by go_num,Q9.out⟩
   case measure=>simp [intOf];omega
  ·obtain rfl:i=n:=by omega
   go_wp2;go_ret;exact ⟨rfl,gZq HG.out (HQ.out.grown none)⟩
theorem sameChains22 (no1 lv1 p1 s1 k1 no2 lv2 p2 s2 k2:Value)(a b:Option Addr)(n m c d:Nat)(C:List (List Int))(w:World)(h1:ZlW w a C)(h2:(m=n/\ZlW w b C)∨(m=0/\∀ s∈C,s=[]))(hn:C.length=n)(hm:n<=9223372036854775807)(hs:∀ s∈C,s.length<=9223372036854775807) :
  Calls Tryz.prog 65 #[.agg #[no1,lv1,p1,.slice a n c,s1,k1],.agg #[no2,lv2,p2,.slice b m d,s2,k2]] w fun en w'=>en=.returned (.bool true)/\w.grownBy w' none:=by
 rcases h2 with ⟨rfl,h2⟩ | ⟨rfl,h2⟩
 ·exact sameChains10 no1 lv1 p1 s1 k1 no2 lv2 p2 s2 k2 a b m c d C w h1 h2 hn hm hs
 ·exact sameChainsN no1 lv1 p1 s1 k1 no2 lv2 p2 s2 k2 a b n c d C w h1 hn hm h2
def PyL (w:World)(a:Option Addr)(L:List PrT):Prop:=∀ i p,L[i]?=some p->∃ b off ka kc va vc,a=some ⟨b,off,none⟩/\w.cell? ⟨b,off+i*2,none⟩=some (.slice ka p.key.length kc)/\w.cell? ⟨b,off+i*2+1,none⟩=some (.slice va p.val.length vc)/\Byt w ka p.key.length kc p.key/\Byt w va p.val.length vc p.val
theorem PyL.kept {w w':World}{a:Option Addr}{L:List PrT}(h:PyL w a L)(hg:w.grownBy w' none):PyL w' a L:=fun i p hp=>by
 obtain ⟨b,off,ka,kc,va,vc,h1,h2,h3,h4,h5⟩:=h i p hp;exact ⟨b,off,ka,kc,va,vc,h1,hg.cell h2 (by simp),hg.cell h3 (by simp),h4.keptN hg,h5.keptN hg⟩
theorem MpW.py {w:World}{a:Option Addr}{n c:Nat}{L:List PrT}(h:MpW w a n c L):PyL w a L:=fun i p hp=>by
 obtain ⟨b1,off1,ao1,c1,bo1,d1,rfl,q1,q2,q3,q5⟩:=h.get hp;exact ⟨b1,off1,ao1,c1,bo1,d1,rfl,q1,q2,q3,q5⟩
structure NoU (w:World)(pa:Option Addr)(ca:Option Addr)(cm:Nat)(sa:Option Addr)(ka:Option Addr)(x:NoT):Prop where
 p:PyL w pa x.ps
 c:(cm=x.ps.length/\ZlW w ca (x.ps.map PrT.chain))∨(cm=0/\∀ s∈x.ps.map PrT.chain,s=[])
 s:BlW w sa x.ss
 k:ZrW w ka (x.ks.map fun (k:Nat)=>(k:Int))
theorem NoU.kept {w w':World}{pa ca sa ka:Option Addr}{cm:Nat}{x:NoT}(h:NoU w pa ca cm sa ka x)(hg:w.grownBy w' none):NoU w' pa ca cm sa ka x :=
 ⟨h.p.kept hg,h.c.imp (fun k=>⟨k.1,k.2.kept hg⟩) id,h.s.kept hg,h.k.kept hg⟩
structure NeU (w:World)(b o:Nat)(pa:Option Addr)(pc:Nat)(ca:Option Addr)(cm cc:Nat)(sa:Option Addr)(sc:Nat)(ka:Option Addr)(kc:Nat)(x:NoT):Prop where
 c0:w.cell? ⟨b,o,none⟩=some (.int .i64 x.no)
 c1:w.cell? ⟨b,o+1,none⟩=some (.int .i64 (x.lv:Int))
 c2:w.cell? ⟨b,o+2,none⟩=some (.slice pa x.ps.length pc)
 c3:w.cell? ⟨b,o+3,none⟩=some (.slice ca cm cc)
 c4:w.cell? ⟨b,o+4,none⟩=some (.slice sa x.ss.length sc)
 c5:w.cell? ⟨b,o+5,none⟩=some (.slice ka x.ks.length kc)
 r:NoU w pa ca cm sa ka x
theorem NeU.kept {w w':World}{b o:Nat}{pa:Option Addr}{pc:Nat}{ca:Option Addr}{cm cc:Nat}{sa:Option Addr}{sc:Nat}{ka:Option Addr}{kc:Nat}{x:NoT}(h:NeU w b o pa pc ca cm cc sa sc ka kc x)(hg:w.grownBy w' none):NeU w' b o pa pc ca cm cc sa sc ka kc x :=
 ⟨hg.cell h.c0 (by simp),hg.cell h.c1 (by simp),hg.cell h.c2 (by simp),hg.cell h.c3 (by simp),hg.cell h.c4 (by simp),hg.cell h.c5 (by simp),h.r.kept hg⟩
def NlU (w:World)(a:Option Addr)(xs:List NoT):Prop:=∀ i x,xs[i]?=some x->∃ b off pa pc ca cm cc sa sc ka kc,a=some ⟨b,off,none⟩/\NeU w b (off+i*6) pa pc ca cm cc sa sc ka kc x
theorem samePairs22 (a b:Option Addr)(n c d:Nat)(L:List PrT)(w:World)(h1:PyL w a L)(h2:PyL w b L)(hn:L.length=n)(h0:n<=100000000) :
  Calls Tryz.prog 64 #[.slice a n c,.slice b n d] w fun en w'=>en=.returned (.bool true)/\w.grownBy w' none:=by
 have HL:=hZq h1;have HK:=hZq h2;have HN:=hZq hn;clear h1 h2 hn;have g0:((n:Int)==(n:Int))=true:=by simp
 go_enter Tryz.func64,Tryz.ntmps64;go_wp2;go_loopw [5,6] (fun si _ wr=>∃ i:Nat,i<=n/\si=.int .i64 (i:Nat)/\w.grownBy wr none) (fun si _ _=>n - (intOf si).toNat)
 case atStart=>exact ⟨0,Nat.zero_le _,rfl,World.grownBy.refl _ _⟩
 case round =>
  obtain ⟨i,hi,rfl,hg⟩:=hrel;have HG:=hZq hg;clear hg
  by_cases hlt:i<n
  ·obtain ⟨p,hp⟩:∃ p,L[i]?=some p:=⟨_,List.getElem?_eq_getElem (by have:=HN.out;omega)⟩
   obtain ⟨b1,off1,ao1,c1,bo1,d1,rfl,q1,q2,q3,q5⟩:=HL.out i p hp;obtain ⟨b2,off2,ao2,c2,bo2,d2,rfl,r1,r2,r3,r5⟩:=HK.out i p hp;have HSP:=hZq (fun (W:World) (hW:W.heap=wr.heap)=>samePair11 ao1 bo1 ao2 bo2 _ _ c1 d1 c2 d2 p.key p.val W ((q3.keptN HG.out).heap hW) ((q5.keptN HG.out).heap hW) ((r3.keptN HG.out).heap hW) ((r5.keptN HG.out).heap hW));have x1:=HG.out.cell q1 (by simp);have x2:=HG.out.cell q2 (by simp);have y1:=HG.out.cell r1 (by simp);have y2:=HG.out.cell r2 (by simp);clear q1 q2 q3 q5 r1 r2 r3 r5 hp;generalize p.key.length=n1 at *;generalize p.val.length=m1 at *;have g1:(0:Int)<=(i:Int):=by omega
   have g2:(i:Int)<(n:Int):=by omega
   go_upto_region 6 with fail
   go_region_with ((go_at_call 87;refine (HSP.out wr.drew rfl).mono ?_;rintro en w3 ⟨rfl,hg3⟩;have G3:=hZq (gZq HG.out (undrewW hg3));clear hg3))
   all_goals
    go_wp2;go_roundw
    case rel=>exact ⟨i+1,by omega,by go_num,G3.out⟩
    case measure=>simp [intOf];omega
  ·obtain rfl:i=n:=by omega
   go_wp2;go_ret;exact ⟨rfl,HG.out⟩
theorem sameNode22 (pa ca sa ka pb cb sb kb:Option Addr)(pc cc sc kc pd cd sd kd:Nat)(x:NoT)(cn cm sn kn:Nat)(w:World)(h1:NoW w pa pc ca sa ka x)(h2:NoU w pb cb cm sb kb x)(hc:(x.ps.map PrT.chain).length=cn)(hs:x.ss.length=sn)(hk:(x.ks.map fun (k:Nat)=>(k:Int)).length=kn)(l1:x.ps.length<=100000000)(l2:sn<=9223372036854775807)(l3:kn<=9223372036854775807)(l4:∀ p∈x.ps,p.chain.length<=9223372036854775807) :
  Calls Tryz.prog 40 #[.agg #[.int .i64 x.no,.int .i64 (x.lv:Int),.slice pa x.ps.length pc,.slice ca cn cc,.slice sa sn sc,.slice ka kn kc],.agg #[.int .i64 x.no,.int .i64 (x.lv:Int),.slice pb x.ps.length pd,.slice cb cm cd,.slice sb sn sd,.slice kb kn kd]] w fun en w'=>en=.returned (.bool true)/\w.grownBy w' none:=by
 have H1:=hZq h1;have H2:=hZq h2;have L4:=hZq l4;have HC:=hZq hc;have HS:=hZq hs;have HK:=hZq hk;have l5:cn<=9223372036854775807:=by rw [List.length_map] at hc;omega
 clear h1 h2 l4 hc hs hk;obtain ⟨pn,hpn⟩:∃ pn,x.ps.length=pn:=⟨_,rfl⟩;have HPN:=hZq hpn;obtain ⟨no,hno⟩:∃ no,x.no=no:=⟨_,rfl⟩;obtain ⟨lv,hlv⟩:∃ lv:Int,(x.lv:Int)=lv:=⟨_,rfl⟩;rw [hpn] at l1;rw [hpn,hno,hlv];clear hpn hno hlv;have ga:=World.grownBy_alloc w (.cells #[.int .i64 no,.int .i64 lv,.slice pa pn pc,.slice ca cn cc,.slice sa sn sc,.slice ka kn kc] 61) none;have gb:=World.grownBy_alloc (w.alloc (.cells #[.int .i64 no,.int .i64 lv,.slice pa pn pc,.slice ca cn cc,.slice sa sn sc,.slice ka kn kc] 61)) (.cells #[.int .i64 no,.int .i64 lv,.slice pb pn pd,.slice cb cm cd,.slice sb sn sd,.slice kb kn kd] 61) none;have X1:=hZq (heap_kept (heap_at0 w #[.int .i64 no,.int .i64 lv,.slice pa pn pc,.slice ca cn cc,.slice sa sn sc,.slice ka kn kc] 61) gb);have Y1:=hZq (heap_at0 (w.alloc (.cells #[.int .i64 no,.int .i64 lv,.slice pa pn pc,.slice ca cn cc,.slice sa sn sc,.slice ka kn kc] 61)) #[.int .i64 no,.int .i64 lv,.slice pb pn pd,.slice cb cm cd,.slice sb sn sd,.slice kb kn kd] 61);have hs1:(w.alloc (.cells #[.int .i64 no,.int .i64 lv,.slice pa pn pc,.slice ca cn cc,.slice sa sn sc,.slice ka kn kc] 61)).heap.size=w.heap.size+1:=by simp
 rw [hs1] at Y1;have HG:=hZq (gZq ga gb);have N1:=hZq (H1.out.kept HG.out);have N2:=hZq (H2.out.kept HG.out);clear ga gb hs1 H1 H2;go_enter Tryz.func40,Tryz.ntmps40;go_upto_region 1 with fail
 generalize (w.alloc (.cells #[.int .i64 no,.int .i64 lv,.slice pa pn pc,.slice ca cn cc,.slice sa sn sc,.slice ka kn kc] 61)).alloc (.cells #[.int .i64 no,.int .i64 lv,.slice pb pn pd,.slice cb cm cd,.slice sb sn sd,.slice kb kn kd] 61)=w1 at *;obtain ⟨B,hB⟩:∃ B,w.heap.size=B:=⟨_,rfl⟩;rw [hB] at X1 Y1 ⊢;clear hB;have x2:=cell_heap (i:=2) X1.out rfl;have y2:=cell_heap (i:=2) Y1.out rfl;have SP:=hZq (samePairs22 pa pb pn pc pd x.ps w1 N1.out.p.py N2.out.p HPN.out l1)
 go_wp2_with fail
 refine SP.out.mono ?_;rintro en w2 ⟨rfl,g2⟩;have G2:=hZq g2;have X2:=hZq (heap_kept X1.out g2);have Y2:=hZq (heap_kept Y1.out g2);clear g2 x2 y2;have x0:=cell_heap (i:=0) X2.out rfl;have x1:=cell_heap (i:=1) X2.out rfl;have x2:=cell_heap (i:=2) X2.out rfl;have x3:=cell_heap (i:=3) X2.out rfl;have x4:=cell_heap (i:=4) X2.out rfl;have x5:=cell_heap (i:=5) X2.out rfl;have y0:=cell_heap (i:=0) Y2.out rfl;have y1:=cell_heap (i:=1) Y2.out rfl;have y2:=cell_heap (i:=2) Y2.out rfl;have y3:=cell_heap (i:=3) Y2.out rfl;have y4:=cell_heap (i:=4) Y2.out rfl;have y5:=cell_heap (i:=5) Y2.out rfl
 have SC:=hZq (sameChains22 (.int .i64 no) (.int .i64 lv) (.slice pa pn pc) (.slice sa sn sc) (.slice ka kn kc) (.int .i64 no) (.int .i64 lv) (.slice pb pn pd) (.slice sb sn sd) (.slice kb kn kd) ca cb cn cm cc cd (x.ps.map PrT.chain) w2 (N1.out.c.kept G2.out) (by have h9:=(N2.out.kept G2.out).c;have h8:=HC.out;rw [List.length_map] at h8;rw [h8] at h9;exact h9) HC.out l5 (fun s hs=>by
  obtain ⟨p,hp,rfl⟩:=List.mem_map.1 hs;exact L4.out p hp))
 go_wp2_with fail
 refine SC.out.mono ?_;rintro en w3 ⟨rfl,g3⟩;have G3:=hZq (gZq G2.out g3);clear g3 x0 x1 x2 x3 x4 x5 y0 y1 y2 y3 y4 y5;have X3:=hZq (heap_kept X1.out G3.out);have Y3:=hZq (heap_kept Y1.out G3.out);have x4:=cell_heap (i:=4) X3.out rfl;have y4:=cell_heap (i:=4) Y3.out rfl;have SL:=hZq (sameLists10 sa sb sn sc sd x.ss w3 (N1.out.s.kept G3.out) (N2.out.s.kept G3.out) HS.out (by omega))
 go_wp2_with fail
 refine SL.out.mono ?_;rintro en w4 ⟨rfl,q4⟩;have G4:=hZq (gZq G3.out (q4.grown none));clear q4 x4 y4;have X4:=hZq (heap_kept X1.out G4.out);have Y4:=hZq (heap_kept Y1.out G4.out);have x5:=cell_heap (i:=5) X4.out rfl;have y5:=cell_heap (i:=5) Y4.out rfl;have SK:=hZq (sameInts10 ka kb kn kc kd (x.ks.map fun (k:Nat)=>(k:Int)) w4 (N1.out.k.kept G4.out) (N2.out.k.kept G4.out) HK.out (by omega))
 go_wp2_with fail
 refine SK.out.mono ?_;rintro en w5 ⟨rfl,q5⟩;have G5:=hZq (gZq G4.out (q5.grown none));clear q5 x5 y5;have X5:=hZq (heap_kept X1.out G5.out);have Y5:=hZq (heap_kept Y1.out G5.out);have x0:=cell_heap (i:=0) X5.out rfl;have y0:=cell_heap (i:=0) Y5.out rfl;have x1:=cell_heap (i:=1) X5.out rfl;have y1:=cell_heap (i:=1) Y5.out rfl;have g0:(no==no)=true:=by simp
 have g1:(lv==lv)=true:=by simp
 go_wp2;go_ret;exact ⟨rfl,gZq HG.out G5.out⟩
theorem sameNodes22 (a b:Option Addr)(n c d:Nat)(xs:List NoT)(w:World)(h1:NlW w a xs)(h2:NlU w b xs)(hn:xs.length=n)(h0:n<=100000000)(hp:∀ x∈xs,x.ps.length<=100000000) :
  Calls Tryz.prog 14 #[.slice a n c,.slice b n d] w fun en w'=>en=.returned (.bool true)/\w.grownBy w' none:=by
 have HL:=hZq h1;have HK:=hZq h2;have HP:=hZq hp;clear h1 h2 hp;have g0:((n:Int)==(n:Int))=true:=by simp
 go_enter Tryz.func14,Tryz.ntmps14;go_wp2;go_loopw [5,6] (fun si _ wr=>∃ i:Nat,i<=n/\si=.int .i64 (i:Nat)/\w.grownBy wr none) (fun si _ _=>n - (intOf si).toNat)
 case atStart=>exact ⟨0,Nat.zero_le _,rfl,World.grownBy.refl _ _⟩
 case round =>
  obtain ⟨i,hi,rfl,hg⟩:=hrel;have HG:=hZq hg;clear hg
  by_cases hlt:i<n
  ·obtain ⟨x,hx⟩:∃ x,xs[i]?=some x:=⟨_,List.getElem?_eq_getElem (by omega)⟩
   obtain ⟨b1,off1,pa1,pc1,ca1,cc1,sa1,sc1,ka1,kc1,rfl,e1⟩:=HL.out i x hx;obtain ⟨b2,off2,pa2,pc2,ca2,cm2,cc2,sa2,sc2,ka2,kc2,rfl,e2⟩:=HK.out i x hx;have f1:=e1.kept HG.out;have f2:=e2.kept HG.out;have HSP:=hZq (fun (W:World) (hW:wr.grownBy W none)=>sameNode22 pa1 ca1 sa1 ka1 pa2 ca2 sa2 ka2 pc1 cc1 sc1 kc1 pc2 cc2 sc2 kc2 x x.ps.length cm2 x.ss.length x.ks.length W (f1.r.kept hW) (f2.r.kept hW) (by rw [List.length_map]) rfl (by rw [List.length_map]) (HP.out x (List.mem_of_getElem? hx)) f1.l1 f1.l2 f1.l3);have x0:=f1.c0;have x1:=f1.c1;have x2:=f1.c2;have x3:=f1.c3;have x4:=f1.c4;have x5:=f1.c5;have y0:=f2.c0;have y1:=f2.c1;have y2:=f2.c2;have y3:=f2.c3;have y4:=f2.c4;have y5:=f2.c5;clear e1 e2 f1 f2 hx;generalize x.ps.length=pn at *;generalize x.ss.length=sn at *;generalize x.ks.length=kn at *;generalize (x.lv:Int)=lv at *;generalize x.no=no at *;have g1:(0:Int)<=(i:Int):=by omega
   have g2:(i:Int)<(n:Int):=by omega
   go_upto_region 6 with fail
   go_region_with ((go_at_call 40;refine (HSP.out wr.drew ((Qt.refl _).drew.grown none)).mono ?_;rintro en w3 ⟨rfl,hg3⟩;have G3:=hZq (gZq HG.out (undrewW hg3));clear hg3))
   all_goals
    go_wp2;go_roundw
    case rel=>exact ⟨i+1,by omega,by go_num,G3.out⟩
    case measure=>simp [intOf];omega
  ·obtain rfl:i=n:=by omega
   go_wp2;go_ret;exact ⟨rfl,HG.out⟩
theorem zr_nmu {w:World}{a:Option Addr}{n c:Nat}{zs:List Int}(h:NmU w a n c zs):n=zs.length/\ZrW w a zs:=by
 have hl:=EsU.len h;rw [List.length_map] at hl;refine ⟨hl.symm,fun i z hz=>?_⟩;obtain ⟨b,off,h1,h2⟩:=EsU.cell h i [.int .i64 z] (by rw [List.getElem?_map,hz];rfl);have h3:=h2 0 _ rfl;rw [Nat.mul_one,Nat.add_zero] at h3;exact ⟨b,off,h1,h3⟩
theorem zip_chains {ps:List (List Int × List Int)}{cs:List (List Int)}(h:cs.length=ps.length):(zipR ps cs).map PrT.chain=cs:=by
 unfold zipR;rw [List.map_map];apply List.ext_getElem?;intro i;rw [List.getElem?_map]
 by_cases hi:i<ps.length
 ·rw [List.getElem?_range hi]
  have hi2:i<cs.length:=by omega
  rw [List.getElem?_eq_getElem hi2];simp [List.getD,List.getElem?_eq_getElem hi2]
 ·rw [List.getElem?_eq_none (by rw [List.length_range];omega),List.getElem?_eq_none (by omega)]
  rfl
theorem zip_none {ps:List (List Int × List Int)}{cs:List (List Int)}(h:cs.length=0):∀ s∈(zipR ps cs).map PrT.chain,s=[]:=fun s hs=>by
 obtain rfl:cs=[]:=List.length_eq_zero_iff.1 h;unfold zipR at hs;rw [List.map_map] at hs;obtain ⟨i,_,rfl⟩:=List.mem_map.1 hs;simp [List.getD]
theorem RnU.nl {w:World}{a:Option Addr}{l:List RnT}{t:TrT}(h:RnU w a l)(hb:BlT l t):NlU w a (tellO (some t)):=fun i x hx=>by
 have hi:=(List.getElem?_eq_some_iff.1 hx).1;obtain ⟨n,hn⟩:∃ n,l[i]?=some n:=⟨_,List.getElem?_eq_getElem (by rw [hb.ln];exact hi)⟩;have he:=hb.eq i n x hn hx;obtain ⟨b,off,pa,pn,pc,ca,cn,cc,sa,sn,sc,ka,kn,kc,h1,h3⟩:=h.at' i n hn
 have hl:pn=x.ps.length:=by
  rw [<- he.ps];unfold zipR;rw [List.length_map,List.length_range];exact h3.ps.len.symm
 have hs:sn=x.ss.length:=by
  rw [<- he.ss];exact h3.ss.len.symm
 obtain ⟨hk0,hkz⟩:=zr_nmu h3.ks;have hk:kn=x.ks.length:=by rw [hk0,he.ks,List.length_map]
 have hcn:=h3.cs.len;have hpn:=h3.ps.len;have k0:=h3.c0;have k1:=h3.c1;rw [he.no] at k0;rw [he.lv] at k1;rw [he.ks] at hkz;subst hl hs hk;refine ⟨b,off,pa,pc,ca,cn,cc,sa,sc,ka,kc,h1,⟨k0,k1,h3.c2,h3.c3,h3.c4,h3.c5,⟨fun j p hp=>?_,?_,fun j s hs=>?_,hkz⟩⟩⟩
 ·rw [<- he.ps] at hp
  unfold zipR at hp;rw [List.getElem?_map] at hp;obtain ⟨j',hj',rfl⟩:=Option.map_eq_some_iff.1 hp;have hjl:=(List.getElem?_eq_some_iff.1 hj').1;rw [List.length_range] at hjl;rw [List.getElem?_range hjl] at hj';obtain rfl:=Option.some.inj hj';obtain ⟨es,q1,q2⟩:=h3.ps.ex;obtain ⟨e,e1,ka',kn',kc',va',vn',vc',rfl,b1,b2⟩:=q2.get (List.getElem?_eq_getElem hjl);obtain ⟨g,off',e4,e5⟩:=q1.cell j _ e1;have r1:=b1.b.len;have r2:=b2.b.len;have x1:=e5 0 _ rfl;have x2:=e5 1 _ rfl;have y1:=b1.b;have y2:=b2.b;have z1:n.ps.getD j ([],[])=n.ps[j]:=by simp [List.getD,List.getElem?_eq_getElem hjl]
  simp only [z1];obtain rfl:kn'=n.ps[j].1.length:=by omega
  obtain rfl:vn'=n.ps[j].2.length:=by omega
  exact ⟨g,off',ka',kc',va',vc',e4,x1,x2,y1,y2⟩
 ·rcases he.cl with h0 | h0
  ·refine .inr ⟨by omega,?_⟩
   rw [<- he.ps];exact zip_none h0
  ·refine .inl ⟨by omega,?_⟩
   rw [<- he.ps,zip_chains h0];intro j s hs;obtain ⟨es,q1,q2⟩:=h3.cs.ex;obtain ⟨e,e1,a',n',c',rfl,b1⟩:=q2.get hs;obtain ⟨g,off',e4,e5⟩:=q1.cell j _ e1;obtain ⟨rfl,z1⟩:=zr_nmu b1;have x1:=e5 0 _ rfl;rw [Nat.mul_one,Nat.add_zero] at x1;exact ⟨g,off',a',c',e4,x1,z1⟩
 ·rw [<- he.ss] at hs
  obtain ⟨g,off',ao,m,d,q1,q2,q3⟩:=h3.ss.str hs;have r:=q3.b.len;obtain rfl:m=s.length:=by omega
  exact ⟨g,off',ao,d,q1,q2,q3.b⟩
theorem plain_int22:Tryz.prog.plainKey 3=true:=by kernel_rfl
theorem part_f64 {xs:Array Value}{off:Nat}{v:Value}(hx:xs[off]?=some v)(w:World):(part 26 xs off).run Tryz.prog w=.ok v w:=by
 simp [part,isAgg,run_underlying Tryz.underlying26,hx]
theorem run_equalIn_f64 (d:Nat)(a:Nat)(w:World)(h:FloatKind.f64.format.order a a=some .eq):(Op.equalIn (d+1) 26 (.float .f64 a) (.float .f64 a)).run Tryz.prog w=.ok true w:=by
 simp [Op.equalIn,run_underlying Tryz.underlying26,Op.floatEq,h]
theorem eqFields_yes (d:Nat)(xs ys:Array Value)(w:World):∀ fs:List Field,(∀ g∈fs,∃ u v,(part g.type xs g.offset).run Tryz.prog w=.ok u w/\(part g.type ys g.offset).run Tryz.prog w=.ok v w/\(Op.equalIn d g.type u v).run Tryz.prog w=.ok true w) ->
  (Op.eqFields d xs ys fs).run Tryz.prog w=.ok true w
 | [],_=>by simp [Op.eqFields]
 | g::fs,h=>by
  obtain ⟨u,v,h1,h2,h3⟩:=h g List.mem_cons_self;have ih:=eqFields_yes d xs ys w fs (fun j hj=>h j (List.mem_cons_of_mem _ hj))
  by_cases hn:g.name= "_"
  ·simp only [Op.eqFields,hn,ne_eq,not_true_eq_false,if_false]
   exact ih
  ·simp only [Op.eqFields,hn,ne_eq,not_false_eq_true,if_true,Sem.run_bind,h1,h2,h3,Result.andThen_ok,Bool.not_true,Bool.false_eq_true,if_false]
   exact ih
theorem ssum_fields:Tryz.prog.underlying 28=some (.struct (Tryz.prog.fieldsOf 28)):=by kernel_rfl
theorem ssum_held:Tryz.prog.stoodInHeld 28=false:=by kernel_rfl
theorem eql_sum (a b c d e:Int)(f:Nat)(w:World)(hf:FloatKind.f64.format.order f f=some .eq):(binOp .eql 28 (.agg #[.int .i64 a,.int .i64 b,.int .i64 c,.int .i64 d,.int .i64 e,.float .f64 f]) (.agg #[.int .i64 a,.int .i64 b,.int .i64 c,.int .i64 d,.int .i64 e,.float .f64 f])).run Tryz.prog w=.ok (.bool true) w:=by
 obtain ⟨F,hF⟩:∃ F,F=Tryz.prog.fieldsOf 28:=⟨_,rfl⟩;have hu:=ssum_fields;rw [Tryz.underlying28,<- hF] at hu;rw [run_eql_struct,show (10000:Nat)=9999+1 from rfl,run_equalIn_struct w 9999 28 _ _ ssum_fields ssum_held,<- hF];have hf2:=(TypeDesc.struct.inj (Option.some.inj hu)).symm;subst hf2
 have PI:∀ (v:Int) (i:Nat),(#[.int .i64 a,.int .i64 b,.int .i64 c,.int .i64 d,.int .i64 e,.float .f64 f]:Array Value)[i]?=some (.int .i64 v)->(∃ u v',(part 3 #[.int .i64 a,.int .i64 b,.int .i64 c,.int .i64 d,.int .i64 e,.float .f64 f] i).run Tryz.prog w=.ok u w/\(part 3 #[.int .i64 a,.int .i64 b,.int .i64 c,.int .i64 d,.int .i64 e,.float .f64 f] i).run Tryz.prog w=.ok v' w/\(Op.equalIn 9999 3 u v').run Tryz.prog w=.ok true w):=fun v i hv=>⟨_,_,run_part_plain w plain_int22 hv,run_part_plain w plain_int22 hv,by
  rw [show (9999:Nat)=9998+1 from rfl,run_equalIn_int w 9998 3 .i64 .i64 v v Tryz.underlying3];simp⟩
 rw [eqFields_yes 9999 _ _ w _ (by
  intro g hg;simp at hg;rcases hg with rfl | rfl | rfl | rfl | rfl | rfl
  ·exact PI a 0 rfl
  ·exact PI b 1 rfl
  ·exact PI c 2 rfl
  ·exact PI d 3 rfl
  ·exact PI e 4 rfl
  ·exact ⟨_,_,part_f64 (v:=.float .f64 f) rfl w,part_f64 (v:=.float .f64 f) rfl w,run_equalIn_f64 9998 f w hf⟩)]
 rfl
theorem guard_sum (x y:Operand)(xs ys:Array Value)(w:World):(eqGuard .eql 28 x y (.agg xs) (.agg ys)).run Tryz.prog w=.ok () w :=
 run_eqGuard_agg w .eql 28 x y _ _ (by kernel_rfl)
theorem sum_order {t:Option TrT}{n:Nat}(h:TrS t)(hn:(tellO t).length<=n)(hb:n<=3000):FloatKind.f64.format.order (if sumT pgN (tellO t)=0 then 0 else quW (sumT usN (tellO t)) (sumT pgN (tellO t)*4092)) (if sumT pgN (tellO t)=0 then 0 else quW (sumT usN (tellO t)) (sumT pgN (tellO t)*4092))=some .eq:=by
 have hp:∀ x∈tellO t,usN x<=536350716/\pgN x<=132991:=fun x hx=>by
  have sz:=h.sz x hx;have b1:=sumT_bound22 (f:=fun p:PrT=>chN p.val.length) (c:=65) x.ps (fun q hq=>ch_le65 (sz.pv q hq).2.1);have b2:=sumT_bound22 (f:=fun p:PrT=>if 512<p.val.length then p.val.length else 0) (c:=262144) x.ps (fun q hq=>Nat.le_trans (ite_le22 _) (sz.pv q hq).2.1);have:=sz.pn;have:=sz.hi;unfold usN pgN;omega
 have b1:=sumT_bound22 (f:=usN) (c:=536350716) (tellO t) (fun x hx=>(hp x hx).1);have b2:=sumT_bound22 (f:=pgN) (c:=132991) (tellO t) (fun x hx=>(hp x hx).2)
 by_cases h0:sumT pgN (tellO t)=0
 ·rw [if_pos h0]
  exact order_self (Nat.zero_le _)
 ·rw [if_neg h0]
  exact order_self (qu_some (a:=sumT usN (tellO t)) (b:=sumT pgN (tellO t)*4092) (by omega) (by omega) (by omega)).2
end Go.Proofs.YteaahinjcfjngaaGreat
