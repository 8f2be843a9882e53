import Derived.ProofKit
import Derived.LaidMore
import Derived.OpenShut
import Derived.Stop.Joined
import Derived.Test.YtgldkdbkaachkaaGreatDoorRows
import Derived.Lib.LaidU8
import Derived.Lib.LaidTab
import Derived.ChangeSame
import Derived.Test.YtgldkdbkaachkaaGreatDoorK33
import Derived.Test.YtgldkdbkaachkaaGreatDoorK39
set_option maxRecDepth 100000
set_option maxHeartbeats 1000000
namespace Go.Proofs.YtgldkdbkaachkaaGreatDoor
open Go.ChangeShapes Go.WideShapes Go.ChangeAt Go.WideMaps Go.WideElems Go.RowKit
theorem XH:Tryz.prog.globalNamed "coppice/meta.frontMark"=some 0:=by kernel_rfl
theorem agx:Tryz.prog.globalNamed "coppice/meta.endMark"=some 1:=by kernel_rfl
theorem XI:(Tryz.prog.globals[0]?).map (·.type)=some 221:=by kernel_rfl
theorem agy:(Tryz.prog.globals[1]?).map (·.type)=some 101:=by kernel_rfl
theorem vB {W:World}{f:Nat}{t N:Nat}{cs:Array Value}{p:List MemPlace}{ys:List Int}{D:DataW Unit}(hu:Tryz.prog.underlying t=some (.array N 5))
  (hd:DataW.trod (fun _=>()) Tryz.prog W 0 (fun _=>true) false f t cs.toList=some (D,p)) (hD:D=.agg (ys.map fun z=>.lit (.int .u8 z))) (hN:ys.length=N):∀ i,i<N->cs[i]?=some (.int .u8 (ys.getD i 0)):=by
 obtain ⟨xs,m1,rfl,hx1,hlen,hn3,hel⟩:=DataW.trod_array hu hd;have c3:Tryz.prog.cellsOf 5=1:=by kernel_rfl
 intro i hi;have h0:=hel i hi;rw [c3,Nat.mul_one] at h0;obtain ⟨x,hx⟩:∃ x,xs[i]?=some x:=⟨_,List.getElem?_eq_getElem (by omega)⟩;rw [hx] at h0;obtain ⟨k,e1,e2,_⟩:=DataW.trod_int Tryz.underlying5 h0;have hm:(xs.map (fun x=>x.fst))[i]?=some (.lit (.int .u8 k)):=by rw [List.getElem?_map,hx,e2];rfl
 rw [hD] at hx1;simp only [Prod.mk.injEq,DataW.agg.injEq] at hx1;rw [<- hx1.1,List.getElem?_map,List.getElem?_eq_getElem (by omega)] at hm
 have hk:ys.getD i 0=k:=by
  have:ys[i]'(by omega)=k:=by simpa using hm
  simp [List.getD,List.getElem?_eq_getElem (show i<ys.length by omega),this]
 rw [hk];have e3:=congrArg (fun l=>l[0]?) e1;rw [<- Array.getElem?_toList];simpa using e3
end Go.Proofs.YtgldkdbkaachkaaGreatDoor
namespace Go.Proofs.YtgldkdbkaachkaaGreatDoor
open Go.ChangeShapes Go.WideShapes Go.ChangeAt Go.WideMaps Go.WideElems Go.RowKit
theorem agz:Tryz.prog.globalNamed "coppice/crc.fourSteps"=some 2:=by kernel_rfl
theorem agA:(Tryz.prog.globals[2]?).map (·.type)=some 261:=by kernel_rfl
theorem TN:∀ i,i<16->∃ xs:List (DataW Unit),Rows.laid_coppice_crc_fourSteps (H:=Unit)=.agg xs/\xs[i]?=some (.lit (.int .u32 ((tab.getD i 0:Nat):Int)))
 | 0,_=>⟨_,rfl,rfl⟩
 | 1,_=>⟨_,rfl,rfl⟩
 | 2,_=>⟨_,rfl,rfl⟩
 | 3,_=>⟨_,rfl,rfl⟩
 | 4,_=>⟨_,rfl,rfl⟩
 | 5,_=>⟨_,rfl,rfl⟩
 | 6,_=>⟨_,rfl,rfl⟩
 | 7,_=>⟨_,rfl,rfl⟩
 | 8,_=>⟨_,rfl,rfl⟩
 | 9,_=>⟨_,rfl,rfl⟩
 | 10,_=>⟨_,rfl,rfl⟩
 | 11,_=>⟨_,rfl,rfl⟩
 | 12,_=>⟨_,rfl,rfl⟩
 | 13,_=>⟨_,rfl,rfl⟩
 | 14,_=>⟨_,rfl,rfl⟩
 | 15,_=>⟨_,rfl,rfl⟩
 | n+16,h=>absurd h (by omega)
end Go.Proofs.YtgldkdbkaachkaaGreatDoor
namespace Go.Proofs.YtgldkdbkaachkaaGreatDoor
open Go.ChangeShapes Go.WideShapes Go.ChangeAt Go.WideMaps Go.WideElems Go.RowKit
theorem Lp (os:Os)(args:Array Value):laidMetH Tryz.prog [("math/bits.deBruijn32tab",Rows.laid_math_bits_deBruijn32tab),("math/bits.deBruijn64tab",Rows.laid_math_bits_deBruijn64tab),("internal/strconv.uint64pow10",Rows.laid_internal_strconv_uint64pow10),("coppice/crc.fourSteps",Rows.laid_coppice_crc_fourSteps),("coppice/meta.frontMark",Rows.laid_coppice_meta_frontMark),("coppice/meta.endMark",Rows.laid_coppice_meta_endMark)] ((World.doorLaid Tryz.prog 400 os).forCall (fun _ _=>0) ⟨#[],args,[]⟩).memory :=
 laidMetH_of_parts3 (fuel:=8) (laidMet_of_run' 8 (by kernel_rfl) (by kernel_rfl)) (by kernel_rfl) (by kernel_rfl)
theorem Lt {W:World}{f:Nat}{cs:Array Value}{p:List MemPlace}(hd0:DataW.trod (fun _=>()) Tryz.prog W 0 (fun _=>true) false f 261 cs.toList=some (Rows.laid_coppice_crc_fourSteps,p))(hv:∀ i,W.cell? ⟨2,i,none⟩=cs[i]?):pA W:=by
 obtain ⟨xs,m1,rfl,hx1,hlen,hn3,hel⟩:=DataW.trod_array Tryz.underlying261 hd0;have c3:Tryz.prog.cellsOf 96=1:=by kernel_rfl
 intro i hi;have h0:=hel i hi;rw [c3,Nat.mul_one] at h0;obtain ⟨x,hx⟩:∃ x,xs[i]?=some x:=⟨_,List.getElem?_eq_getElem (by omega)⟩;rw [hx] at h0;obtain ⟨k,e1,e2,_⟩:=DataW.trod_int Tryz.underlying96 h0;have hm:(xs.map (fun x=>x.fst))[i]?=some (.lit (.int .u32 k)):=by rw [List.getElem?_map,hx,e2];rfl
 obtain ⟨ys,hy,hyi⟩:=TN i hi;rw [hy] at hx1;simp only [Prod.mk.injEq,DataW.agg.injEq] at hx1;rw [<- hx1.1,hyi] at hm;have hk:((tab.getD i 0:Nat):Int)=k:=by simpa using hm
 rw [hk,hv i];have e3:=congrArg (fun l=>l[0]?) e1;rw [<- Array.getElem?_toList];simpa using e3
theorem Pt:(Rows.laid_internal_strconv_uint64pow10:DataW Unit)=Lib.tabData .u64 Lib.pow10Tab:=by kernel_rfl
theorem vC {W:World}(hL:laidMetH Tryz.prog [("math/bits.deBruijn32tab",Rows.laid_math_bits_deBruijn32tab),("math/bits.deBruijn64tab",Rows.laid_math_bits_deBruijn64tab),("internal/strconv.uint64pow10",Rows.laid_internal_strconv_uint64pow10),("coppice/crc.fourSteps",Rows.laid_coppice_crc_fourSteps),("coppice/meta.frontMark",Rows.laid_coppice_meta_frontMark),("coppice/meta.endMark",Rows.laid_coppice_meta_endMark)] W):pA W/\Mk W/\Tz W:=by
 have h:laidMet Tryz.prog [("math/bits.deBruijn32tab",Rows.laid_math_bits_deBruijn32tab),("math/bits.deBruijn64tab",Rows.laid_math_bits_deBruijn64tab),("internal/strconv.uint64pow10",Rows.laid_internal_strconv_uint64pow10),("coppice/crc.fourSteps",Rows.laid_coppice_crc_fourSteps),("coppice/meta.frontMark",Rows.laid_coppice_meta_frontMark),("coppice/meta.endMark",Rows.laid_coppice_meta_endMark)] W:=hL;refine ⟨?_,?_,?_⟩
 ·obtain ⟨g,t,cs,fuel,p,h1,h2,h3,h4⟩:=Lib.laidMet.reads h (n:= "coppice/crc.fourSteps") (d:=Rows.laid_coppice_crc_fourSteps) (by simp)
  obtain rfl:=Option.some.inj (agz.symm.trans h1);obtain rfl:=Option.some.inj (agA.symm.trans h2);exact Lt h4 (World.var?_cell h1 h3)
 ·obtain ⟨g0,t0,cs0,f0,p0,hg0,Dq,hv0,hd0⟩:=Lib.laidMet.reads h (n:= "coppice/meta.frontMark") (d:=Rows.laid_coppice_meta_frontMark) (by simp)
  obtain ⟨g1,t1,cs1,f1,p1,hg1,ht1,YO,hd1⟩:=Lib.laidMet.reads h (n:= "coppice/meta.endMark") (d:=Rows.laid_coppice_meta_endMark) (by simp);obtain rfl:=Option.some.inj (XH.symm.trans hg0);obtain rfl:=Option.some.inj (XI.symm.trans Dq);obtain rfl:=Option.some.inj (agx.symm.trans hg1);obtain rfl:=Option.some.inj (agy.symm.trans ht1);have b0:=vB (ys:=[99,111,112]) Tryz.underlying221 hd0 rfl rfl;have b1:=vB (ys:=[101,110,100,46]) Tryz.underlying101 hd1 rfl rfl;have v0:=World.var?_cell hg0 hv0;have v1:=World.var?_cell hg1 YO;exact ⟨(v0 0).trans (b0 0 (by decide)),(v0 1).trans (b0 1 (by decide)),(v0 2).trans (b0 2 (by decide)),(v1 0).trans (b1 0 (by decide)),(v1 1).trans (b1 1 (by decide)),(v1 2).trans (b1 2 (by decide)),(v1 3).trans (b1 3 (by decide))⟩
 ·have hr:=Lib.laidMet.reads h (n:= "internal/strconv.uint64pow10") (d:=Rows.laid_internal_strconv_uint64pow10) (by simp)
  rw [Pt] at hr;obtain ⟨g,t,cs,fuel,p,h1,h2,h3,h4⟩:=hr;obtain rfl:=Option.some.inj (vt.symm.trans h1);have ht:(Tryz.prog.globals[3]?).map (·.type)=some 280:=by kernel_rfl
  obtain rfl:=Option.some.inj (ht.symm.trans h2);unfold Tz Lib.TabIs;rw [h3];rw [<- Lib.cells_of_tab (n:=20) (e:=110) Tryz.underlying280 Tryz.underlying110 (by kernel_rfl) (by kernel_rfl) h4]
end Go.Proofs.YtgldkdbkaachkaaGreatDoor
namespace Go.Proofs.YtgldkdbkaachkaaGreatDoor
open Go.ChangeShapes Go.WideShapes Go.ChangeAt Go.WideMaps Go.WideElems Go.RowKit
theorem TP {H:Type}{enc:TypeId × Value->H}{P:Program}{w:World}{base:Nat}{spare:Nat->Bool}{held:Bool}{t:TypeId}{f0 f1 f2 f3 f4 f5 f6:Field}{fuel:Nat}{cs:List Value}{x:DataW H × List MemPlace}(ht:P.underlying t=some (.struct #[f0,f1,f2,f3,f4,f5,f6]))(h:DataW.trod enc P w base spare held fuel t cs=some x) :
  ∃ y0 y1 y2 y3 y4 y5 y6 n,cs.length=P.cellsOf t/\DataW.trod enc P w base spare held n f0.type ((cs.drop f0.offset).take (P.cellsOf f0.type))=some y0/\DataW.trod enc P w base spare held n f1.type ((cs.drop f1.offset).take (P.cellsOf f1.type))=some y1 /\
   DataW.trod enc P w base spare held n f2.type ((cs.drop f2.offset).take (P.cellsOf f2.type))=some y2/\DataW.trod enc P w base spare held n f3.type ((cs.drop f3.offset).take (P.cellsOf f3.type))=some y3/\DataW.trod enc P w base spare held n f4.type ((cs.drop f4.offset).take (P.cellsOf f4.type))=some y4 /\
   DataW.trod enc P w base spare held n f5.type ((cs.drop f5.offset).take (P.cellsOf f5.type))=some y5/\DataW.trod enc P w base spare held n f6.type ((cs.drop f6.offset).take (P.cellsOf f6.type))=some y6:=by
 obtain ⟨xs,n,_,rfl,hl,hlen,hf⟩:=DataW.trod_struct ht h
 match xs,hlen with
 | [y0,y1,y2,y3,y4,y5,y6],_=>exact ⟨y0,y1,y2,y3,y4,y5,y6,n,hl,by simpa using hf 0 f0 rfl,by simpa using hf 1 f1 rfl,by simpa using hf 2 f2 rfl,by simpa using hf 3 f3 rfl,by simpa using hf 4 f4 rfl,by simpa using hf 5 f5 rfl,by simpa using hf 6 f6 rfl⟩
theorem vF:Tryz.prog.cellsOf 28=7:=by kernel_rfl
end Go.Proofs.YtgldkdbkaachkaaGreatDoor
namespace Go.Proofs.YtgldkdbkaachkaaGreatDoor
open Go.ChangeShapes Go.WideShapes Go.ChangeAt Go.WideMaps Go.WideElems Go.RowKit Go.Deep
theorem TQ {H:Type}{enc:TypeId × Value->H}{P:Program}{w:World}{base:Nat}{spare:Nat->Bool}{held:Bool}{t:TypeId}{f0 f1 f2 f3 f4 f5 f6 f7 f8:Field}{fuel:Nat}{cs:List Value}{x:DataW H × List MemPlace}(ht:P.underlying t=some (.struct #[f0,f1,f2,f3,f4,f5,f6,f7,f8]))(h:DataW.trod enc P w base spare held fuel t cs=some x) :
  ∃ n,cs.length=P.cellsOf t/\∀ f∈[f0,f1,f2,f3,f4,f5,f6,f7,f8],∃ y,DataW.trod enc P w base spare held n f.type ((cs.drop f.offset).take (P.cellsOf f.type))=some y:=by
 obtain ⟨xs,n,_,rfl,hl,hlen,hf⟩:=DataW.trod_struct ht h;refine ⟨n,hl,fun f hm=>?_⟩
 match xs,hlen with
 | [y0,y1,y2,y3,y4,y5,y6,y7,y8],_ =>
  simp only [List.mem_cons,List.not_mem_nil,or_false] at hm;rcases hm with rfl | rfl | rfl | rfl | rfl | rfl | rfl | rfl | rfl
  ·exact ⟨y0,by simpa using hf 0 _ rfl⟩
  ·exact ⟨y1,by simpa using hf 1 _ rfl⟩
  ·exact ⟨y2,by simpa using hf 2 _ rfl⟩
  ·exact ⟨y3,by simpa using hf 3 _ rfl⟩
  ·exact ⟨y4,by simpa using hf 4 _ rfl⟩
  ·exact ⟨y5,by simpa using hf 5 _ rfl⟩
  ·exact ⟨y6,by simpa using hf 6 _ rfl⟩
  ·exact ⟨y7,by simpa using hf 7 _ rfl⟩
  ·exact ⟨y8,by simpa using hf 8 _ rfl⟩
theorem jB {H:Type}{enc:TypeId × Value->H}{w:World}{base:Nat}{sp:Nat->Bool}{held:Bool}{fuel:Nat}{t e:TypeId}{cs:List Value}{x:DataW H × List MemPlace}(ht:Tryz.prog.underlying t=some (.slice e))(h:DataW.trod enc Tryz.prog w base sp held fuel t cs=some x):∃ a l c,cs=[.slice a l c]:=by
 rcases open_slice ht h with ⟨hcs,_⟩ | ⟨ad,l,c,m,n,D,Pc,hcs,_⟩
 ·exact ⟨_,_,_,hcs⟩
 ·exact ⟨_,_,_,hcs⟩
theorem Dd:Tryz.prog.cellsOf 22=1:=by kernel_rfl
theorem FX:Tryz.prog.cellsOf 23=1:=by kernel_rfl
theorem FY:Tryz.prog.cellsOf 24=1:=by kernel_rfl
theorem FZ:Tryz.prog.cellsOf 26=1:=by kernel_rfl
theorem Gc:Tryz.prog.cellsOf 30=15:=by kernel_rfl
theorem Gd {H:Type}{enc:TypeId × Value->H}{w:World}{base:Nat}{sp:Nat->Bool}{held:Bool}{fuel:Nat}{cs:List Value}{x:DataW H × List MemPlace}(h:DataW.trod enc Tryz.prog w base sp held fuel 28 cs=some x) :
  ∃ H:Hd,cs=[.int .i64 H.v,.int .i64 H.c,.int .i64 H.r,.int .i64 H.h,.int .i64 H.k,.int .i64 H.f,.int .i64 H.n]:=by
 obtain ⟨y0,y1,y2,y3,y4,y5,y6,n,hl,h0,h1,h2,h3,h4,h5,h6⟩:=TP Tryz.underlying28 h;obtain ⟨x0,e0,_,_⟩:=DataW.trod_int Tryz.underlying3 h0;obtain ⟨x1,e1,_,_⟩:=DataW.trod_int Tryz.underlying3 h1;obtain ⟨x2,e2,_,_⟩:=DataW.trod_int Tryz.underlying3 h2;obtain ⟨x3,e3,_,_⟩:=DataW.trod_int Tryz.underlying3 h3;obtain ⟨x4,e4,_,_⟩:=DataW.trod_int Tryz.underlying3 h4;obtain ⟨x5,e5,_,_⟩:=DataW.trod_int Tryz.underlying3 h5;obtain ⟨x6,e6,_,_⟩:=DataW.trod_int Tryz.underlying3 h6;simp only [lF] at e0 e1 e2 e3 e4 e5 e6;rw [vF] at hl
 match cs,hl with
 | [a0,a1,a2,a3,a4,a5,a6],_ =>
  simp at e0 e1 e2 e3 e4 e5 e6;exact ⟨⟨x0,x1,x2,x3,x4,x5,x6⟩,by rw [e0,e1,e2,e3,e4,e5,e6]⟩
theorem Ge {H:Type}{enc:TypeId × Value->H}{w:World}{base:Nat}{held:Bool}{fuel:Nat}{a:Option Addr}{len cap:Nat}{x:DataW H × List MemPlace}
  (h:DataW.trod enc Tryz.prog w base (fun _=>true) held fuel 26 [.slice a len cap]=some x):∃ L,Nt w a L/\L.length=len/\len<=cap/\cap<=9223372036854775807:=by
 rcases open_ints Tryz.underlying26 Tryz.underlying3 (by kernel_rfl) h with ⟨hcs,_⟩ | ⟨x,l,c,zs,hcs,_,hl,hm,hz,hx,hcell,hwz⟩
 ·simp at hcs
  obtain ⟨rfl,rfl,rfl⟩:=hcs;exact ⟨[],Nt.zero w _,rfl,Nat.le_refl _,by omega⟩
 ·simp at hcs
  obtain ⟨rfl,rfl,rfl⟩:=hcs;have hz':zs.length=cap:=by simpa using hz
  exact ⟨_,JJ hl hz' hcell,by rw [List.length_take];omega,hl,by unfold maxLen at hm;omega⟩
theorem Lu {H:Type}{enc:TypeId × Value->H}{w:World}{base:Nat}{held:Bool}{r:Reach}{b0:Nat}{v:Value}{d:DataW H}{ps:List MemPlace}(hval:Value.okWide Tryz.prog w r b0 30 v)(hd:DataW.Trod enc Tryz.prog w base (fun _=>true) held 30 v d ps) :
  ∃ (x:Pv) (p:Pg),v=.agg #[.int .i64 x.k,.slice x.i.a x.i.n x.i.c,.int .i64 x.l,.slice x.s.a x.s.n x.s.c,.slice x.d.a x.d.n x.d.c,.int .i64 x.x,.slice x.b.a x.b.n x.b.c,.slice x.t.a x.t.n x.t.c,.int .i64 x.h.v,.int .i64 x.h.c,.int .i64 x.h.r,.int .i64 x.h.h,.int .i64 x.h.k,.int .i64 x.h.f,.int .i64 x.h.n]/\Pm w x p/\Pr8 x:=by
 obtain ⟨cs,rfl,hsz⟩:=okWide_struct Tryz.underlying30 hval;obtain ⟨fuel,h⟩:=hd;obtain ⟨n,hl,hf⟩:=TQ Tryz.underlying30 h;clear h;obtain ⟨y0,h0⟩:=hf _ (List.mem_cons_self);obtain ⟨y1,h1⟩:=hf _ (List.mem_cons_of_mem _ List.mem_cons_self);obtain ⟨y2,h2⟩:=hf _ (List.mem_cons_of_mem _ (List.mem_cons_of_mem _ List.mem_cons_self));obtain ⟨y3,h3⟩:=hf _ (List.mem_cons_of_mem _ (List.mem_cons_of_mem _ (List.mem_cons_of_mem _ List.mem_cons_self)));obtain ⟨y4,h4⟩:=hf _ (List.mem_cons_of_mem _ (List.mem_cons_of_mem _ (List.mem_cons_of_mem _ (List.mem_cons_of_mem _ List.mem_cons_self))));obtain ⟨y5,h5⟩:=hf _ (List.mem_cons_of_mem _ (List.mem_cons_of_mem _ (List.mem_cons_of_mem _ (List.mem_cons_of_mem _ (List.mem_cons_of_mem _ List.mem_cons_self)))));obtain ⟨y6,h6⟩:=hf _ (List.mem_cons_of_mem _ (List.mem_cons_of_mem _ (List.mem_cons_of_mem _ (List.mem_cons_of_mem _ (List.mem_cons_of_mem _ (List.mem_cons_of_mem _ List.mem_cons_self))))));obtain ⟨y7,h7⟩:=hf _ (List.mem_cons_of_mem _ (List.mem_cons_of_mem _ (List.mem_cons_of_mem _ (List.mem_cons_of_mem _ (List.mem_cons_of_mem _ (List.mem_cons_of_mem _ (List.mem_cons_of_mem _ List.mem_cons_self)))))));obtain ⟨y8,h8⟩:=hf _ (List.mem_cons_of_mem _ (List.mem_cons_of_mem _ (List.mem_cons_of_mem _ (List.mem_cons_of_mem _ (List.mem_cons_of_mem _ (List.mem_cons_of_mem _ (List.mem_cons_of_mem _ (List.mem_cons_of_mem _ List.mem_cons_self))))))));clear hf;obtain ⟨k0,e0,_,_⟩:=DataW.trod_int Tryz.underlying3 h0;obtain ⟨k2,e2,_,_⟩:=DataW.trod_int Tryz.underlying3 h2;obtain ⟨k5,e5,_,_⟩:=DataW.trod_int Tryz.underlying3 h5;obtain ⟨a1,n1,c1,e1⟩:=jB Tryz.underlying22 h1;obtain ⟨a3,n3,c3,e3⟩:=jB Tryz.underlying23 h3;obtain ⟨a4,n4,c4,e4⟩:=jB Tryz.underlying24 h4;obtain ⟨a7,n7,c7,e7⟩:=jB Tryz.underlying26 h7;obtain ⟨a6,n6,c6,z6,e6,b6,t6,l6,m6⟩:=js h6;obtain ⟨Hh,e8⟩:=Gd h8;rw [e1] at h1;rw [e3] at h3;rw [e4] at h4;rw [e7] at h7;obtain ⟨L1,i1,i2,i3,i4,i5⟩:=Ex h1;obtain ⟨L3,s1,s2,s3,s4,s5⟩:=Ey h3;obtain ⟨L4,d1,d2,d3,d4,d5⟩:=JC h4;obtain ⟨L7,t1,t2,t3,t4⟩:=Ge h7;simp only [lF,Dd,FX,FY,kO,FZ,vF,Value.cells] at e0 e1 e2 e3 e4 e5 e6 e7 e8;obtain ⟨l⟩:=cs;rw [Gc] at hsz
 match l,hsz with
 | [q0,q1,q2,q3,q4,q5,q6,q7,q8,q9,zY,DY,q12,q13,q14],_ =>
  simp at e0 e1 e2 e3 e4 e5 e6 e7 e8;obtain ⟨f0,f1,f2,f3,f4,f5,f6⟩:=e8;refine ⟨⟨k0,⟨a1,n1,c1⟩,k2,⟨a3,n3,c3⟩,⟨a4,n4,c4⟩,k5,⟨a6,n6,c6⟩,⟨a7,n7,c7⟩,Hh⟩,⟨k0,L1,k2,L3,L4,k5,z6,L7,Hh⟩,?_,?_,?_⟩
  ·rw [e0,e1,e2,e3,e4,e5,e6,e7,f0,f1,f2,f3,f4,f5,f6]
  ·exact ⟨rfl,rfl,rfl,rfl,i1,i2,i3,by show n1<=_;omega,s1,s2,s3,by show n3<=_;omega,d1,d3,by show n4<=_;omega,b6,t6,by show n6<=_;omega,t1,t2,by show n7<=_;omega⟩
  ·exact ⟨⟨i4,i5⟩,⟨s4,s5⟩,⟨d4,d5⟩,⟨l6,m6⟩,⟨t3,t4⟩⟩
end Go.Proofs.YtgldkdbkaachkaaGreatDoor
namespace Go.Proofs.YtgldkdbkaachkaaGreatDoor
open Go.RowKit
theorem GY.en {w:World}{base:Nat}{y:Pv}{p:Pg}{b:Yw}(h:GY w base y p b)(hf:Fits p):qW y p:=⟨by have:=hf.items;omega,by have:=hf.aj;omega,by have:=hf.kids;omega,h.pm.2.s,by have:=hf.list;omega⟩
end Go.Proofs.YtgldkdbkaachkaaGreatDoor
