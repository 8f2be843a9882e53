import Derived.Test.YtgldkdbkaachkaaGreatDoorK18
import Derived.Laws.EntriesVeiled
set_option maxRecDepth 100000
set_option maxHeartbeats 8000000
namespace Go.Proofs.YtgldkdbkaachkaaGreatDoor
open Go.RowKit
variable {cur k:Array Value}{e lv nx:Int}{L:List (List Int)}{D zs:List Int}{xs ys:List Value}{A N P Q T U b base c c1 cap g g1 h i m n q sz:Nat}{gk gs gv:Nat->Nat × Nat}{a:Option Addr}{t:TypeId}{d v:Value}{w w' wr:World}
structure Kv where
 no:Int
 e:Nat
 d:Nat
 s:Nat
def PW:Kv:=⟨1,122,123,124⟩
def kv2:Kv:=⟨2,125,126,127⟩
def kv3:Kv:=⟨3,128,129,130⟩
def kv4:Kv:=⟨4,131,132,133⟩
def kv5:Kv:=⟨5,134,135,136⟩
def WZ:List Kv:=[PW,kv2,kv3,kv4,kv5]
def Cu (k:Kv):Array Value:=#[.int .i64 k.no,.func (.func k.e) #[] #[],.func (.func k.d) #[] #[],.func (.func k.s) #[] #[]]
def PX:Array Value:=#[.int .i64 0,.nilFunc,.nilFunc,.nilFunc]
def eW (w:World)(T:Nat)(c:Array Value):Prop:=w.heap[T]?=some (.cells c 73 (0,0))
def Kw (w:World)(G:Nat):Prop:=w.heap[G]?=some (.cells (Cu PW++(Cu kv2++(Cu kv3++(Cu kv4++Cu kv5)))) 73 (0,0))
theorem eW.lt (h:eW w T k):T<w.heap.size:=(Array.getElem?_eq_some_iff.1 h).1
theorem Kw.lt (h:Kw w T):T<w.heap.size:=(Array.getElem?_eq_some_iff.1 h).1
theorem eW.kept {row:Option Nat}(h:eW w T k)(hg:w.grownBy w' row)(hne:some T≠row):eW w' T k:=(hg.block T h.lt hne).trans h
theorem eW.ae (h:eW w T k)(hg:w.grownBy w' none):eW w' T k:=h.kept hg (by simp)
theorem Kw.kept {row:Option Nat}(h:Kw w T)(hg:w.grownBy w' row)(hne:some T≠row):Kw w' T:=(hg.block T h.lt hne).trans h
theorem eW.cells {w:World}{k:Kv}(h:eW w T (Cu k)):w.cell? ⟨T,0,none⟩=some (.int .i64 k.no)/\w.cell? ⟨T,1,none⟩=some (.func (.func k.e) #[] #[])/\w.cell? ⟨T,2,none⟩=some (.func (.func k.d) #[] #[])/\w.cell? ⟨T,3,none⟩=some (.func (.func k.s) #[] #[]):=by
 refine ⟨?_,?_,?_,?_⟩
 all_goals (rw [cell_of_row w T _ _ _ _ h];rfl)
theorem eW.Va (h:eW w T PX):w.cell? ⟨T,0,none⟩=some (.int .i64 0)/\w.cell? ⟨T,1,none⟩=some .nilFunc/\w.cell? ⟨T,2,none⟩=some .nilFunc/\w.cell? ⟨T,3,none⟩=some .nilFunc:=by
 refine ⟨?_,?_,?_,?_⟩
 all_goals (rw [cell_of_row w T _ _ _ _ h];rfl)
theorem eW.rT {a b c:Value}(h:eW w T #[a,b,c,d]):w.cell? ⟨T,0,none⟩=some a/\w.cell? ⟨T,1,none⟩=some b/\w.cell? ⟨T,2,none⟩=some c/\w.cell? ⟨T,3,none⟩=some d:=by
 refine ⟨?_,?_,?_,?_⟩
 all_goals (rw [cell_of_row w T _ _ _ _ h];rfl)
theorem eW.frozen (h:eW w T k)(j:Nat):w.frozen? ⟨T,j,none⟩=false:=frozen_of_row w T j _ _ h
theorem eW.put {w:World}{a b c:Value}(h:eW w T k)(hk:k.size=4):eW ((((w.setCell ⟨T,0,none⟩ a).setCell ⟨T,1,none⟩ b).setCell ⟨T,2,none⟩ c).setCell ⟨T,3,none⟩ d) T #[a,b,c,d]:=by
 have h0:=heap_setCell_same w T 0 _ _ a h;have h1:=heap_setCell_same _ T 1 _ _ b h0;have h2:=heap_setCell_same _ T 2 _ _ c h1;have h3:=heap_setCell_same _ T 3 _ _ d h2;obtain ⟨l⟩:=k
 match l,hk with
 | [x0,x1,x2,x3],_=>exact h3
theorem Vb (w:World)(U:Nat)(v0 v1 v2 v3:Value):w.grownBy ((((w.setCell ⟨U,0,none⟩ v0).setCell ⟨U,1,none⟩ v1).setCell ⟨U,2,none⟩ v2).setCell ⟨U,3,none⟩ v3) (some U) :=
 gQ (gQ (gQ (ay w U 0 v0) (ay _ U 1 v1)) (ay _ U 2 v2)) (ay _ U 3 v3)
theorem JZ:(Tryz.prog.info? 73).map (·.size)=some 4:=by kernel_rfl
theorem oF {fn:Func}{p u:Tmp}(h:fn.results=#[.cell p 73,.tmp u])(tmps:Array Value)(w:World)(U:Nat)(k:Array Value)(hk:k.size=4)(hp:tmps.getD p undef=.pointer (some ⟨U,0,none⟩))(hx:eW w U k) :
  (results fn tmps).run Tryz.prog w=.ok (.tuple #[.agg k,tmps.getD u undef]) w:=by
 rw [results_cell_tmp h,hp];have:=run_loadVar_row (P:=Tryz.prog) w U 73 73 _ (0,0) _ hx Tryz.underlying73 rfl (by rw [hk];exact JZ);simp [asAddr,this,Result.andThen]
theorem Ka (w:World):Calls Tryz.prog 52 #[] w fun en w'=>(∃ G,en=.returned (.slice (some ⟨G,0,none⟩) 5 5)/\Kw w' G/\w.heap.size<=G)/\w.grownBy w' none:=by
 go_enter Tryz.func52,Tryz.ntmps52;go_wp2;go_ret;exact ⟨⟨_,rfl,heap_alloc_new w _,Nat.le_refl _⟩,World.grownBy_alloc w _ none⟩
def kW (no:Int):Array Value:=if no=1 then Cu PW else if no=2 then Cu kv2 else if no=3 then Cu kv3 else if no=4 then Cu kv4 else if no=5 then Cu kv5 else PX
theorem abr:∀ i,i<5->(WZ.getD i PW).no=((i+1:Nat):Int):=by decide
theorem abt:∀ i,i<5->kW ((i+1:Nat):Int)=Cu (WZ.getD i PW):=by
 intro i hi;rcases i with _ | _ | _ | _ | _ | i
 ·rfl
 ·rfl
 ·rfl
 ·rfl
 ·rfl
 ·omega
theorem sQ {no:Int}(h:∀ j,j<5->no≠((j+1:Nat):Int)):kW no=PX/\iT no=false:=by
 have h0:=h 0 (by decide);have h1:=h 1 (by decide);have h2:=h 2 (by decide);have h3:=h 3 (by decide);have h4:=h 4 (by decide);simp only [Nat.zero_add,Nat.reduceAdd,Int.cast_ofNat_Int] at h0 h1 h2 h3 h4;unfold kW iT;rw [if_neg (by omega),if_neg (by omega),if_neg (by omega),if_neg (by omega),if_neg (by omega)];refine ⟨rfl,?_⟩;simp;omega
theorem Kw.cells {w:World}{G:Nat}(h:Kw w G)(i:Nat)(hi:i<5):w.cell? ⟨G,i*4,none⟩=some (.int .i64 (WZ.getD i PW).no)/\w.cell? ⟨G,i*4+1,none⟩=some (.func (.func (WZ.getD i PW).e) #[] #[])/\w.cell? ⟨G,i*4+2,none⟩=some (.func (.func (WZ.getD i PW).d) #[] #[])/\w.cell? ⟨G,i*4+3,none⟩=some (.func (.func (WZ.getD i PW).s) #[] #[]):=by
 rcases i with _ | _ | _ | _ | _ | i
 case succ.succ.succ.succ.succ=>omega
 all_goals
  refine ⟨?_,?_,?_,?_⟩
  all_goals (rw [cell_of_row w G _ _ _ _ h];rfl)
theorem eW.new (w:World)(k:Array Value):eW (w.alloc (.cells k 73)) w.heap.size k:=heap_alloc_new w _
theorem eF (no:Int)(w:World):Calls Tryz.prog 26 #[.int .i64 no] w fun en w'=>en=.returned (.tuple #[.agg (kW no),.bool (iT no)])/\w.grownBy w' none:=by
 obtain ⟨R,hR⟩:∃ R,R=kW no:=⟨_,rfl⟩;obtain ⟨B,hB⟩:∃ B,B=iT no:=⟨_,rfl⟩;rw [<- hR,<- hB];have HRR:=hJ hR;have Dh:=hJ hB;clear hR hB;go_enter Tryz.func26,Tryz.ntmps26;go_upto_region 1 with fail
 have U1:=hJ (eW.new w PX);have G1:=hJ (World.grownBy_alloc w (.cells PX 73) none);have hs1:(w.alloc (.cells PX 73)).heap.size=w.heap.size+1:=by simp
 simp only [PX] at hs1 U1 G1;generalize w.alloc (.cells #[.int .i64 0,.nilFunc,.nilFunc,.nilFunc] 73)=w1 at *
 go_wp2_with fail
 refine (Ka _).mono ?_;rintro en w2 ⟨⟨G,rfl,hk2,hG2⟩,hg2⟩;have K2:=hJ hk2;have U2:=hJ (U1.out.ae hg2);have G2:=hJ (gQ G1.out hg2);have hlt:w.heap.size<G:=by omega
 clear hk2 hg2 U1 G1;go_wp2;go_loopw [5,8] (fun _ si wr=>∃ i:Nat,i<=5/\si=.int .i64 i/\(∀ j,j<i->no≠((j+1:Nat):Int))/\eW wr w.heap.size PX/\Kw wr G/\w.grownBy wr none) (fun _ si _=>5 - (intOf si).toNat)
 case atStart=>exact ⟨0,by omega,rfl,fun j hj=>by omega,U2.out,K2.out,G2.out⟩
 case round =>
  obtain ⟨i,hi,rfl,hno,hu,hk,hg⟩:=hrel;have HN:=hJ hno;have HU:=hJ hu;have HK:=hJ hk;have HG:=hJ hg;clear hno hu hk hg U2 K2 G2
  by_cases hi5:i<5
  ·obtain ⟨c0,c1,c2,c3⟩:=HK.out.cells i hi5
   have HA:=hJ (abt i hi5);have Ry:=hJ (abr i hi5);obtain ⟨kv,hkv⟩:∃ kv,WZ.getD i PW=kv:=⟨_,rfl⟩;rw [hkv] at c0 c1 c2 c3 HA Ry;clear hkv;have g1:(i:Int)<5:=by omega
   have g2:(0:Int)<=(i:Int):=by omega
   have gb:=World.grownBy_alloc wr (.cells (Cu kv) 73) none;have U3:=hJ (HU.out.ae gb);have K3:=hJ (HK.out.kept gb (by simp));have G3:=hJ (gQ HG.out gb);have X3:=hJ (eW.new wr (Cu kv));have hul:=HU.out.lt;have nu:=HK.out.lt;clear gb HU HK HG;go_upto_region 4 with fail
   simp only [Cu] at U3 K3 G3 X3;generalize wr.alloc (.cells #[.int .i64 kv.no,.func (.func kv.e) #[] #[],.func (.func kv.d) #[] #[],.func (.func kv.s) #[] #[]] 73)=w4 at *;generalize wr.heap.size=T at *;clear c0 c1 c2 c3;obtain ⟨c0,c1,c2,c3⟩:=eW.cells (k:=kv) X3.out
   by_cases he:no=((i+1:Nat):Int)
   ·have e1:(kv.no==no)=true:=by rw [Ry.out,he];simp
    have e2:Hid (B=true):=by show _=_;rw [Dh.out,he,lN];omega
    have e3:Hid (R=Cu kv):=by show _=_;rw [HRR.out,he,HA.out]
    obtain ⟨u0,u1,u2,u3⟩:=U3.out.Va;have f0:=U3.out.frozen 0;have f1:=U3.out.frozen 1;have f2:=U3.out.frozen 2;have f3:=U3.out.frozen 3;have hTU:T≠w.heap.size:=by omega
    clear he;go_wp2;refine bodyPost_ret (oF rfl _ _ w.heap.size (Cu kv) rfl rfl (U3.out.put rfl)) rfl ?_;exact ⟨by rw [e2.out,e3.out];rfl,af G3.out (Vb _ _ _ _ _ _) (Nat.le_refl _)⟩
   ·have e1:(kv.no==no)=false:=by rw [Ry.out];simp;omega
    have eT:=hJ he;clear he;go_wp2;go_roundw
    case rel =>
     refine ⟨i+1,by omega,by go_num,fun j hj=>?_,U3.out,K3.out,G3.out⟩
     by_cases e:j=i
     ·subst e;exact eT.out
     ·exact HN.out j (by omega)
    case measure=>simp [intOf];omega
  ·obtain rfl:i=5:=by omega
   have e2:Hid (B=false):=by show _=_;rw [Dh.out,(sQ HN.out).2]
   have e3:Hid (R=PX):=by show _=_;rw [HRR.out,(sQ HN.out).1]
   obtain ⟨u0,u1,u2,u3⟩:=HU.out.Va;have f0:=HU.out.frozen 0;have f1:=HU.out.frozen 1;have f2:=HU.out.frozen 2;have f3:=HU.out.frozen 3;go_wp2;refine bodyPost_ret (oF rfl _ _ w.heap.size PX rfl rfl (HU.out.put rfl)) rfl ?_;exact ⟨by rw [e2.out,e3.out];rfl,af HG.out (Vb _ _ _ _ _ _) (Nat.le_refl _)⟩
def LO (x:Pv):oy:=⟨x.i.n,x.l,x.s.n,x.d.n,x.x,x.b.n,x.t.n,x.h⟩
def Fx (w:World)(T:Nat)(f:oy):Prop:=w.heap[T]?=some (.cells #[.int .i64 f.i,.int .i64 f.l,.int .i64 f.s,.int .i64 f.d,.int .i64 f.x,.int .i64 f.b,.int .i64 f.t,.int .i64 f.h.v,.int .i64 f.h.c,.int .i64 f.h.r,.int .i64 f.h.h,.int .i64 f.h.k,.int .i64 f.h.f,.int .i64 f.h.n] 77 (0,0))
theorem Ke:(Tryz.prog.info? 77).map (·.size)=some 14:=by kernel_rfl
theorem iV {fn:Func}{p:Tmp}(h:fn.results=#[.cell p 77])(tmps:Array Value)(w:World)(U:Nat)(f:oy)(hp:tmps.getD p undef=.pointer (some ⟨U,0,none⟩))(hx:Fx w U f) :
  (results fn tmps).run Tryz.prog w=.ok (.agg #[.int .i64 f.i,.int .i64 f.l,.int .i64 f.s,.int .i64 f.d,.int .i64 f.x,.int .i64 f.b,.int .i64 f.t,.int .i64 f.h.v,.int .i64 f.h.c,.int .i64 f.h.r,.int .i64 f.h.h,.int .i64 f.h.k,.int .i64 f.h.f,.int .i64 f.h.n]) w :=
 results_cell_row h tmps w U 77 _ (0,0) _ hp hx Tryz.underlying77 rfl Ke
theorem fp (x:Pv)(w:World):Calls Tryz.prog 27 #[.agg #[.int .i64 x.k,.slice x.i.a x.i.n x.i.c,.int .i64 x.l,.slice x.s.a x.s.n x.s.c,.slice x.d.a x.d.n x.d.c,.int .i64 x.x,.slice x.b.a x.b.n x.b.c,.slice x.t.a x.t.n x.t.c,.int .i64 x.h.v,.int .i64 x.h.c,.int .i64 x.h.r,.int .i64 x.h.h,.int .i64 x.h.k,.int .i64 x.h.f,.int .i64 x.h.n]] w fun en w'=>(∃ f,en=.returned (.agg #[.int .i64 f.i,.int .i64 f.l,.int .i64 f.s,.int .i64 f.d,.int .i64 f.x,.int .i64 f.b,.int .i64 f.t,.int .i64 f.h.v,.int .i64 f.h.c,.int .i64 f.h.r,.int .i64 f.h.h,.int .i64 f.h.k,.int .i64 f.h.f,.int .i64 f.h.n])/\f=LO x)/\w.grownBy w' none:=by
 go_enter Tryz.func27,Tryz.ntmps27;go_wp2;refine bodyPost_ret (iV rfl _ _ (w.heap.size+1) (LO x) rfl (heap_alloc2_new w _ _)) rfl ?_;exact ⟨⟨_,rfl,rfl⟩,aN w _ _⟩
def sp1 (f:oy):oy:={ f with i:=0 }
def sp2 (f:oy):oy:={ f with l:=0,s:=0,d:=0 }
def sp3 (f:oy):oy:={ f with x:=0,b:=0 }
def sp4 (f:oy):oy:={ f with x:=0,t:=0 }
def sp5 (f:oy):oy:={ f with h:=zH }
theorem ER (f:oy)(w:World):Calls Tryz.prog 124 #[.agg #[.int .i64 f.i,.int .i64 f.l,.int .i64 f.s,.int .i64 f.d,.int .i64 f.x,.int .i64 f.b,.int .i64 f.t,.int .i64 f.h.v,.int .i64 f.h.c,.int .i64 f.h.r,.int .i64 f.h.h,.int .i64 f.h.k,.int .i64 f.h.f,.int .i64 f.h.n]] w fun en w'=>(∃ g,en=.returned (.agg #[.int .i64 g.i,.int .i64 g.l,.int .i64 g.s,.int .i64 g.d,.int .i64 g.x,.int .i64 g.b,.int .i64 g.t,.int .i64 g.h.v,.int .i64 g.h.c,.int .i64 g.h.r,.int .i64 g.h.h,.int .i64 g.h.k,.int .i64 g.h.f,.int .i64 g.h.n])/\g=sp1 f)/\w.grownBy w' none:=by
 go_enter Tryz.func124,Tryz.ntmps124;go_wp2;refine bodyPost_ret (iV rfl _ _ (w.heap.size+1) (sp1 f) rfl (heap_alloc2_new w _ _)) rfl ?_;exact ⟨⟨_,rfl,rfl⟩,aN w _ _⟩
theorem ES (f:oy)(w:World):Calls Tryz.prog 127 #[.agg #[.int .i64 f.i,.int .i64 f.l,.int .i64 f.s,.int .i64 f.d,.int .i64 f.x,.int .i64 f.b,.int .i64 f.t,.int .i64 f.h.v,.int .i64 f.h.c,.int .i64 f.h.r,.int .i64 f.h.h,.int .i64 f.h.k,.int .i64 f.h.f,.int .i64 f.h.n]] w fun en w'=>(∃ g,en=.returned (.agg #[.int .i64 g.i,.int .i64 g.l,.int .i64 g.s,.int .i64 g.d,.int .i64 g.x,.int .i64 g.b,.int .i64 g.t,.int .i64 g.h.v,.int .i64 g.h.c,.int .i64 g.h.r,.int .i64 g.h.h,.int .i64 g.h.k,.int .i64 g.h.f,.int .i64 g.h.n])/\g=sp2 f)/\w.grownBy w' none:=by
 go_enter Tryz.func127,Tryz.ntmps127;go_wp2;refine bodyPost_ret (iV rfl _ _ (w.heap.size+1) (sp2 f) rfl (heap_alloc2_new w _ _)) rfl ?_;exact ⟨⟨_,rfl,rfl⟩,aN w _ _⟩
theorem ET (f:oy)(w:World):Calls Tryz.prog 130 #[.agg #[.int .i64 f.i,.int .i64 f.l,.int .i64 f.s,.int .i64 f.d,.int .i64 f.x,.int .i64 f.b,.int .i64 f.t,.int .i64 f.h.v,.int .i64 f.h.c,.int .i64 f.h.r,.int .i64 f.h.h,.int .i64 f.h.k,.int .i64 f.h.f,.int .i64 f.h.n]] w fun en w'=>(∃ g,en=.returned (.agg #[.int .i64 g.i,.int .i64 g.l,.int .i64 g.s,.int .i64 g.d,.int .i64 g.x,.int .i64 g.b,.int .i64 g.t,.int .i64 g.h.v,.int .i64 g.h.c,.int .i64 g.h.r,.int .i64 g.h.h,.int .i64 g.h.k,.int .i64 g.h.f,.int .i64 g.h.n])/\g=sp3 f)/\w.grownBy w' none:=by
 go_enter Tryz.func130,Tryz.ntmps130;go_wp2;refine bodyPost_ret (iV rfl _ _ (w.heap.size+1) (sp3 f) rfl (heap_alloc2_new w _ _)) rfl ?_;exact ⟨⟨_,rfl,rfl⟩,aN w _ _⟩
theorem EU (f:oy)(w:World):Calls Tryz.prog 133 #[.agg #[.int .i64 f.i,.int .i64 f.l,.int .i64 f.s,.int .i64 f.d,.int .i64 f.x,.int .i64 f.b,.int .i64 f.t,.int .i64 f.h.v,.int .i64 f.h.c,.int .i64 f.h.r,.int .i64 f.h.h,.int .i64 f.h.k,.int .i64 f.h.f,.int .i64 f.h.n]] w fun en w'=>(∃ g,en=.returned (.agg #[.int .i64 g.i,.int .i64 g.l,.int .i64 g.s,.int .i64 g.d,.int .i64 g.x,.int .i64 g.b,.int .i64 g.t,.int .i64 g.h.v,.int .i64 g.h.c,.int .i64 g.h.r,.int .i64 g.h.h,.int .i64 g.h.k,.int .i64 g.h.f,.int .i64 g.h.n])/\g=sp4 f)/\w.grownBy w' none:=by
 go_enter Tryz.func133,Tryz.ntmps133;go_wp2;refine bodyPost_ret (iV rfl _ _ (w.heap.size+1) (sp4 f) rfl (heap_alloc2_new w _ _)) rfl ?_;exact ⟨⟨_,rfl,rfl⟩,aN w _ _⟩
theorem EW (f:oy)(w:World):Calls Tryz.prog 136 #[.agg #[.int .i64 f.i,.int .i64 f.l,.int .i64 f.s,.int .i64 f.d,.int .i64 f.x,.int .i64 f.b,.int .i64 f.t,.int .i64 f.h.v,.int .i64 f.h.c,.int .i64 f.h.r,.int .i64 f.h.h,.int .i64 f.h.k,.int .i64 f.h.f,.int .i64 f.h.n]] w fun en w'=>(∃ g,en=.returned (.agg #[.int .i64 g.i,.int .i64 g.l,.int .i64 g.s,.int .i64 g.d,.int .i64 g.x,.int .i64 g.b,.int .i64 g.t,.int .i64 g.h.v,.int .i64 g.h.c,.int .i64 g.h.r,.int .i64 g.h.h,.int .i64 g.h.k,.int .i64 g.h.f,.int .i64 g.h.n])/\g=sp5 f)/\w.grownBy w' none:=by
 go_enter Tryz.func136,Tryz.ntmps136;go_wp2;refine bodyPost_ret (iV rfl _ _ (w.heap.size+1) (sp5 f) rfl (heap_alloc2_new w _ _)) rfl ?_;exact ⟨⟨_,rfl,rfl⟩,aN w _ _⟩
structure qW (x:Pv)(p:Pg):Prop where
 items:p.items.length<=5000
 aj:p.aj.length<=5000
 kids:p.kids.length<=5000
 sc:x.s.n<=x.s.c/\x.s.c<=9223372036854775807
 list:p.list.length<=9223372036854775806
theorem iW (ao:Option Addr)(n cap:Nat)(zs:List Int)(w:World)(hb:ai w ao n cap zs)(bt:Bt zs)(ht:pA w) :
  Calls Tryz.prog 28 #[.slice ao n cap] w fun e w'=>∃ po m,e=.returned (.tuple #[.slice po m m,.int .i64 (kG zs)])/\ai w' po m m (gM zs)/\m<=4096/\(0<m->∃ g,po=some ⟨g,0,none⟩/\w.heap.size<=g/\Rw w' g (gM zs))/\w.grownBy w' none:=by
 by_cases h:n=4092
 ·subst h
  refine (Qz ao cap zs w hb bt ht).mono ?_;rintro e w' ⟨rfl,hr,hg⟩;have e1:kG zs=0:=if_pos hb.len;have e2:gM zs=zs++fe (upd 0 zs):=if_pos hb.len;rw [e1,e2];exact ⟨_,4096,rfl,hr.all 4096 4096 (by rw [List.length_append,hb.len];rfl),Nat.le_refl _,fun _=>⟨_,rfl,Nat.le_refl _,hr⟩,hg⟩
 ·refine (MF ao n cap w h).mono ?_
  rintro e w' ⟨rfl,rfl⟩;have e1:kG zs=20:=if_neg (by rw [hb.len];exact h);have e2:gM zs=[]:=if_neg (by rw [hb.len];exact h);rw [e1,e2];exact ⟨none,0,rfl,ai.empty _,by omega,fun h=>by omega,World.grownBy.refl _ _⟩
theorem Oh (x:Pv)(p:Pg)(w:World)(hp:Pm w x p)(he:qW x p)(hm:Mk w)(hk:p.kind=1) :
  Calls Tryz.prog 122 #[.agg #[.int .i64 x.k,.slice x.i.a x.i.n x.i.c,.int .i64 x.l,.slice x.s.a x.s.n x.s.c,.slice x.d.a x.d.n x.d.c,.int .i64 x.x,.slice x.b.a x.b.n x.b.c,.slice x.t.a x.t.n x.t.c,.int .i64 x.h.v,.int .i64 x.h.c,.int .i64 x.h.r,.int .i64 x.h.h,.int .i64 x.h.k,.int .i64 x.h.f,.int .i64 x.h.n]] w fun en w'=>(∃ ao n c b e,en=.returned (.tuple #[.slice ao n c,.int .i64 e])/\iy p b e/\ai w' ao n c b)/\w.grownBy w' none:=by
 have HP:=hJ hp;have HE:=hJ he;have HM:=hJ hm;have HQ:=hJ hk;clear hp he hm hk;go_enter Tryz.func122,Tryz.ntmps122;go_upto_region 1 with fail
 have X1:=hJ (Px.new w x);have G1:=hJ (gP w x);generalize w.alloc (.cells #[.int .i64 x.k,.slice x.i.a x.i.n x.i.c,.int .i64 x.l,.slice x.s.a x.s.n x.s.c,.slice x.d.a x.d.n x.d.c,.int .i64 x.x,.slice x.b.a x.b.n x.b.c,.slice x.t.a x.t.n x.t.c,.int .i64 x.h.v,.int .i64 x.h.c,.int .i64 x.h.r,.int .i64 x.h.h,.int .i64 x.h.k,.int .i64 x.h.f,.int .i64 x.h.n] 30)=w1 at *;obtain ⟨c0,c1,c2,c3,c4,c5,c6,c7,c8,c9,c10,c11,c12,c13,c14⟩:=X1.out.cells
 go_wp2_with fail
 refine (tR x.i.a x.i.n x.i.c p.items _ (HP.out.items.ae G1.out) HP.out.ib HP.out.il (by have:=HE.out.items;have:=HP.out.il;omega)).mono ?_;rintro en w2 ⟨⟨ao,j,c,rfl,hb2,_⟩,hg2⟩;have B2:=hJ hb2;have G2:=hJ (gQ G1.out hg2);clear hb2 hg2 c0 c1 c2 c3 c4 c5 c6 c7 c8 c9 c10 c11 c12 c13 c14;go_wp2
 go_ret2
 exact ⟨⟨_,_,_,_,_,rfl,.inl ⟨HQ.out,rfl,rfl⟩,B2.out⟩,G2.out⟩
theorem Oi (x:Pv)(p:Pg)(w:World)(hp:Pm w x p)(he:qW x p)(hm:Mk w)(hk:p.kind=2) :
  Calls Tryz.prog 125 #[.agg #[.int .i64 x.k,.slice x.i.a x.i.n x.i.c,.int .i64 x.l,.slice x.s.a x.s.n x.s.c,.slice x.d.a x.d.n x.d.c,.int .i64 x.x,.slice x.b.a x.b.n x.b.c,.slice x.t.a x.t.n x.t.c,.int .i64 x.h.v,.int .i64 x.h.c,.int .i64 x.h.r,.int .i64 x.h.h,.int .i64 x.h.k,.int .i64 x.h.f,.int .i64 x.h.n]] w fun en w'=>(∃ ao n c b e,en=.returned (.tuple #[.slice ao n c,.int .i64 e])/\iy p b e/\ai w' ao n c b)/\w.grownBy w' none:=by
 have HP:=hJ hp;have HE:=hJ he;have HM:=hJ hm;have HQ:=hJ hk;clear hp he hm hk;go_enter Tryz.func125,Tryz.ntmps125;go_upto_region 1 with fail
 have X1:=hJ (Px.new w x);have G1:=hJ (gP w x);generalize w.alloc (.cells #[.int .i64 x.k,.slice x.i.a x.i.n x.i.c,.int .i64 x.l,.slice x.s.a x.s.n x.s.c,.slice x.d.a x.d.n x.d.c,.int .i64 x.x,.slice x.b.a x.b.n x.b.c,.slice x.t.a x.t.n x.t.c,.int .i64 x.h.v,.int .i64 x.h.c,.int .i64 x.h.r,.int .i64 x.h.h,.int .i64 x.h.k,.int .i64 x.h.f,.int .i64 x.h.n] 30)=w1 at *;obtain ⟨c0,c1,c2,c3,c4,c5,c6,c7,c8,c9,c10,c11,c12,c13,c14⟩:=X1.out.cells
 go_wp2_with fail
 refine (qO x.l x.s.a x.s.n x.s.c p.aj x.d.a x.d.n x.d.c p.kids _ (HP.out.aj.ae G1.out) HP.out.sb HP.out.sl (by have:=HE.out.aj;have:=HP.out.sl;omega) HE.out.sc.1 HE.out.sc.2 (HP.out.kids.ae G1.out) HP.out.kl (by have:=HE.out.kids;have:=HP.out.kl;omega)).mono ?_;rintro en w2 ⟨⟨ao,j,c,e,zs,rfl,hb2,xw,_⟩,hg2⟩;have B2:=hJ hb2;have E2:=hJ xw;clear xw;have G2:=hJ (gQ G1.out hg2);clear hb2 hg2 c0 c1 c2 c3 c4 c5 c6 c7 c8 c9 c10 c11 c12 c13 c14;go_wp2
 go_ret2
 exact ⟨⟨_,_,_,_,_,rfl,.inr (.inl ⟨HQ.out,by rw [<- HP.out.level];exact E2.out⟩),B2.out⟩,G2.out⟩
theorem Oj (x:Pv)(p:Pg)(w:World)(hp:Pm w x p)(he:qW x p)(hm:Mk w)(hk:p.kind=3) :
  Calls Tryz.prog 128 #[.agg #[.int .i64 x.k,.slice x.i.a x.i.n x.i.c,.int .i64 x.l,.slice x.s.a x.s.n x.s.c,.slice x.d.a x.d.n x.d.c,.int .i64 x.x,.slice x.b.a x.b.n x.b.c,.slice x.t.a x.t.n x.t.c,.int .i64 x.h.v,.int .i64 x.h.c,.int .i64 x.h.r,.int .i64 x.h.h,.int .i64 x.h.k,.int .i64 x.h.f,.int .i64 x.h.n]] w fun en w'=>(∃ ao n c b e,en=.returned (.tuple #[.slice ao n c,.int .i64 e])/\iy p b e/\ai w' ao n c b)/\w.grownBy w' none:=by
 have HP:=hJ hp;have HE:=hJ he;have HM:=hJ hm;have HQ:=hJ hk;clear hp he hm hk;go_enter Tryz.func128,Tryz.ntmps128;go_upto_region 1 with fail
 have X1:=hJ (Px.new w x);have G1:=hJ (gP w x);generalize w.alloc (.cells #[.int .i64 x.k,.slice x.i.a x.i.n x.i.c,.int .i64 x.l,.slice x.s.a x.s.n x.s.c,.slice x.d.a x.d.n x.d.c,.int .i64 x.x,.slice x.b.a x.b.n x.b.c,.slice x.t.a x.t.n x.t.c,.int .i64 x.h.v,.int .i64 x.h.c,.int .i64 x.h.r,.int .i64 x.h.h,.int .i64 x.h.k,.int .i64 x.h.f,.int .i64 x.h.n] 30)=w1 at *;obtain ⟨c0,c1,c2,c3,c4,c5,c6,c7,c8,c9,c10,c11,c12,c13,c14⟩:=X1.out.cells
 go_wp2_with fail
 refine (kR x.x x.b.a x.b.n x.b.c p.data _ (HP.out.data.ae G1.out) (by have:=HP.out.dc;omega)).mono ?_;rintro en w2 ⟨ao,j,rfl,hb2,_,hg2⟩;have B2:=hJ hb2;have G2:=hJ (gQ G1.out hg2);clear hb2 hg2 c0 c1 c2 c3 c4 c5 c6 c7 c8 c9 c10 c11 c12 c13 c14;go_wp2
 go_ret2
 exact ⟨⟨_,_,_,_,_,rfl,.inr (.inr (.inl ⟨HQ.out,by rw [<- HP.out.next],by rw [<- HP.out.next,HP.out.data.len]⟩)),B2.out⟩,G2.out⟩
theorem Ol (x:Pv)(p:Pg)(w:World)(hp:Pm w x p)(he:qW x p)(hm:Mk w)(hk:p.kind=4) :
  Calls Tryz.prog 131 #[.agg #[.int .i64 x.k,.slice x.i.a x.i.n x.i.c,.int .i64 x.l,.slice x.s.a x.s.n x.s.c,.slice x.d.a x.d.n x.d.c,.int .i64 x.x,.slice x.b.a x.b.n x.b.c,.slice x.t.a x.t.n x.t.c,.int .i64 x.h.v,.int .i64 x.h.c,.int .i64 x.h.r,.int .i64 x.h.h,.int .i64 x.h.k,.int .i64 x.h.f,.int .i64 x.h.n]] w fun en w'=>(∃ ao n c b e,en=.returned (.tuple #[.slice ao n c,.int .i64 e])/\iy p b e/\ai w' ao n c b)/\w.grownBy w' none:=by
 have HP:=hJ hp;have HE:=hJ he;have HM:=hJ hm;have HQ:=hJ hk;clear hp he hm hk;go_enter Tryz.func131,Tryz.ntmps131;go_upto_region 1 with fail
 have X1:=hJ (Px.new w x);have G1:=hJ (gP w x);generalize w.alloc (.cells #[.int .i64 x.k,.slice x.i.a x.i.n x.i.c,.int .i64 x.l,.slice x.s.a x.s.n x.s.c,.slice x.d.a x.d.n x.d.c,.int .i64 x.x,.slice x.b.a x.b.n x.b.c,.slice x.t.a x.t.n x.t.c,.int .i64 x.h.v,.int .i64 x.h.c,.int .i64 x.h.r,.int .i64 x.h.h,.int .i64 x.h.k,.int .i64 x.h.f,.int .i64 x.h.n] 30)=w1 at *;obtain ⟨c0,c1,c2,c3,c4,c5,c6,c7,c8,c9,c10,c11,c12,c13,c14⟩:=X1.out.cells
 go_wp2_with fail
 refine (kT x.x x.t.a x.t.n x.t.c p.list _ (HP.out.list.ae G1.out) HP.out.tl (by have:=HE.out.list;have:=HP.out.tl;omega)).mono ?_;rintro en w2 ⟨ao,j,rfl,hb2,_,hg2⟩;have B2:=hJ hb2;have G2:=hJ (gQ G1.out hg2);clear hb2 hg2 c0 c1 c2 c3 c4 c5 c6 c7 c8 c9 c10 c11 c12 c13 c14;go_wp2
 go_ret2
 exact ⟨⟨_,_,_,_,_,rfl,.inr (.inr (.inr (.inl ⟨HQ.out,by rw [<- HP.out.next],by rw [<- HP.out.next]⟩))),B2.out⟩,G2.out⟩
theorem Om (x:Pv)(p:Pg)(w:World)(hp:Pm w x p)(he:qW x p)(hm:Mk w)(hk:p.kind=5) :
  Calls Tryz.prog 134 #[.agg #[.int .i64 x.k,.slice x.i.a x.i.n x.i.c,.int .i64 x.l,.slice x.s.a x.s.n x.s.c,.slice x.d.a x.d.n x.d.c,.int .i64 x.x,.slice x.b.a x.b.n x.b.c,.slice x.t.a x.t.n x.t.c,.int .i64 x.h.v,.int .i64 x.h.c,.int .i64 x.h.r,.int .i64 x.h.h,.int .i64 x.h.k,.int .i64 x.h.f,.int .i64 x.h.n]] w fun en w'=>(∃ ao n c b e,en=.returned (.tuple #[.slice ao n c,.int .i64 e])/\iy p b e/\ai w' ao n c b)/\w.grownBy w' none:=by
 have HP:=hJ hp;have HE:=hJ he;have HM:=hJ hm;have HQ:=hJ hk;clear hp he hm hk;go_enter Tryz.func134,Tryz.ntmps134;go_upto_region 1 with fail
 have X1:=hJ (Px.new w x);have G1:=hJ (gP w x);generalize w.alloc (.cells #[.int .i64 x.k,.slice x.i.a x.i.n x.i.c,.int .i64 x.l,.slice x.s.a x.s.n x.s.c,.slice x.d.a x.d.n x.d.c,.int .i64 x.x,.slice x.b.a x.b.n x.b.c,.slice x.t.a x.t.n x.t.c,.int .i64 x.h.v,.int .i64 x.h.c,.int .i64 x.h.r,.int .i64 x.h.h,.int .i64 x.h.k,.int .i64 x.h.f,.int .i64 x.h.n] 30)=w1 at *;obtain ⟨c0,c1,c2,c3,c4,c5,c6,c7,c8,c9,c10,c11,c12,c13,c14⟩:=X1.out.cells
 go_wp2_with fail
 refine (Cp x.h.v x.h.c x.h.r x.h.h x.h.k x.h.f x.h.n _ (HM.out.ae G1.out)).mono ?_;rintro en w2 ⟨ao,j,rfl,hb2,_,hg2⟩;have B2:=hJ hb2;have G2:=hJ (gQ G1.out hg2);clear hb2 hg2 c0 c1 c2 c3 c4 c5 c6 c7 c8 c9 c10 c11 c12 c13 c14;go_wp2
 go_ret2
 exact ⟨⟨_,_,_,_,_,rfl,.inr (.inr (.inr (.inr ⟨HQ.out,by rw [<- HP.out.head],by rw [<- HP.out.head]⟩))),B2.out⟩,G2.out⟩
theorem aO {α:Type}{l:List α}(h:l.length=n):((n:Int)=0↔l=[]):=by
 rw [<- List.length_eq_zero_iff,h];omega
theorem EX {x:Pv}{p:Pg}(h:Pm w x p)(hk:p.kind=1):sp1 (LO x)=fz↔p=eV p:=by
 have e1:=aO h.il;have e2:=aO h.sl;have e3:=aO h.kl;have e4:=aO h.data.len;have e5:=aO h.tl;have e6:=h.level;have e7:=h.next
 have e8:=h.head;clear h;obtain ⟨kd,it,lv,se,ki,nx,da,li,hd⟩:=p;simp only at hk e1 e2 e3 e4 e5 e6 e7 e8;subst hk;simp only [eV,sp1,LO,fz,oy.mk.injEq,e2,e3,e4,e5,e6,e7,e8];simp
theorem EY {x:Pv}{p:Pg}(h:Pm w x p)(hk:p.kind=2):sp2 (LO x)=fz↔p=eV p:=by
 have e1:=aO h.il;have e2:=aO h.sl;have e3:=aO h.kl;have e4:=aO h.data.len;have e5:=aO h.tl;have e6:=h.level;have e7:=h.next
 have e8:=h.head;clear h;obtain ⟨kd,it,lv,se,ki,nx,da,li,hd⟩:=p;simp only at hk e1 e2 e3 e4 e5 e6 e7 e8;subst hk;simp only [eV,sp2,LO,fz,oy.mk.injEq,e1,e4,e5,e6,e7,e8];simp
theorem EZ {x:Pv}{p:Pg}(h:Pm w x p)(hk:p.kind=3):sp3 (LO x)=fz↔p=eV p:=by
 have e1:=aO h.il;have e2:=aO h.sl;have e3:=aO h.kl;have e4:=aO h.data.len;have e5:=aO h.tl;have e6:=h.level;have e7:=h.next
 have e8:=h.head;clear h;obtain ⟨kd,it,lv,se,ki,nx,da,li,hd⟩:=p;simp only at hk e1 e2 e3 e4 e5 e6 e7 e8;subst hk;simp only [eV,sp3,LO,fz,oy.mk.injEq,e1,e2,e3,e5,e6,e7,e8];simp
theorem Fa {x:Pv}{p:Pg}(h:Pm w x p)(hk:p.kind=4):sp4 (LO x)=fz↔p=eV p:=by
 have e1:=aO h.il;have e2:=aO h.sl;have e3:=aO h.kl;have e4:=aO h.data.len;have e5:=aO h.tl;have e6:=h.level;have e7:=h.next
 have e8:=h.head;clear h;obtain ⟨kd,it,lv,se,ki,nx,da,li,hd⟩:=p;simp only at hk e1 e2 e3 e4 e5 e6 e7 e8;subst hk;simp only [eV,sp4,LO,fz,oy.mk.injEq,e1,e2,e3,e4,e6,e7,e8];simp
theorem Fb {x:Pv}{p:Pg}(h:Pm w x p)(hk:p.kind=5):sp5 (LO x)=fz↔p=eV p:=by
 have e1:=aO h.il;have e2:=aO h.sl;have e3:=aO h.kl;have e4:=aO h.data.len;have e5:=aO h.tl;have e6:=h.level;have e7:=h.next
 have e8:=h.head;clear h;obtain ⟨kd,it,lv,se,ki,nx,da,li,hd⟩:=p;simp only at hk e1 e2 e3 e4 e5 e6 e7 e8;subst hk;simp only [eV,sp5,LO,fz,oy.mk.injEq,e1,e2,e3,e4,e5,e6,e7,e8];simp
theorem Kh (ao:Option Addr)(n cap:Nat)(zs:List Int)(w:World)(hb:ai w ao n cap zs)(bt:Bt zs)(ht:pA w)(hc:n<=cap) :
  Calls Tryz.prog 29 #[.slice ao n cap] w fun e w'=>∃ po m,e=.returned (.tuple #[.slice po m m,.int .i64 (cZ zs)])/\ai w' po m m (bD zs)/\w.grownBy w' none:=by
 by_cases h:n=4096
 ·subst h
  by_cases hx:zs.drop 4092=fe (upd 0 (zs.take 4092))
  ·refine (Nh ao cap zs w hb bt ht hc hx).mono ?_
   rintro e w' ⟨g,rfl,hr,_,hg⟩;have hf:fits zs:=⟨hb.len,hx⟩;have e1:cZ zs=0:=if_pos hf;have e2:bD zs=zs.take 4092:=if_pos hf;rw [e1,e2];exact ⟨_,4092,rfl,hr.all 4092 4092 (by rw [List.length_take,hb.len];rfl),hg⟩
  ·refine (QL ao cap zs w hb bt ht hc hx).mono ?_
   rintro e w' ⟨rfl,hg⟩;have hf:¬ fits zs:=fun h=>hx h.2
   have e1:cZ zs=22:=by unfold cZ;rw [if_neg hf,if_pos hb.len]
   have e2:bD zs=[]:=if_neg hf;rw [e1,e2];exact ⟨none,0,rfl,ai.empty _,hg⟩
 ·refine (Ng ao n cap w h).mono ?_
  rintro e w' ⟨rfl,rfl⟩;have hl:zs.length≠4096:=by rw [hb.len];exact h
  have hf:¬ fits zs:=fun h=>hl h.1
  have e1:cZ zs=21:=by unfold cZ;rw [if_neg hf,if_neg hl]
  have e2:bD zs=[]:=if_neg hf;rw [e1,e2];exact ⟨none,0,rfl,ai.empty _,World.grownBy.refl _ _⟩
theorem GV {L:List It}(h:L.length<=5000):qW ⟨1,⟨a,q,cap⟩,0,nS,nS,0,nS,nS,zH⟩ ⟨1,L,0,[],[],0,[],[],zH⟩ :=
 ⟨h,Nat.zero_le _,Nat.zero_le _,⟨Nat.zero_le _,Nat.zero_le _⟩,Nat.zero_le _⟩
theorem Ki {b:Option Addr}{bh:Nat}{K:List Kd}(h:L.length<=5000)(hk:K.length<=5000)(hc:q<=cap/\cap<=9223372036854775807):qW ⟨2,nS,lv,⟨a,q,cap⟩,⟨b,m,bh⟩,0,nS,nS,zH⟩ ⟨2,[],lv,L,K,0,[],[],zH⟩ :=
 ⟨Nat.zero_le _,h,hk,hc,Nat.zero_le _⟩
theorem RX :qW ⟨3,nS,0,nS,nS,nx,⟨a,q,cap⟩,nS,zH⟩ ⟨3,[],0,[],[],nx,D,[],zH⟩ :=
 ⟨Nat.zero_le _,Nat.zero_le _,Nat.zero_le _,⟨Nat.zero_le _,Nat.zero_le _⟩,Nat.zero_le _⟩
theorem RY (h:D.length<=9223372036854775806):qW ⟨4,nS,0,nS,nS,nx,nS,⟨a,q,cap⟩,zH⟩ ⟨4,[],0,[],[],nx,[],D,zH⟩ :=
 ⟨Nat.zero_le _,Nat.zero_le _,Nat.zero_le _,⟨Nat.zero_le _,Nat.zero_le _⟩,h⟩
theorem RZ (H:Hd):qW ⟨5,nS,0,nS,nS,0,nS,nS,H⟩ ⟨5,[],0,[],[],0,[],[],H⟩ :=
 ⟨Nat.zero_le _,Nat.zero_le _,Nat.zero_le _,⟨Nat.zero_le _,Nat.zero_le _⟩,Nat.zero_le _⟩
theorem jw:qW zV zP:=⟨Nat.zero_le _,Nat.zero_le _,Nat.zero_le _,⟨Nat.zero_le _,Nat.zero_le _⟩,Nat.zero_le _⟩
theorem GX {L:List It}(h:Um zs L e):L.length<=5000:=by
 rcases h with ⟨_,h1,_⟩ | ⟨_,rfl,_⟩
 ·have:=(nM h1.1 h1.2.1).1;omega
 ·exact Nat.zero_le _
theorem uS {K:List Kd}(h:uk zs lv L K e):L.length<=5000/\K.length<=5000:=by
 by_cases he:e=0
 ·obtain ⟨_,k,M,rfl,rfl,hg⟩:=h.good he
  have hf:=dy.1 hg.1;have:=(iP (fun s hs=>hf.sep s hs) hf.size).1;rw [bY,dX];omega
 ·obtain ⟨_,rfl,rfl,_⟩:=h.bad he
  exact ⟨Nat.zero_le _,Nat.zero_le _⟩
theorem Xa (zs:List Int):(uL zs).length<=9223372036854775806:=Nat.le_trans (xC zs) (by decide)
theorem Sa (h:zs.length=4092):(vD zs).length<=4092:=JX h
theorem kX {k:Int}{b:List Int}{p q:Pg}(h:mS k b p e)(he:e≠0):mS k b q e:=by
 rcases h with ⟨h0,L,h1,h2⟩ | ⟨h0,lv,L,K,h1,h2⟩ | ⟨h0,h1,h2⟩ | ⟨h0,h1,h2⟩ | ⟨h0,h1,h2⟩
 ·exact .inl ⟨h0,L,h1,fun h=>absurd h he⟩
 ·exact .inr (.inl ⟨h0,lv,L,K,h1,fun h=>absurd h he⟩)
 ·exact .inr (.inr (.inl ⟨h0,h1,fun h=>absurd h he⟩))
 ·exact .inr (.inr (.inr (.inl ⟨h0,h1,fun h=>absurd h he⟩)))
 ·exact .inr (.inr (.inr (.inr ⟨h0,h1,fun h=>absurd h he⟩)))
structure Dd8 (zs:List Int)(w:World)(en:Ending)(w':World):Prop where
 out:∃ (y:Pv) (p:Pg) (e:Int),en=.returned (.tuple #[.agg #[.int .i64 y.k,.slice y.i.a y.i.n y.i.c,.int .i64 y.l,.slice y.s.a y.s.n y.s.c,.slice y.d.a y.d.n y.d.c,.int .i64 y.x,.slice y.b.a y.b.n y.b.c,.slice y.t.a y.t.n y.t.c,.int .i64 y.h.v,.int .i64 y.h.c,.int .i64 y.h.r,.int .i64 y.h.h,.int .i64 y.h.k,.int .i64 y.h.f,.int .i64 y.h.n],.int .i64 e])/\gj zs p e/\Pn w w' y p/\qW y p
 gr:w.grownBy w' none
theorem Px.mJ {x:Pv}(h:Px w T x)(s:Int):Px (w.setCell ⟨T,0,none⟩ (.int .i64 s)) T { x with k:=s }:=heap_setCell_same w T 0 _ _ _ h
theorem iz (ao:Option Addr)(k c:Nat)(x:List Int)(w:World)(hb:ai w ao k c x)(hk2:k<=1000000) :
  Calls Tryz.prog 22 #[.slice ao k c] w fun en w'=>(∃ g cc,en=.returned (.slice (some ⟨g,0,none⟩) k cc)/\Ow w' g cc (x++[201])/\w.heap.size<=g)/\w.grownBy w' none:=by
 have hk:=hb.len;have HB:=hJ hb;clear hb;go_enter Tryz.func22,Tryz.ntmps22
 go_wp2_with fail
 refine (bq ao k c x _ HB.out (by omega)).mono ?_;rintro en w2 ⟨rfl,hown2,hg2,hs2⟩;have O2:=hJ (hown2.alloc (.cells #[.int .u8 201] 5));have abu:=hJ hown2;have eu:=hJ hg2;have BL:=hJ (ai.lit w2 5 #[.int .u8 201] [201] 1 rfl rfl);clear hown2 hg2
 go_wp2_with (at_builtin;refine aq rfl _ _ rfl w.heap.size _ k x rfl O2.out (some ⟨w2.heap.size,0,none⟩) 1 1 [201] rfl BL.out (by omega) (by simp;omega) ?_)
 intro v3 w3 lZ hg3;have Oo:w3.ownsRow w.heap.size 5 1 v3 (k+1) ((x++[201]).map (Value.int .u8)):=by simpa using lZ
 obtain ⟨g,cc,rfl,hgb,GH,hgc⟩:=tC Oo (by omega);obtain ⟨hOw,_,_,_⟩:=Ow.aP Oo;have rq:Hid (w.grownBy w3 none):=bO eu.out abu.out (Nat.le_refl _) hg3;have HOW:=hJ hOw;clear hOw lZ Oo hg3 O2 BL abu eu;have g1:(k:Int)<=(cc:Int):=by omega
 have g2:(0:Int)<=(k:Int):=by omega
 go_wp2;go_ret;exact ⟨⟨g,cc,rfl,HOW.out,by omega⟩,rq.out⟩
theorem Kj (x:List Int):(x++[201]).getD x.length 0=201:=by simp [List.getD]
theorem lQ (g k c:Nat)(x:List Int)(w:World)(h:Ow w g c (x++[201]))(hk:x.length=k) :
  Calls Tryz.prog 43 #[.slice (some ⟨g,0,none⟩) k c] w fun en w'=>en=.returned (.bool true)/\w'=w:=by
 have c0:=h.cell (j:=k) (by simp;omega);rw [<- hk,Kj,hk] at c0;have hc:=h.le;have hm:=h.max;simp only [List.length_append,List.length_singleton] at hc;have g1:(k:Int)+1<=(c:Int):=by omega
 have g2:(0:Int)<=(k:Int)+1:=by omega
 have g3:(0:Int)<=(k:Int):=by omega
 have g4:(k:Int)<(k:Int)+1:=by omega
 have g5:IntKind.i64.wrap ((k:Int)+1)=(k:Int)+1:=by simp [IntKind.wrap,IntKind.bits,IntKind.signed];omega
 clear h;go_enter Tryz.func43,Tryz.ntmps43;go_wp2;go_ret;exact ⟨rfl,rfl⟩
theorem Cv (a:Option Addr)(n cap:Nat)(K:List Int)(w:World)(hl:Nt w a K)(hn:K.length=n)(hm:n<=100000) :
  Calls Tryz.prog 25 #[.slice a n cap] w fun en w'=>(∃ v,en=.returned v/\w'.ownsRow w.heap.size 3 1 v n (K.map (Value.int .i64)))/\w.grownBy w' none/\w.heap.size<w'.heap.size:=by
 obtain ⟨i1,jN,hy0,vL,jE⟩:=info_parts pZ;have HL:=hJ hl;clear hl;go_enter Tryz.func25,Tryz.ntmps25
 go_wp2_with (at_make;refine wpList_make_own _ rfl _ _ 26 rfl w.heap.size 3 i1 (.int .i64 0) 1 Tryz.underlying26 jN hy0 vL _ _ _ n rfl rfl rfl ?b2 ?b3 (Nat.le_refl _) ?_)
 case b2=>rw [jE];omega
 case b3=>unfold maxLen;omega
 intro w0 aR hg0;have hs0:w.heap.size<w0.heap.size:=(aR.lt w.heap.size rfl).2;have O0:=hJ aR;have G0:=hJ hg0;clear aR hg0;go_wp2;go_loopw [3,4] (fun sl si wr=>∃ i:Nat,i<=n/\si=.int .i64 i/\wr.ownsRow w.heap.size 3 1 sl i ((K.map (Value.int .i64)).take i)/\w.grownBy wr none/\w.heap.size<wr.heap.size) (fun _ si _=>n - (intOf si).toNat)
 case atStart=>exact ⟨0,Nat.zero_le _,rfl,O0.out,G0.out,hs0⟩
 case round =>
  obtain ⟨i,hi',rfl,hown,hg,hs⟩:=hrel;have HO:=hJ hown;have HG:=hJ hg;clear hown hg O0 G0
  by_cases hlt:i<n
  ·obtain ⟨b1,off,rfl,q2⟩:=HL.out.row i (by omega)
   have c0:=HG.out.cell q2 (by simp)
   have yF:Hid ((K.map (Value.int .i64)).take (i+1)=(K.map (Value.int .i64)).take i++[.int .i64 (K.getD i 0)]):=by
    show _=_
    rw [List.take_add_one,List.getElem?_map,List.getElem?_eq_getElem (show i<K.length by omega)];simp [List.getD,List.getElem?_eq_getElem (show i<K.length by omega)]
   clear q2;generalize K.getD i 0=no at *
   go_wp2_with (at_builtin;refine wpList_append_own _ rfl _ _ 26 rfl w.heap.size 3 i1 (.int .i64 0) 1 8 Tryz.underlying26 jN hy0 vL jE rfl (by decide) _ i ((K.map (Value.int .i64)).take i) rfl (HO.out.alloc _) ⟨wr.heap.size,0,none⟩ 1 1 [.int .i64 no] rfl rfl (JK _ _ _) (by intro u hu;simp at hu;subst hu;rfl) (by unfold maxLen;omega) (by omega) (by have:=HG.out.size;simp;omega) ?_)
   intro v' fI ho aW _;have Ww:=hJ ho;have bj:=hJ (jt HG.out HO.out (Nat.le_refl _) aW);have hs1:w.heap.size<fI.heap.size:=by have:=aW.size;simp at this;omega
   clear ho aW HO HG c0;go_wp2;go_roundw
   case rel=>exact ⟨i+1,by omega,by go_num,by rw [yF.out];exact Ww.out,bj.out,hs1⟩
   case measure=>simp [intOf];omega
  ·have hin:i=n:=by omega
   subst hin;have e:(K.map (Value.int .i64)).take i=K.map (Value.int .i64):=List.take_of_length_le (by rw [List.length_map];omega);rw [e] at HO;go_wp2;go_ret;exact ⟨⟨_,rfl,HO.out⟩,HG.out,hs⟩
theorem yV (a:Option Addr)(n cap:Nat)(L:List (List Int))(w:World)(hl:Lz w a L)(hn:L.length=n)(hm:n<=5000)(hs:∀ s∈L,s.length<=100000) :
  Calls Tryz.prog 23 #[.slice a n cap] w fun en w'=>(∃ v xs,en=.returned v/\w'.ownsRow w.heap.size 25 1 v n xs/\Sx w' xs L)/\w.grownBy w' none:=by
 obtain ⟨i0,hi,hz0,hz1,hz2⟩:=info_parts kN;have HL:=hJ hl;have HS:=hJ hs;clear hl hs;go_enter Tryz.func23,Tryz.ntmps23
 go_wp2_with (at_make;refine wpList_make_own _ rfl _ _ 23 rfl w.heap.size 25 i0 (.slice none 0 0) 1 Tryz.underlying23 hi hz0 hz1 _ _ _ n rfl rfl rfl ?b2 ?b3 (Nat.le_refl _) ?_)
 case b2=>rw [hz2];omega
 case b3=>unfold maxLen;omega
 intro w0 aR hg0;have O0:=hJ aR;have G0:=hJ hg0;clear aR hg0;go_wp2;go_loopw [3,4,5] (fun sl si _ wr=>∃ (i:Nat) (xs:List Value),i<=n/\si=.int .i64 i/\Sx wr xs (L.take i)/\wr.ownsRow w.heap.size 25 1 sl i xs/\w.grownBy wr none) (fun _ si _ _=>n - (intOf si).toNat)
 case atStart=>exact ⟨0,[],Nat.zero_le _,rfl,Sx.nil _,O0.out,G0.out⟩
 case round =>
  obtain ⟨i,xs,hi',rfl,eY,hown,hg⟩:=hrel;have HV:=hJ eY;have HO:=hJ hown;have HG:=hJ hg;clear eY hown hg O0 G0
  by_cases hlt:i<n
  ·obtain ⟨b1,off,ao,k,c,rfl,q2,q3,q4,q5⟩:=HL.out.row i (by omega)
   have c0:=HG.out.cell q2 (by simp);have B0:=hJ (q3.ae HG.out);have hk:=q3.len;have hk2:=HS.out _ (cS (show i<L.length by omega))
   have yF:Hid (L.take (i+1)=L.take i++[L.getD i []]):=by
    show _=_
    rw [List.take_add_one,List.getElem?_eq_getElem (show i<L.length by omega)];simp [List.getD,List.getElem?_eq_getElem (show i<L.length by omega)]
   clear q2 q3;generalize L.getD i []=x at *
   go_wp2_with fail
   refine (bq ao k c x _ B0.out (by omega)).mono ?_;rintro en w2 ⟨rfl,hown2,hg2,hs2⟩;have R2:=hJ hown2;have VE:=hJ (HV.out.ae hg2);have Sb:=hJ (fJ HO.out hg2);have eu:=hJ (gQ HG.out hg2);have GH:=HG.out.size;clear hown2 hg2 hs2 HV HO HG B0 c0;generalize wr.heap.size=g at *
   go_wp2_with (at_builtin;refine wpList_append_own _ rfl _ _ 23 rfl w.heap.size 25 i0 (.slice none 0 0) 1 24 Tryz.underlying23 hi hz0 hz1 hz2 rfl (by decide) _ i xs rfl (Sb.out.alloc _) ⟨w2.heap.size,0,none⟩ 1 1 [.slice (some ⟨g,0,none⟩) k k] rfl rfl (cell_one_new _ _ _) (by intro u hu;simp at hu;subst hu;rfl) (by unfold maxLen;omega) (by omega) (by have:=eu.out.size;simp;omega) ?_)
   intro v' w4 jR hg4 _;have uf:=World.grownBy_alloc w2 (.cells #[.slice (some ⟨g,0,none⟩) k k] 25) none;have HV4:=hJ (((VE.out.ae uf).snoc (fJ R2.out uf) hk).kept hg4 (Sb.out.alloc (.cells #[.slice (some ⟨g,0,none⟩) k k] 25)));have jL:=hJ (jt eu.out Sb.out (Nat.le_refl _) hg4);have HO4:=hJ jR;clear uf jR hg4 VE Sb eu R2;go_wp2;go_roundw
   case rel=>exact ⟨i+1,_,by omega,by go_num,by rw [yF.out];exact HV4.out,HO4.out,jL.out⟩
   case measure=>simp [intOf];omega
  ·have hin:i=n:=by omega
   subst hin;have e:L.take i=L:=by rw [<- hn,List.take_length]
   rw [e] at HV;go_wp2;go_ret;exact ⟨⟨_,xs,rfl,HO.out,HV.out⟩,HG.out⟩
theorem bM (h:w.ownsRow base t sz (.slice (some ⟨A,0,none⟩) n c) n xs):n<=c/\c<=9223372036854775807/\base<=A/\A<w.heap.size/\∃ cur,w.heap[A]?=some (.cells cur t (0,0)):=by
 have hl:=h.lt A rfl;rcases h.2 with ⟨e,_⟩ | ⟨g,cap',cur,hv,_,hg,hc,hm,_⟩
 ·cases e
 ·injection hv with e1 _ e3
  injection e1 with e1
  injection e1 with e1 _ _
  subst e1 e3;exact ⟨hc,by unfold maxLen at hm;omega,hl.1,hl.2,cur,hg⟩
theorem Fc (h:w.ownsRow base t sz (.slice (some ⟨A,0,none⟩) n c) n xs)(hg:w.grownBy w' (some g))(hne:A≠g):w'.ownsRow base t sz (.slice (some ⟨A,0,none⟩) n c) n xs :=
 h.kept hg (.inr (fun e=>hne (Option.some.inj e)))
theorem oG (h:w.ownsRow base t sz (.slice (some ⟨A,0,none⟩) n c) n xs)(ht:5≠t)(ho:Ow w g cap zs):g≠A:=by
 obtain ⟨cur,hc⟩:=ho.blk;intro e;exact cY h hc ht (by rw [e];rfl)
structure jG (w:World)(base A c n i:Nat)(gk gv:Nat->Nat × Nat)(xs:List Value)(L:List It):Prop where
 own:w.ownsRow base 63 4 (.slice (some ⟨A,0,none⟩) (n+1) c) (n+1) xs
 nl:L.length=n
 ni:i<=n
 sf:∀ j,j<n->xs[j*4+2]?=some (.int .i64 (L.getD j aG).size)/\xs[j*4+3]?=some (.int .i64 (L.getD j aG).first)
 kv:∀ j,j<i->xs[j*4]?=some (.slice (some ⟨(gk j).1,0,none⟩) (L.getD j aG).key.length (gk j).2)/\xs[j*4+1]?=some (.slice (some ⟨(gv j).1,0,none⟩) (L.getD j aG).val.length (gv j).2)
 last:xs[n*4+2]?=some (.int .i64 201)
 ko:∀ j,j<i->Ow w (gk j).1 (gk j).2 ((L.getD j aG).key++[201])/\Ow w (gv j).1 (gv j).2 ((L.getD j aG).val++[201])
 lo:∀ j,j<i->base<=(gk j).1/\(gk j).1<(gv j).1
 up:∀ a b,a<b->b<i->(gv a).1<(gk b).1
theorem jG.kept {L:List It}{row:Option Nat}(h:jG w base A c n i gk gv xs L)(hg:w.grownBy w' row)(hA:row≠some A)(hne:∀ j,j<i->row≠some (gk j).1/\row≠some (gv j).1):jG w' base A c n i gk gv xs L :=
 ⟨h.own.kept hg (.inr (fun e=>hA e.symm)),h.nl,h.ni,h.sf,h.kv,h.last,fun j hj=>⟨(h.ko j hj).1.kept hg (fun e=>(hne j hj).1 e.symm),(h.ko j hj).2.kept hg (fun e=>(hne j hj).2 e.symm)⟩,h.lo,h.up⟩
theorem jG.ae {base:Nat}{L:List It}(h:jG w base A c n i gk gv xs L)(hg:w.grownBy w' none):jG w' base A c n i gk gv xs L:=h.kept hg (by simp) (fun _ _=>⟨by simp,by simp⟩)
theorem jG.other {L:List It}(h:jG w base A c n i gk gv xs L)(hg:w.grownBy w' (some g))(hc:w.heap[g]?=some (.cells cur t (0,0)))(h1:t≠63)(h2:t≠5):jG w' base A c n i gk gv xs L:=by
 refine h.kept hg (fun e=>?_) (fun j hj=>⟨fun e=>?_,fun e=>?_⟩)
 ·exact cY h.own hc h1 e
 ·obtain ⟨cur',hc'⟩:=(h.ko j hj).1.blk
  rw [<- Option.some.inj e,hc] at hc';injection hc' with hc';injection hc' with _ hc' _;exact h2 hc'
 ·obtain ⟨cur',hc'⟩:=(h.ko j hj).2.blk
  rw [<- Option.some.inj e,hc] at hc';injection hc' with hc';injection hc' with _ hc' _;exact h2 hc'
theorem jG.cells {w:World}{L:List It}(h:jG w base A c n i gk gv xs L)(j:Nat)(hj:j<i) :
  w.cell? ⟨A,j*4,none⟩=some (.slice (some ⟨(gk j).1,0,none⟩) (L.getD j aG).key.length (gk j).2)/\w.cell? ⟨A,j*4+1,none⟩=some (.slice (some ⟨(gv j).1,0,none⟩) (L.getD j aG).val.length (gv j).2) /\
  w.cell? ⟨A,j*4+2,none⟩=some (.int .i64 (L.getD j aG).size)/\w.cell? ⟨A,j*4+3,none⟩=some (.int .i64 (L.getD j aG).first):=by
 have hn:=h.ni;refine ⟨?_,?_,?_,?_⟩
 ·rw [h.own.cellAt _ (by omega)];exact (h.kv j hj).1
 ·rw [h.own.cellAt _ (by omega)];exact (h.kv j hj).2
 ·rw [h.own.cellAt _ (by omega)];exact (h.sf j (by omega)).1
 ·rw [h.own.cellAt _ (by omega)];exact (h.sf j (by omega)).2
theorem jG.Oq {L:List It}(h:jG w base A c n i gk gv xs L):w.cell? ⟨A,n*4+2,none⟩=some (.int .i64 201):=by
 rw [h.own.cellAt _ (by omega)];exact h.last
theorem jG.old {L:List It}(h:jG w base A c n i gk gv xs L)(k:Nat)(hk:k<n*4):∃ v,w.cell? ⟨A,k,none⟩=some v:=by
 have hl:=h.own.1;rw [h.own.cellAt _ (by omega),List.getElem?_eq_getElem (by omega)];exact ⟨_,rfl⟩
theorem jG.il {L:List It}(h:jG w base A c n n gk gv xs L):Il w (some ⟨A,0,none⟩) L:=by
 refine ⟨fun j hj=>?_⟩;have hj':j<n:=by have:=h.nl;omega
 obtain ⟨a1,a2,a3,a4⟩:=h.cells j hj';obtain ⟨k1,k2⟩:=h.ko j hj';have l1:=k1.le;have l2:=k2.le;have m1:=k1.max;have m2:=k2.max;rw [List.length_append] at l1 l2;exact ⟨A,0,_,_,_,_,_,_,rfl,by rw [Nat.zero_add];exact a1,by rw [Nat.zero_add];exact a2,by rw [Nat.zero_add];exact a3,by rw [Nat.zero_add];exact a4,oB k1 _ rfl,by omega,by omega,oB k2 _ rfl,by omega,by omega⟩
theorem jG.key {c i:Nat}{L:List It}{zs:List Int}(h:jG w base A c n i gk gv xs L)(hi:i<n)(ho:Ow w g1 c1 zs)(v:Value) :
  jG (w.setCell ⟨A,i*4,none⟩ v) base A c n i gk gv (xs.set (i*4) v) L/\(w.setCell ⟨A,i*4,none⟩ v).cell? ⟨A,i*4,none⟩=some v/\Ow (w.setCell ⟨A,i*4,none⟩ v) g1 c1 zs/\w.grownBy (w.setCell ⟨A,i*4,none⟩ v) (some A):=by
 obtain ⟨s1,s2⟩:=h.own.stored (i*4) v;have hl:=h.own.1;have Yv:=h.ni;have ne:∀ j k,k<4->(j≠i∨k≠0)->(xs.set (i*4) v)[j*4+k]?=xs[j*4+k]?:=fun j k hk hjk=>List.getElem?_set_ne (by omega)
 refine ⟨⟨s1,h.nl,h.ni,fun j hj=>?_,fun j hj=>?_,?_,fun j hj=>?_,h.lo,h.up⟩,?_,ho.kept s2 (fun e=>oG h.own (by decide) ho (Option.some.inj e)),s2⟩
 ·rw [ne j 2 (by omega) (by omega),ne j 3 (by omega) (by omega)];exact h.sf j hj
 ·have:=ne j 0 (by omega) (by omega)
  rw [Nat.add_zero] at this;rw [this,ne j 1 (by omega) (by omega)];exact h.kv j hj
 ·rw [ne n 2 (by omega) (by omega)];exact h.last
 ·exact ⟨(h.ko j hj).1.kept s2 (fun e=>oG h.own (by decide) (h.ko j hj).1 (Option.some.inj e)),(h.ko j hj).2.kept s2 (fun e=>oG h.own (by decide) (h.ko j hj).2 (Option.some.inj e))⟩
 ·rw [s1.cellAt _ (by omega)];exact List.getElem?_set_self (by omega)
theorem jG.val {i g2 c2 k:Nat}{L:List It}(h:jG w base A c n i gk gv xs L)(hi:i<n)(h1:Ow w g1 c1 ((L.getD i aG).key++[201]))(h2:Ow w g2 c2 ((L.getD i aG).val++[201]))(hc:w.cell? ⟨A,i*4,none⟩=some (.slice (some ⟨g1,0,none⟩) k c1))
  (hk:(L.getD i aG).key.length=k) (hm:(L.getD i aG).val.length=m) (hb:base<=g1) (hlt:g1<g2) (VQ:∀ j,j<i->(gv j).1<g1) :
  jG (w.setCell ⟨A,i*4+1,none⟩ (.slice (some ⟨g2,0,none⟩) m c2)) base A c n (i+1) (fun j=>if j=i then (g1,c1) else gk j) (fun j=>if j=i then (g2,c2) else gv j) (xs.set (i*4+1) (.slice (some ⟨g2,0,none⟩) m c2)) L/\w.grownBy (w.setCell ⟨A,i*4+1,none⟩ (.slice (some ⟨g2,0,none⟩) m c2)) (some A):=by
 obtain ⟨s1,s2⟩:=h.own.stored (i*4+1) (.slice (some ⟨g2,0,none⟩) m c2);have hl:=h.own.1;have Yv:=h.ni;have kp:∀ {g cap:Nat} {zs:List Int},Ow w g cap zs->Ow (w.setCell ⟨A,i*4+1,none⟩ (.slice (some ⟨g2,0,none⟩) m c2)) g cap zs:=fun ho=>ho.kept s2 (fun e=>oG h.own (by decide) ho (Option.some.inj e))
 have ne:∀ j k',k'<4->(j≠i∨k'≠1)->(xs.set (i*4+1) (.slice (some ⟨g2,0,none⟩) m c2))[j*4+k']?=xs[j*4+k']?:=fun j k' hk hjk=>List.getElem?_set_ne (by omega)
 have ne0:∀ j,(xs.set (i*4+1) (.slice (some ⟨g2,0,none⟩) m c2))[j*4]?=xs[j*4]?:=fun j=>List.getElem?_set_ne (by omega)
 refine ⟨⟨s1,h.nl,by omega,fun j hj=>?_,fun j hj=>?_,?_,fun j hj=>?_,fun j hj=>?_,fun a b hab hbi=>?_⟩,s2⟩
 ·rw [ne j 2 (by omega) (by omega),ne j 3 (by omega) (by omega)];exact h.sf j hj
 ·by_cases e:j=i
  ·subst e
   simp only [if_pos,hk,hm];refine ⟨?_,List.getElem?_set_self (by omega)⟩;rw [ne0 j,<- h.own.cellAt _ (by omega)];exact hc
  ·simp only [if_neg e]
   rw [ne0 j,ne j 1 (by omega) (by omega)];exact h.kv j (by omega)
 ·rw [ne n 2 (by omega) (by omega)];exact h.last
 ·by_cases e:j=i
  ·subst e;simp only [if_pos];exact ⟨kp h1,kp h2⟩
  ·simp only [if_neg e];exact ⟨kp (h.ko j (by omega)).1,kp (h.ko j (by omega)).2⟩
 ·by_cases e:j=i
  ·subst e;simp only [if_pos];exact ⟨hb,hlt⟩
  ·simp only [if_neg e];exact h.lo j (by omega)
 ·have ea:a≠i:=by omega
  simp only [if_neg ea]
  by_cases e:b=i
  ·subst e;simp only [if_pos];exact VQ a hab
  ·simp only [if_neg e];exact h.up a b hab (by omega)
structure mU (w:World)(base A c n i h:Nat)(gs:Nat->Nat × Nat)(xs:List Value)(L:List (List Int)):Prop where
 own:w.ownsRow base 25 1 (.slice (some ⟨A,0,none⟩) (n+1) c) (n+1) xs
 nl:L.length=n
 ni:i<=n
 el:∀ j,j<i->xs[j]?=some (.slice (some ⟨(gs j).1,0,none⟩) (L.getD j []).length (gs j).2)
 last:xs[n]?=some (.slice (some ⟨h,0,none⟩) 1 1)
 ho:Ow w h 1 [201]
 hb:base<=h
 ko:∀ j,j<i->Ow w (gs j).1 (gs j).2 (L.getD j []++[201])
 lo:∀ j,j<i->h<(gs j).1
 up:∀ a b,a<b->b<i->(gs a).1<(gs b).1
theorem mU.kept {row:Option Nat}(k:mU w base A c n i h gs xs L)(hg:w.grownBy w' row)(hA:row≠some A)(hh:row≠some h)(hne:∀ j,j<i->row≠some (gs j).1):mU w' base A c n i h gs xs L :=
 ⟨k.own.kept hg (.inr (fun e=>hA e.symm)),k.nl,k.ni,k.el,k.last,k.ho.kept hg (fun e=>hh e.symm),k.hb,fun j hj=>(k.ko j hj).kept hg (fun e=>hne j hj e.symm),k.lo,k.up⟩
theorem mU.ae {base:Nat}(k:mU w base A c n i h gs xs L)(hg:w.grownBy w' none):mU w' base A c n i h gs xs L:=k.kept hg (by simp) (by simp) (fun _ _=>by simp)
theorem mU.other (k:mU w base A c n i h gs xs L)(hg:w.grownBy w' (some g))(hc:w.heap[g]?=some (.cells cur t (0,0)))(h1:t≠25)(h2:t≠5):mU w' base A c n i h gs xs L:=by
 have u8:∀ {q cap:Nat} {zs:List Int},Ow w q cap zs->some g≠some q:=fun ho e=>by
  obtain ⟨cur',hc'⟩:=ho.blk;rw [<- Option.some.inj e,hc] at hc';injection hc' with hc';injection hc' with _ hc' _;exact h2 hc'
 exact k.kept hg (fun e=>cY k.own hc h1 e) (u8 k.ho) (fun j hj=>u8 (k.ko j hj))
theorem mU.cell {i:Nat}{L:List (List Int)}(k:mU w base A c n i h gs xs L)(j:Nat)(hj:j<i):w.cell? ⟨A,j,none⟩=some (.slice (some ⟨(gs j).1,0,none⟩) (L.getD j []).length (gs j).2):=by
 have:=k.ni;rw [k.own.cellAt _ (by omega)];exact k.el j hj
theorem mU.Oq (k:mU w base A c n i h gs xs L):w.cell? ⟨A,n,none⟩=some (.slice (some ⟨h,0,none⟩) 1 1):=by
 rw [k.own.cellAt _ (by omega)];exact k.last
theorem mU.old (k:mU w base A c n i h gs xs L)(j:Nat)(hj:j<n):∃ v,w.cell? ⟨A,j,none⟩=some v:=by
 have hl:=k.own.1;rw [k.own.cellAt _ (by omega),List.getElem?_eq_getElem (by omega)];exact ⟨_,rfl⟩
theorem mU.lz (k:mU w base A c n n h gs xs L):Lz w (some ⟨A,0,none⟩) L:=by
 refine ⟨fun j hj=>?_⟩;have hj':j<n:=by have:=k.nl;omega
 have k1:=k.ko j hj';have l1:=k1.le;have m1:=k1.max;rw [List.length_append] at l1;exact ⟨A,0,_,_,_,rfl,by rw [Nat.zero_add];exact k.cell j hj',Wv k1 _ rfl,by omega,m1⟩
theorem mU.lay (k:mU w base A c n i h gs xs L)(hi:i<n)(h1:Ow w g1 c1 (L.getD i []++[201]))(hm:(L.getD i []).length=m)(hb:h<g1)(VQ:∀ j,j<i->(gs j).1<g1) :
  mU (w.setCell ⟨A,i,none⟩ (.slice (some ⟨g1,0,none⟩) m c1)) base A c n (i+1) h (fun j=>if j=i then (g1,c1) else gs j) (xs.set i (.slice (some ⟨g1,0,none⟩) m c1)) L/\w.grownBy (w.setCell ⟨A,i,none⟩ (.slice (some ⟨g1,0,none⟩) m c1)) (some A):=by
 obtain ⟨s1,s2⟩:=k.own.stored i (.slice (some ⟨g1,0,none⟩) m c1);have hl:=k.own.1;have Yv:=k.ni;have kp:∀ {g cap:Nat} {zs:List Int},Ow w g cap zs->Ow (w.setCell ⟨A,i,none⟩ (.slice (some ⟨g1,0,none⟩) m c1)) g cap zs:=fun ho=>ho.kept s2 (fun e=>oG k.own (by decide) ho (Option.some.inj e))
 have ne:∀ j,j≠i->(xs.set i (.slice (some ⟨g1,0,none⟩) m c1))[j]?=xs[j]?:=fun j hj=>List.getElem?_set_ne (fun e=>hj e.symm)
 refine ⟨⟨s1,k.nl,by omega,fun j hj=>?_,?_,kp k.ho,k.hb,fun j hj=>?_,fun j hj=>?_,fun a b hab hbi=>?_⟩,s2⟩
 ·by_cases e:j=i
  ·subst e
   simp only [if_pos,hm];exact List.getElem?_set_self (by omega)
  ·simp only [if_neg e];rw [ne j e];exact k.el j (by omega)
 ·rw [ne n (by omega)];exact k.last
 ·by_cases e:j=i
  ·subst e;simp only [if_pos];exact kp h1
  ·simp only [if_neg e];exact kp (k.ko j (by omega))
 ·by_cases e:j=i
  ·subst e;simp only [if_pos];exact hb
  ·simp only [if_neg e];exact k.lo j (by omega)
 ·have ea:a≠i:=by omega
  simp only [if_neg ea]
  by_cases e:b=i
  ·subst e;simp only [if_pos];exact VQ a hab
  ·simp only [if_neg e];exact k.up a b hab (by omega)
theorem oH {b':Nat}(h:w.ownsRow b t sz v n xs)(hb:b'<=b):w.ownsRow b' t sz v n xs:=by
 refine ⟨h.1,?_⟩;rcases h.2 with h1 | ⟨g,cap,cur,e,h2,h3⟩
 ·exact .inl h1
 ·exact .inr ⟨g,cap,cur,e,Nat.le_trans hb h2,h3⟩
structure wK (w wr:World)(P U Q:Nat)(x y:Pv):Prop where
 px:Px wr P x
 pu:Px wr U zV
 pq:Px wr Q y
 gr:w.grownBy wr none
 lt:w.heap.size<=P/\P<U/\U<Q
theorem wK.ae {x y:Pv}(h:wK w wr P U Q x y)(hg:wr.grownBy w' none):wK w w' P U Q x y:=⟨h.px.ae hg,h.pu.ae hg,h.pq.ae hg,gQ h.gr hg,h.lt⟩
theorem wK.set {x y z:Pv}(h:wK w wr P U Q x y)(hg:wr.grownBy w' (some Q))(hz:Px w' Q z):wK w w' P U Q x z :=
 ⟨h.px.kept hg (fun e=>by have:=Option.some.inj e;have:=h.lt;omega),h.pu.kept hg (fun e=>by have:=Option.some.inj e;have:=h.lt;omega),hz,af h.gr hg (by have:=h.lt;omega),h.lt⟩
theorem wK.row {x y:Pv}(h:wK w wr P U Q x y)(ho:wr.ownsRow b t sz v n xs)(ht:30≠t)(hb:w.heap.size<=b)(hg:wr.grownBy w' v.ownBlock):wK w w' P U Q x y :=
 ⟨h.px.kept hg (cY ho h.px ht),h.pu.kept hg (cY ho h.pu ht),h.pq.kept hg (cY ho h.pq ht),ul h.gr hg (fun g e=>Nat.le_trans hb (ho.lt g e).1),h.lt⟩
theorem jG.start {b2:Nat}{gk0 gv0:Nat->Nat × Nat}{L:List It}(h:Lm w b [] [] gk0 gv0 xs L)(hn:L.length=n)(ho:w'.ownsRow b2 63 4 (.slice (some ⟨A,0,none⟩) (n+1) c) (n+1) (xs++[.slice none 0 0,.slice none 0 0,.int .i64 201,.int .i64 0])) :
  jG w' b2 A c n 0 gk gv (xs++[.slice none 0 0,.slice none 0 0,.int .i64 201,.int .i64 0]) L:=by
 have hl:=h.len;subst hn;refine ⟨ho,rfl,Nat.zero_le _,fun j hj=>?_,fun j hj=>by omega,?_,fun j hj=>by omega,fun j hj=>by omega,fun a b' _ hb'=>by omega⟩
 ·obtain ⟨_,_,a3,a4⟩:=h.el j hj
  rw [List.getElem?_append_left (by omega),List.getElem?_append_left (by omega)];exact ⟨a3,a4⟩
 ·rw [List.getElem?_append_right (by omega),hl,Nat.add_sub_cancel_left]
  rfl
theorem mU.start {gs:Nat->Nat × Nat}(hl:xs.length=n)(hn:L.length=n)(ho:w.ownsRow b 25 1 (.slice (some ⟨A,0,none⟩) (n+1) c) (n+1) (xs++[.slice (some ⟨h,0,none⟩) 1 1]))(hw:Ow w h 1 [201])(hb:b<=h) :
  mU w b A c n 0 h gs (xs++[.slice (some ⟨h,0,none⟩) 1 1]) L:=by
 refine ⟨ho,hn,Nat.zero_le _,fun j hj=>by omega,?_,hw,hb,fun j hj=>by omega,fun j hj=>by omega,fun a b' _ hb'=>by omega⟩;rw [List.getElem?_append_right (by omega),hl,Nat.sub_self]
 rfl
theorem Fe (w:World):Ow (w.alloc (.cells #[.int .u8 201] 5)) w.heap.size 1 [201]:=⟨⟨#[.int .u8 201],heap_alloc_new w _,rfl,fun j hj=>by
 obtain rfl:j=0:=by simp at hj;omega
 rfl⟩,by simp,by omega⟩
structure Yw where
 A:Nat
 c:Nat
 gk:Nat->Nat × Nat
 gv:Nat->Nat × Nat
 xs:List Value
 B:Nat
 d:Nat
 h:Nat
 gs:Nat->Nat × Nat
 ys:List Value
 K:Nat
 e:Nat
 D:Nat
 f:Nat
 T:Nat
 t:Nat
 m1:Nat
 m2:Nat
structure GY (w:World)(base:Nat)(y:Pv)(p:Pg)(b:Yw):Prop where
 kind:y.k=p.kind
 level:y.l=p.level
 next:y.x=p.next
 head:y.h=p.head
 yi:y.i=⟨some ⟨b.A,0,none⟩,p.items.length,b.c⟩
 it:jG w base b.A b.c p.items.length p.items.length b.gk b.gv b.xs p.items
 ib:Ib p.items
 im:∀ j,j<p.items.length->(b.gv j).1<b.m1
 ys:y.s=⟨some ⟨b.B,0,none⟩,p.aj.length,b.d⟩
 sp:mU w b.m1 b.B b.d p.aj.length p.aj.length b.h b.gs b.ys p.aj
 sb:Lb p.aj
 bm:base<=b.m1
 sm:b.h<b.m2/\∀ j,j<p.aj.length->(b.gs j).1<b.m2
 yd:y.d=⟨some ⟨b.K,0,none⟩,p.kids.length,b.e⟩
 kd:w.ownsRow base 69 2 (.slice (some ⟨b.K,0,none⟩) (p.kids.length+1) b.e) (p.kids.length+1) (kc p.kids++[.int .i64 201,.int .i64 0])
 yb:y.b=⟨some ⟨b.D,0,none⟩,p.data.length,b.f⟩
 da:Ow w b.D b.f (p.data++[201])
 db:Bt p.data
 dm:b.m2<=b.D
 mm:b.m1<=b.m2
 yt:y.t=⟨some ⟨b.T,0,none⟩,p.list.length,b.t⟩
 li:w.ownsRow base 3 1 (.slice (some ⟨b.T,0,none⟩) (p.list.length+1) b.t) (p.list.length+1) ((p.list++[201]).map (Value.int .i64))
theorem GY.ae {base:Nat}{y:Pv}{p:Pg}{b:Yw}(h:GY w base y p b)(hg:w.grownBy w' none):GY w' base y p b :=
 ⟨h.kind,h.level,h.next,h.head,h.yi,h.it.ae hg,h.ib,h.im,h.ys,h.sp.ae hg,h.sb,h.bm,h.sm,h.yd,fJ h.kd hg,h.yb,h.da.ae hg,h.db,h.dm,h.mm,h.yt,fJ h.li hg⟩
theorem Sc {K e:Nat}{L:List Kd}(h:w.ownsRow base 69 2 (.slice (some ⟨K,0,none⟩) N e) N (kc L++ys)):Kl w (some ⟨K,0,none⟩) L:=by
 refine ⟨fun i hi=>?_⟩;have hl:=h.1;have hk:=uh L;rw [List.length_append,hk] at hl;obtain ⟨a1,a2⟩:=Ev L i hi;refine ⟨K,0,rfl,?_,?_⟩
 ·rw [Nat.zero_add,h.cellAt _ (by omega),List.getElem?_append_left (by omega)];exact a1
 ·rw [Nat.zero_add,h.cellAt _ (by omega),List.getElem?_append_left (by omega)];exact a2
theorem Sd {t:Nat}{L ys:List Int}(h:w.ownsRow base 3 1 (.slice (some ⟨T,0,none⟩) N t) N ((L++ys).map (Value.int .i64))):Nt w (some ⟨T,0,none⟩) L:=by
 refine ⟨fun i hi=>?_⟩;have hl:=h.1;rw [List.length_map,List.length_append] at hl;refine ⟨T,0,rfl,?_⟩;rw [Nat.zero_add,h.cellAt _ (by omega),List.getElem?_map,List.getElem?_append_left hi];simp [List.getD,List.getElem?_eq_getElem hi]
theorem GY.pm {y:Pv}{p:Pg}{b:Yw}(h:GY w base y p b):Pm w y p/\Pr8 y:=by
 have c1:=bM h.it.own;have c2:=bM h.sp.own;have c3:=bM h.kd;have c4:=h.da.le;have Cw:=h.da.max;have c5:=bM h.li;rw [List.length_append] at c4;simp only [List.length_singleton] at c4
 refine ⟨⟨h.kind,h.level,h.next,h.head,by rw [h.yi];exact h.it.il,h.ib,by rw [h.yi],by rw [h.yi];show p.items.length<=_;omega,by rw [h.ys];exact h.sp.lz,h.sb,by rw [h.ys],by rw [h.ys];show p.aj.length<=_;omega,
  by rw [h.yd];exact Sc h.kd,by rw [h.yd],by rw [h.yd];show p.kids.length<=_;omega,by rw [h.yb];exact oB h.da _ rfl,h.db,by rw [h.yb];show p.data.length<=_;omega,by rw [h.yt];exact Sd h.li,by rw [h.yt],by rw [h.yt];show p.list.length<=_;omega⟩,?_⟩
 refine ⟨?_,?_,?_,?_,?_⟩
 ·rw [h.yi];exact ⟨by show p.items.length<=b.c;omega,by show b.c<=_;omega⟩
 ·rw [h.ys];exact ⟨by show p.aj.length<=b.d;omega,by show b.d<=_;omega⟩
 ·rw [h.yd];exact ⟨by show p.kids.length<=b.e;omega,by show b.e<=_;omega⟩
 ·rw [h.yb];exact ⟨by show p.data.length<=b.f;omega,by show b.f<=_;omega⟩
 ·rw [h.yt];exact ⟨by show p.list.length<=b.t;omega,by show b.t<=_;omega⟩
theorem jG.row {i:Nat}{L:List It}(h:jG w base A c n i gk gv xs L)(ho:w.ownsRow b t sz v m ys)(h1:63≠t)(h2:5≠t)(hg:w.grownBy w' v.ownBlock):jG w' base A c n i gk gv xs L:=by
 obtain ⟨_,_,_,_,cur,hc⟩:=bM h.own;refine h.kept hg (fun e=>cY ho hc h1 e.symm) (fun j hj=>⟨fun e=>?_,fun e=>?_⟩)
 ·obtain ⟨cur',hc'⟩:=(h.ko j hj).1.blk
  exact cY ho hc' h2 e.symm
 ·obtain ⟨cur',hc'⟩:=(h.ko j hj).2.blk
  exact cY ho hc' h2 e.symm
theorem mU.row {i:Nat}{L:List (List Int)}(k:mU w base A c n i h gs xs L)(ho:w.ownsRow b t sz v m ys)(h1:25≠t)(h2:5≠t)(hg:w.grownBy w' v.ownBlock):mU w' base A c n i h gs xs L:=by
 obtain ⟨_,_,_,_,cur,hc⟩:=bM k.own;refine k.kept hg (fun e=>cY ho hc h1 e.symm) (fun e=>?_) (fun j hj e=>?_)
 ·obtain ⟨cur',hc'⟩:=k.ho.blk
  exact cY ho hc' h2 e.symm
 ·obtain ⟨cur',hc'⟩:=(k.ko j hj).blk
  exact cY ho hc' h2 e.symm
theorem Ow.Ot (h:Ow w g cap zs)(ho:w.ownsRow b t sz v m ys)(h2:5≠t)(hg:w.grownBy w' v.ownBlock):Ow w' g cap zs:=by
 obtain ⟨cur,hc⟩:=h.blk;exact h.kept hg (cY ho hc h2)
theorem Cx {sz2:Nat}{t2:TypeId}(h:w.ownsRow base t sz (.slice (some ⟨A,0,none⟩) n c) n xs)(ho:w.ownsRow b t2 sz2 v m ys)(ht:t≠t2)(hg:w.grownBy w' v.ownBlock):w'.ownsRow base t sz (.slice (some ⟨A,0,none⟩) n c) n xs:=by
 obtain ⟨_,_,_,_,cur,hc⟩:=bM h;exact h.kept hg (.inr (cY ho hc ht))
theorem Ow.Xb {y:Pv}(h:Ow w g cap zs)(hx:Px w Q y)(hg:w.grownBy w' (some Q)):Ow w' g cap zs:=by
 obtain ⟨cur,hc⟩:=h.blk;exact h.kept hg (fun e=>hx.other hc (by decide) (Option.some.inj e))
theorem iX {y:Pv}(h:w.ownsRow base t sz (.slice (some ⟨A,0,none⟩) n c) n xs)(hx:Px w Q y)(ht:t≠30)(hg:w.grownBy w' (some Q)):w'.ownsRow base t sz (.slice (some ⟨A,0,none⟩) n c) n xs:=by
 obtain ⟨_,_,_,_,cur,hc⟩:=bM h;exact Fc h hg (hx.other hc ht)
structure Fo8 (p:Pg)(w:World)(en:Ending)(w':World):Prop where
 out:∃ b,en=.returned (.bool b)/\(b=true->Fits p)
 gr:w.grownBy w' none
theorem Kk (x:Pv)(p:Pg)(w:World)(hp:Pm w x p):Calls Tryz.prog 5 #[.agg #[.int .i64 x.k,.slice x.i.a x.i.n x.i.c,.int .i64 x.l,.slice x.s.a x.s.n x.s.c,.slice x.d.a x.d.n x.d.c,.int .i64 x.x,.slice x.b.a x.b.n x.b.c,.slice x.t.a x.t.n x.t.c,.int .i64 x.h.v,.int .i64 x.h.c,.int .i64 x.h.r,.int .i64 x.h.h,.int .i64 x.h.k,.int .i64 x.h.f,.int .i64 x.h.n]] w fun en w'=>Fo8 p w en w':=by
 have HP:=hJ hp;clear hp;go_enter Tryz.func5,Tryz.ntmps5;go_upto_region 1 with fail
 have X1:=hJ (Px.new w x);have G1:=hJ (gP w x);have HP1:=hJ (HP.out.ae G1.out);generalize w.alloc (.cells #[.int .i64 x.k,.slice x.i.a x.i.n x.i.c,.int .i64 x.l,.slice x.s.a x.s.n x.s.c,.slice x.d.a x.d.n x.d.c,.int .i64 x.x,.slice x.b.a x.b.n x.b.c,.slice x.t.a x.t.n x.t.c,.int .i64 x.h.v,.int .i64 x.h.c,.int .i64 x.h.r,.int .i64 x.h.h,.int .i64 x.h.k,.int .i64 x.h.f,.int .i64 x.h.n] 30)=w1 at *;obtain ⟨c0,c1,c2,c3,c4,c5,c6,c7,c8,c9,c10,c11,c12,c13,c14⟩:=X1.out.cells
 by_cases h0:x.i.n<=2000
 ·have g0:(x.i.n:Int)<=2000:=by omega
  by_cases h1:x.s.n<=2000
  ·have g1:(x.s.n:Int)<=2000:=by omega
   by_cases h2:x.d.n<=2000
   ·have g2:(x.d.n:Int)<=2000:=by omega
    by_cases h3:x.b.n<=65536
    ·have g3:(x.b.n:Int)<=65536:=by omega
     by_cases h4:x.t.n<=2000
     ·have g4:(x.t.n:Int)<=2000:=by omega
      have Ae:p.items.length<=2000:=by rw [HP.out.il];exact h0
      have Yt:Hid (p.aj.length<=2000/\p.kids.length<=2000/\p.data.length<=65536/\p.list.length<=2000):=⟨by rw [HP.out.sl];exact h1,by rw [HP.out.kl];exact h2,by rw [HP.out.data.len];exact h3,by rw [HP.out.tl];exact h4⟩;go_wp2;go_loopw [3,4] (fun so si wr=>∃ (i:Nat) (b:Bool),i<=x.i.n/\si=.int .i64 i/\so=.bool b/\(b=true->∀ j,j<i->(p.items.getD j aG).key.length<=65536/\(p.items.getD j aG).val.length<=65536)/\wr=w1) (fun _ si _=>x.i.n - (intOf si).toNat)
      case atStart=>exact ⟨0,true,Nat.zero_le _,rfl,rfl,fun _ j hj=>by omega,rfl⟩
      case round =>
       obtain ⟨i,b,hi,rfl,rfl,hb,rfl⟩:=hrel;have Yx:=hJ hb;clear hb;cases b with
       | false =>
        go_wp2
        all_goals
         go_loopw [3,5] (fun so si wq=>so=.bool false/\si=.int .i64 0/\wq=wr) (fun _ _ _=>0)
         case atStart=>exact ⟨rfl,rfl,rfl⟩
         case round =>
          obtain ⟨rfl,rfl,rfl⟩:=hrel;go_wp2
          all_goals
           go_ret;exact ⟨⟨false,rfl,fun h=>by cases h⟩,G1.out⟩
       | true =>
        by_cases hlt:i<x.i.n
        ·obtain ⟨b1,off,ao,n',c',bo,m',d',ha,q1,q2,_,_,hK,_,_,hV,_,_⟩:=HP1.out.items.row i (by rw [HP.out.il];exact hlt)
         have e1:(p.items.getD i aG).key.length=n':=hK.len;have e2:(p.items.getD i aG).val.length=m':=hV.len;have t1:(i:Int)<(x.i.n:Int):=by omega
         have t0:(0:Int)<=(i:Int):=by omega
         have E1:=hJ e1;have E2:=hJ e2;clear hK hV e1 e2
         by_cases u1:n'<=65536
         ·have v1:(n':Int)<=65536:=by omega
          by_cases u2:m'<=65536
          ·have v2:(m':Int)<=65536:=by omega
           go_wp2;go_roundw
           case rel =>
            refine ⟨i+1,true,by omega,by go_num,rfl,fun _ j hj=>?_,by trivial⟩
            by_cases e:j=i
            ·subst e;rw [E1.out,E2.out];exact ⟨u1,u2⟩
            ·exact Yx.out rfl j (by omega)
           case measure=>simp [intOf];omega
          ·have v2:¬ (m':Int)<=65536:=by omega
           go_wp2;go_roundw
           case rel=>exact ⟨i+1,false,by omega,by go_num,rfl,(fun h=>by cases h),by trivial⟩
           case measure=>simp [intOf];omega
         ·have v1:¬ (n':Int)<=65536:=by omega
          go_wp2;go_roundw
          case rel=>exact ⟨i+1,false,by omega,by go_num,rfl,(fun h=>by cases h),by trivial⟩
          case measure=>simp [intOf];omega
        ·obtain rfl:i=x.i.n:=by omega
         have t1:¬ (x.i.n:Int)<(x.i.n:Int):=by omega
         have HIT:Hid (∀ y∈p.items,y.key.length<=65536/\y.val.length<=65536):=by
          intro y hy;obtain ⟨j,hj,rfl⟩:=List.mem_iff_getElem.1 hy;have:=Yx.out rfl j (by rw [<- HP.out.il];exact hj);simpa [List.getD,List.getElem?_eq_getElem hj] using this
         clear Yx hlt hi;go_wp2;go_loopw [3,5] (fun so si wq=>∃ (q:Nat) (b:Bool),q<=x.s.n/\si=.int .i64 q/\so=.bool b/\(b=true->∀ j,j<q->(p.aj.getD j []).length<=65536)/\wq=wr) (fun _ si _=>x.s.n - (intOf si).toNat)
         case atStart=>exact ⟨0,true,Nat.zero_le _,rfl,rfl,fun _ j hj=>by omega,rfl⟩
         case round =>
          obtain ⟨q,b,hq,rfl,rfl,hb,rfl⟩:=hrel;have HBs:=hJ hb;clear hb;cases b with
          | false =>
           go_wp2
           all_goals
            go_ret;exact ⟨⟨false,rfl,fun h=>by cases h⟩,G1.out⟩
          | true =>
           by_cases hlt:q<x.s.n
           ·obtain ⟨b1,off,ao,k',c',ha,q1,hK,_,_⟩:=HP1.out.aj.row q (by rw [HP.out.sl];exact hlt)
            have e1:(p.aj.getD q []).length=k':=hK.len;have E1:=hJ e1;have t2:(q:Int)<(x.s.n:Int):=by omega
            have t0:(0:Int)<=(q:Int):=by omega
            clear hK e1
            by_cases u1:k'<=65536
            ·have v1:(k':Int)<=65536:=by omega
             go_wp2;go_roundw
             case rel =>
              refine ⟨q+1,true,by omega,by go_num,rfl,fun _ j hj=>?_,by trivial⟩
              by_cases e:j=q
              ·subst e;rw [E1.out];exact u1
              ·exact HBs.out rfl j (by omega)
             case measure=>simp [intOf];omega
            ·have v1:¬ (k':Int)<=65536:=by omega
             go_wp2;go_roundw
             case rel=>exact ⟨q+1,false,by omega,by go_num,rfl,(fun h=>by cases h),by trivial⟩
             case measure=>simp [intOf];omega
           ·obtain rfl:q=x.s.n:=by omega
            have t2:¬ (x.s.n:Int)<(x.s.n:Int):=by omega
            have HFT:Hid (Fits p):=by
             refine ⟨Ae,Yt.out.1,Yt.out.2.1,Yt.out.2.2.1,Yt.out.2.2.2,HIT.out,fun s hs=>?_⟩;obtain ⟨j,hj,rfl⟩:=List.mem_iff_getElem.1 hs;have:=HBs.out rfl j (by rw [<- HP.out.sl];exact hj);simpa [List.getD,List.getElem?_eq_getElem hj] using this
            go_wp2;go_ret;exact ⟨⟨true,rfl,fun _=>HFT.out⟩,G1.out⟩
     ·have g4:¬ (x.t.n:Int)<=2000:=by omega
      go_wp2;go_loopw [3,4] (fun so si wr=>so=.bool false/\si=.int .i64 0/\wr=w1) (fun _ _ _=>0)
      case atStart=>exact ⟨rfl,rfl,rfl⟩
      case round =>
       obtain ⟨rfl,rfl,rfl⟩:=hrel;go_wp2
       all_goals
        go_loopw [3,5] (fun so si wq=>so=.bool false/\si=.int .i64 0/\wq=wr) (fun _ _ _=>0)
        case atStart=>exact ⟨rfl,rfl,rfl⟩
        case round =>
         obtain ⟨rfl,rfl,rfl⟩:=hrel;go_wp2
         all_goals
          go_ret;exact ⟨⟨false,rfl,fun h=>by cases h⟩,G1.out⟩
    ·have g3:¬ (x.b.n:Int)<=65536:=by omega
     go_wp2;go_loopw [3,4] (fun so si wr=>so=.bool false/\si=.int .i64 0/\wr=w1) (fun _ _ _=>0)
     case atStart=>exact ⟨rfl,rfl,rfl⟩
     case round =>
      obtain ⟨rfl,rfl,rfl⟩:=hrel;go_wp2
      all_goals
       go_loopw [3,5] (fun so si wq=>so=.bool false/\si=.int .i64 0/\wq=wr) (fun _ _ _=>0)
       case atStart=>exact ⟨rfl,rfl,rfl⟩
       case round =>
        obtain ⟨rfl,rfl,rfl⟩:=hrel;go_wp2
        all_goals
         go_ret;exact ⟨⟨false,rfl,fun h=>by cases h⟩,G1.out⟩
   ·have g2:¬ (x.d.n:Int)<=2000:=by omega
    go_wp2;go_loopw [3,4] (fun so si wr=>so=.bool false/\si=.int .i64 0/\wr=w1) (fun _ _ _=>0)
    case atStart=>exact ⟨rfl,rfl,rfl⟩
    case round =>
     obtain ⟨rfl,rfl,rfl⟩:=hrel;go_wp2
     all_goals
      go_loopw [3,5] (fun so si wq=>so=.bool false/\si=.int .i64 0/\wq=wr) (fun _ _ _=>0)
      case atStart=>exact ⟨rfl,rfl,rfl⟩
      case round =>
       obtain ⟨rfl,rfl,rfl⟩:=hrel;go_wp2
       all_goals
        go_ret;exact ⟨⟨false,rfl,fun h=>by cases h⟩,G1.out⟩
  ·have g1:¬ (x.s.n:Int)<=2000:=by omega
   go_wp2;go_loopw [3,4] (fun so si wr=>so=.bool false/\si=.int .i64 0/\wr=w1) (fun _ _ _=>0)
   case atStart=>exact ⟨rfl,rfl,rfl⟩
   case round =>
    obtain ⟨rfl,rfl,rfl⟩:=hrel;go_wp2
    all_goals
     go_loopw [3,5] (fun so si wq=>so=.bool false/\si=.int .i64 0/\wq=wr) (fun _ _ _=>0)
     case atStart=>exact ⟨rfl,rfl,rfl⟩
     case round =>
      obtain ⟨rfl,rfl,rfl⟩:=hrel;go_wp2
      all_goals
       go_ret;exact ⟨⟨false,rfl,fun h=>by cases h⟩,G1.out⟩
 ·have g0:¬ (x.i.n:Int)<=2000:=by omega
  go_wp2;go_loopw [3,4] (fun so si wr=>so=.bool false/\si=.int .i64 0/\wr=w1) (fun _ _ _=>0)
  case atStart=>exact ⟨rfl,rfl,rfl⟩
  case round =>
   obtain ⟨rfl,rfl,rfl⟩:=hrel;go_wp2
   all_goals
    go_loopw [3,5] (fun so si wq=>so=.bool false/\si=.int .i64 0/\wq=wr) (fun _ _ _=>0)
    case atStart=>exact ⟨rfl,rfl,rfl⟩
    case round =>
     obtain ⟨rfl,rfl,rfl⟩:=hrel;go_wp2
     all_goals
      go_ret;exact ⟨⟨false,rfl,fun h=>by cases h⟩,G1.out⟩
structure Xc (p:Pg)(w:World)(en:Ending)(w':World):Prop where
 out:∃ ao n zs e,en=.returned (.tuple #[.slice ao n n,.int .i64 e])/\uM p zs e/\ai w' ao n n zs/\Bt zs/\n<=4096/\(0<n->∃ g,ao=some ⟨g,0,none⟩/\w.heap.size<=g/\Rw w' g zs)
 gr:w.grownBy w' none
theorem iY (h:Bt zs):Bt (gM zs):=by
 unfold gM;split
 ·exact h.app (fun z hz=>Al _ z hz)
 ·exact Bt.nil
end Go.Proofs.YtgldkdbkaachkaaGreatDoor
