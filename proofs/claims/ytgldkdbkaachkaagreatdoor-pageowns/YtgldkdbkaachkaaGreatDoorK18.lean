import Derived.Test.YtgldkdbkaachkaaGreatDoorK12
import Derived.Test.YtgldkdbkaachkaaGreatDoorK13
import Derived.Test.YtgldkdbkaachkaaGreatDoorK15
import Derived.Test.YtgldkdbkaachkaaGreatDoorK9
import Derived.Test.YtgldkdbkaachkaaGreatDoorK17
import Derived.Deep.RegionHeld3
import Derived.Deep.DrawnRows
import Derived.Deep.CutBlock
set_option maxRecDepth 100000
set_option maxHeartbeats 4000000
namespace Go.Proofs.YtgldkdbkaachkaaGreatDoor
open Go.RowKit
variable {ops:Array Oper}{Q:Exit->Act->World->Prop}{e f k lv nx x:Int}{L:List (List Int)}{D b mk mv ys zs:List Int}{rest:List Oper}{xs:List Value}{A T base c cap g m n q sz:Nat}{gk gv:Nat->Nat × Nat}{o:Oper}{a:Option Addr}{t:TypeId}{v:Value}{w w' w0:World}
theorem uk.qf {GJ:Int}{L':List (List Int)}{K K':List Kd}{e':Int}(h:uk zs lv L K e)(g:uk zs GJ L' K' e'):lv=GJ/\L=L'/\K=K'/\e=e':=by
 by_cases h0:e=0
 ·obtain ⟨_,k,M,hL,hK,hG⟩:=h.good h0
  by_cases g0:e'=0
  ·obtain ⟨_,k',M',hL',hK',mR⟩:=g.good g0
   obtain ⟨e1,e2,e3⟩:=Jc hG mR;subst e1 e2 e3;exact ⟨rfl,hL.trans hL'.symm,hK.trans hK'.symm,h0.trans g0.symm⟩
  ·exact absurd hG ((g.bad g0).2.2.2 _ _ _)
 ·by_cases g0:e'=0
  ·obtain ⟨_,k',M',_,_,mR⟩:=g.good g0
   exact absurd mR ((h.bad h0).2.2.2 _ _ _)
  ·obtain ⟨a1,a2,a3,_⟩:=h.bad h0
   obtain ⟨b1,b2,b3,_⟩:=g.bad g0;have c1:=h.code;have c2:=g.code;exact ⟨a1.trans b1.symm,a2.trans b2.symm,a3.trans b3.symm,by omega⟩
theorem Um.qf {L M:List It}(h:Um zs L e)(g:Um zs M f):L=M/\e=f:=by
 rcases h with ⟨rfl,h1,h2⟩ | ⟨rfl,rfl,h1⟩ <;> rcases g with ⟨rfl,g1,g2⟩ | ⟨rfl,rfl,g1⟩
 ·exact ⟨Mu h1 g1,rfl⟩
 ·exact absurd ⟨h1,h2⟩ (g1 L)
 ·exact absurd ⟨g1,g2⟩ (h1 M)
 ·exact ⟨rfl,rfl⟩
structure Pg where
 kind:Int
 items:List It
 level:Int
 aj:List (List Int)
 kids:List Kd
 next:Int
 data:List Int
 list:List Int
 head:Hd
def zP:Pg:=⟨0,[],0,[],[],0,[],[],zH⟩
def iT (k:Int):Bool:=decide (1<=k) && decide (k<=5)
theorem lN :iT k=true↔1<=k/\k<=5:=by simp [iT]
def eV (p:Pg):Pg :=
 if p.kind=1 then ⟨p.kind,p.items,0,[],[],0,[],[],zH⟩ else if p.kind=2 then ⟨p.kind,[],p.level,p.aj,p.kids,0,[],[],zH⟩
 else if p.kind=3 then ⟨p.kind,[],0,[],[],p.next,p.data,[],zH⟩ else if p.kind=4 then ⟨p.kind,[],0,[],[],p.next,[],p.list,zH⟩ else ⟨p.kind,[],0,[],[],0,[],[],p.head⟩
def iy (p:Pg)(b:List Int)(e:Int):Prop :=
 (p.kind=1/\b=(enc p.items).1/\e=(enc p.items).2)∨(p.kind=2/\jr p.level p.aj p.kids b e)∨(p.kind=3/\b=oD p.next p.data/\e=eD p.next p.data.length) ∨
 (p.kind=4/\b=oL p.next p.list/\e=eL p.next p.list)∨(p.kind=5/\b=oM p.head/\e=eM p.head)
theorem JP {K:List Kd}(h:jr lv L K zs e)(g:jr lv L K ys f):zs=ys/\e=f:=by
 have he:e=f:=h.code.trans g.code.symm;subst he
 by_cases h0:e=0
 ·obtain ⟨k,M,h1,h2,_,rfl⟩:=h.good h0
  obtain ⟨k',M',g1,g2,_,rfl⟩:=g.good h0;obtain ⟨rfl,rfl⟩:=mN (h1.symm.trans g1) (h2.symm.trans g2);exact ⟨rfl,rfl⟩
 ·exact ⟨(h.bad h0).2.trans (g.bad h0).2.symm,rfl⟩
theorem iy.qf {p:Pg}{c:List Int}(h:iy p b e)(g:iy p c f):b=c/\e=f:=by
 rcases h with ⟨h0,rfl,rfl⟩ | ⟨h0,h1⟩ | ⟨h0,rfl,rfl⟩ | ⟨h0,rfl,rfl⟩ | ⟨h0,rfl,rfl⟩ <;> rcases g with ⟨g0,rfl,rfl⟩ | ⟨g0,g1⟩ | ⟨g0,rfl,rfl⟩ | ⟨g0,rfl,rfl⟩ | ⟨g0,rfl,rfl⟩
 all_goals first | exact ⟨rfl,rfl⟩ | exact JP h1 g1 | (rw [h0] at g0;exact absurd g0 (by decide))
def uM (p:Pg)(zs:List Int)(e:Int):Prop :=
 (iT p.kind=false/\e=80/\zs=[])∨(iT p.kind=true/\p≠eV p/\e=81/\zs=[]) ∨
 (iT p.kind=true/\p=eV p/\∃ b f,iy p b f/\((f≠0/\e=f/\zs=[])∨(f=0/\e=kG b/\zs=gM b)))
theorem uM.qf {p:Pg}(h:uM p zs e)(g:uM p ys f):zs=ys/\e=f:=by
 rcases h with ⟨h0,h5,h6⟩ | ⟨h0,h1,h5,h6⟩ | ⟨h0,h1,b,e',h2,h3⟩
 ·rcases g with ⟨g0,g5,g6⟩ | ⟨g0,g1,g5,g6⟩ | ⟨g0,g1,c,f',g2,g3⟩
  ·exact ⟨h6.trans g6.symm,h5.trans g5.symm⟩
  ·rw [h0] at g0;cases g0
  ·rw [h0] at g0;cases g0
 ·rcases g with ⟨g0,g5,g6⟩ | ⟨g0,g1,g5,g6⟩ | ⟨g0,g1,c,f',g2,g3⟩
  ·rw [h0] at g0;cases g0
  ·exact ⟨h6.trans g6.symm,h5.trans g5.symm⟩
  ·exact absurd g1 h1
 ·rcases g with ⟨g0,g5,g6⟩ | ⟨g0,g1,g5,g6⟩ | ⟨g0,g1,c,f',g2,g3⟩
  ·rw [h0] at g0;cases g0
  ·exact absurd h1 g1
  ·obtain ⟨rfl,rfl⟩:=h2.qf g2
   rcases h3 with ⟨a1,a2,a3⟩ | ⟨a1,a2,a3⟩
   ·rcases g3 with ⟨b1,b2,b3⟩ | ⟨b1,b2,b3⟩
    ·exact ⟨a3.trans b3.symm,a2.trans b2.symm⟩
    ·exact absurd b1 a1
   ·rcases g3 with ⟨b1,b2,b3⟩ | ⟨b1,b2,b3⟩
    ·exact absurd a1 b1
    ·exact ⟨a3.trans b3.symm,a2.trans b2.symm⟩
def mS (k:Int)(b:List Int)(p:Pg)(e:Int):Prop :=
 (k=1/\∃ L,Um b L e/\(e=0->p=⟨1,L,0,[],[],0,[],[],zH⟩))∨(k=2/\∃ lv L K,uk b lv L K e/\(e=0->p=⟨2,[],lv,L,K,0,[],[],zH⟩)) ∨
 (k=3/\e=vE b/\(e=0->p=⟨3,[],0,[],[],vN b,vD b,[],zH⟩))∨(k=4/\e=uE b/\(e=0->p=⟨4,[],0,[],[],uN b,[],uL b,zH⟩)) ∨
 (k=5/\e=aE b/\(e=0->p=⟨5,[],0,[],[],0,[],[],aH b⟩))
def gj (zs:List Int)(p:Pg)(e:Int):Prop :=
 (e≠0->p=zP)/\((cZ zs≠0/\e=cZ zs)∨(cZ zs=0/\iT ((bD zs).getD 0 0)=false/\e=80)∨(cZ zs=0/\mS ((bD zs).getD 0 0) (bD zs) p e))
theorem mS.qf {p q:Pg}(h:mS k b p e)(g:mS k b q f):e=f/\(e=0->p=q):=by
 rcases h with ⟨h0,L,h1,h2⟩ | ⟨h0,lv,L,K,h1,h2⟩ | ⟨h0,h1,h2⟩ | ⟨h0,h1,h2⟩ | ⟨h0,h1,h2⟩ <;> rcases g with ⟨g0,M,g1,g2⟩ | ⟨g0,mv,M,J,g1,g2⟩ | ⟨g0,g1,g2⟩ | ⟨g0,g1,g2⟩ | ⟨g0,g1,g2⟩
 all_goals first | (rw [h0] at g0;exact absurd g0 (by decide)) | skip
 ·obtain ⟨rfl,rfl⟩:=h1.qf g1
  exact ⟨rfl,fun h=>(h2 h).trans (g2 h).symm⟩
 ·obtain ⟨rfl,rfl,rfl,rfl⟩:=h1.qf g1
  exact ⟨rfl,fun h=>(h2 h).trans (g2 h).symm⟩
 all_goals
  obtain rfl:=h1.trans g1.symm;exact ⟨rfl,fun h=>(h2 h).trans (g2 h).symm⟩
theorem mS.ok {p:Pg}(h:mS k b p e):iT k=true:=by
 rcases h with ⟨rfl,_⟩ | ⟨rfl,_⟩ | ⟨rfl,_⟩ | ⟨rfl,_⟩ | ⟨rfl,_⟩ <;> rfl
theorem gj.qf {p q:Pg}(h:gj zs p e)(g:gj zs q f):p=q/\e=f:=by
 obtain ⟨hz,h⟩:=h;obtain ⟨gz,g⟩:=g
 have key:e=f/\(e=0->p=q):=by
  rcases h with ⟨h0,rfl⟩ | ⟨h0,h1,rfl⟩ | ⟨h0,h1⟩ <;> rcases g with ⟨g0,rfl⟩ | ⟨g0,g1,rfl⟩ | ⟨g0,g1⟩
  ·exact ⟨rfl,fun h=>absurd h h0⟩
  ·exact absurd g0 h0
  ·exact absurd g0 h0
  ·exact absurd h0 g0
  ·exact ⟨rfl,fun h=>absurd h (by decide)⟩
  ·rw [g1.ok] at h1;cases h1
  ·exact absurd h0 g0
  ·rw [h1.ok] at g1;cases g1
  ·exact h1.qf g1
 obtain ⟨rfl,h2⟩:=key
 by_cases h0:e=0
 ·exact ⟨h2 h0,rfl⟩
 ·exact ⟨(hz h0).trans (gz h0).symm,rfl⟩
structure Ag where
 a:Option Addr
 n:Nat
 c:Nat
structure Pv where
 k:Int
 i:Ag
 l:Int
 s:Ag
 d:Ag
 x:Int
 b:Ag
 t:Ag
 h:Hd
def nS:Ag:=⟨none,0,0⟩
structure Pm (w:World)(x:Pv)(p:Pg):Prop where
 kind:x.k=p.kind
 level:x.l=p.level
 next:x.x=p.next
 head:x.h=p.head
 items:Il w x.i.a p.items
 ib:Ib p.items
 il:p.items.length=x.i.n
 ic:x.i.n<=9223372036854775807
 aj:Lz w x.s.a p.aj
 sb:Lb p.aj
 sl:p.aj.length=x.s.n
 sc:x.s.n<=9223372036854775807
 kids:Kl w x.d.a p.kids
 kl:p.kids.length=x.d.n
 kc:x.d.n<=9223372036854775807
 data:ai w x.b.a x.b.n x.b.c p.data
 db:Bt p.data
 dc:x.b.n<=9223372036854775807
 list:Nt w x.t.a p.list
 tl:p.list.length=x.t.n
 tc:x.t.n<=9223372036854775807
structure Pr8 (x:Pv):Prop where
 i:x.i.n<=x.i.c/\x.i.c<=9223372036854775807
 s:x.s.n<=x.s.c/\x.s.c<=9223372036854775807
 d:x.d.n<=x.d.c/\x.d.c<=9223372036854775807
 b:x.b.n<=x.b.c/\x.b.c<=9223372036854775807
 t:x.t.n<=x.t.c/\x.t.c<=9223372036854775807
theorem Pm.ae {x:Pv}{p:Pg}(h:Pm w x p)(hg:w.grownBy w' none):Pm w' x p :=
 ⟨h.kind,h.level,h.next,h.head,h.items.ae hg,h.ib,h.il,h.ic,h.aj.ae hg,h.sb,h.sl,h.sc,h.kids.ae hg,h.kl,h.kc,h.data.ae hg,h.db,h.dc,h.list.ae hg,h.tl,h.tc⟩
def Px (w:World)(T:Nat)(x:Pv):Prop:=w.heap[T]?=some (.cells #[.int .i64 x.k,.slice x.i.a x.i.n x.i.c,.int .i64 x.l,.slice x.s.a x.s.n x.s.c,.slice x.d.a x.d.n x.d.c,.int .i64 x.x,.slice x.b.a x.b.n x.b.c,.slice x.t.a x.t.n x.t.c,.int .i64 x.h.v,.int .i64 x.h.c,.int .i64 x.h.r,.int .i64 x.h.h,.int .i64 x.h.k,.int .i64 x.h.f,.int .i64 x.h.n] 30 (0,0))
theorem Px.lt {x:Pv}(h:Px w T x):T<w.heap.size:=(Array.getElem?_eq_some_iff.1 h).1
theorem Px.cells {w:World}{x:Pv}(h:Px w T x):w.cell? ⟨T,0,none⟩=some (.int .i64 x.k)/\w.cell? ⟨T,1,none⟩=some (.slice x.i.a x.i.n x.i.c)/\w.cell? ⟨T,2,none⟩=some (.int .i64 x.l)/\w.cell? ⟨T,3,none⟩=some (.slice x.s.a x.s.n x.s.c) /\
  w.cell? ⟨T,4,none⟩=some (.slice x.d.a x.d.n x.d.c)/\w.cell? ⟨T,5,none⟩=some (.int .i64 x.x)/\w.cell? ⟨T,6,none⟩=some (.slice x.b.a x.b.n x.b.c)/\w.cell? ⟨T,7,none⟩=some (.slice x.t.a x.t.n x.t.c)/\w.cell? ⟨T,8,none⟩=some (.int .i64 x.h.v)/\w.cell? ⟨T,9,none⟩=some (.int .i64 x.h.c) /\
  w.cell? ⟨T,10,none⟩=some (.int .i64 x.h.r)/\w.cell? ⟨T,11,none⟩=some (.int .i64 x.h.h)/\w.cell? ⟨T,12,none⟩=some (.int .i64 x.h.k)/\w.cell? ⟨T,13,none⟩=some (.int .i64 x.h.f)/\w.cell? ⟨T,14,none⟩=some (.int .i64 x.h.n):=by
 refine ⟨?_,?_,?_,?_,?_,?_,?_,?_,?_,?_,?_,?_,?_,?_,?_⟩
 all_goals (rw [cell_of_row w T _ _ _ _ h];rfl)
theorem Px.frozen {x:Pv}(h:Px w T x)(j:Nat):w.frozen? ⟨T,j,none⟩=false:=frozen_of_row w T j _ _ h
theorem Px.kept {x:Pv}{row:Option Nat}(h:Px w T x)(hg:w.grownBy w' row)(hne:some T≠row):Px w' T x:=(hg.block T h.lt hne).trans h
theorem Px.ae {x:Pv}(h:Px w T x)(hg:w.grownBy w' none):Px w' T x:=h.kept hg (by simp)
theorem gP (w:World)(x:Pv):w.grownBy (w.alloc (.cells #[.int .i64 x.k,.slice x.i.a x.i.n x.i.c,.int .i64 x.l,.slice x.s.a x.s.n x.s.c,.slice x.d.a x.d.n x.d.c,.int .i64 x.x,.slice x.b.a x.b.n x.b.c,.slice x.t.a x.t.n x.t.c,.int .i64 x.h.v,.int .i64 x.h.c,.int .i64 x.h.r,.int .i64 x.h.h,.int .i64 x.h.k,.int .i64 x.h.f,.int .i64 x.h.n] 30)) none:=World.grownBy_alloc w _ none
theorem Px.new (w:World)(x:Pv):Px (w.alloc (.cells #[.int .i64 x.k,.slice x.i.a x.i.n x.i.c,.int .i64 x.l,.slice x.s.a x.s.n x.s.c,.slice x.d.a x.d.n x.d.c,.int .i64 x.x,.slice x.b.a x.b.n x.b.c,.slice x.t.a x.t.n x.t.c,.int .i64 x.h.v,.int .i64 x.h.c,.int .i64 x.h.r,.int .i64 x.h.h,.int .i64 x.h.k,.int .i64 x.h.f,.int .i64 x.h.n] 30)) w.heap.size x:=heap_alloc_new w _
theorem lO:(Tryz.prog.info? 30).map (·.size)=some 15:=by kernel_rfl
theorem iU {fn:Func}{p:Tmp}(h:fn.results=#[.cell p 30])(tmps:Array Value)(w:World)(U:Nat)(x:Pv)(hp:tmps.getD p undef=.pointer (some ⟨U,0,none⟩))(hx:Px w U x) :
  (results fn tmps).run Tryz.prog w=.ok (.agg #[.int .i64 x.k,.slice x.i.a x.i.n x.i.c,.int .i64 x.l,.slice x.s.a x.s.n x.s.c,.slice x.d.a x.d.n x.d.c,.int .i64 x.x,.slice x.b.a x.b.n x.b.c,.slice x.t.a x.t.n x.t.c,.int .i64 x.h.v,.int .i64 x.h.c,.int .i64 x.h.r,.int .i64 x.h.h,.int .i64 x.h.k,.int .i64 x.h.f,.int .i64 x.h.n]) w :=
 results_cell_row h tmps w U 30 _ (0,0) _ hp hx Tryz.underlying30 rfl lO
theorem aQ {fn:Func}{p u:Tmp}(h:fn.results=#[.cell p 30,.tmp u])(tmps:Array Value)(w:World)(U:Nat)(x:Pv)(hp:tmps.getD p undef=.pointer (some ⟨U,0,none⟩))(hx:Px w U x) :
  (results fn tmps).run Tryz.prog w=.ok (.tuple #[.agg #[.int .i64 x.k,.slice x.i.a x.i.n x.i.c,.int .i64 x.l,.slice x.s.a x.s.n x.s.c,.slice x.d.a x.d.n x.d.c,.int .i64 x.x,.slice x.b.a x.b.n x.b.c,.slice x.t.a x.t.n x.t.c,.int .i64 x.h.v,.int .i64 x.h.c,.int .i64 x.h.r,.int .i64 x.h.h,.int .i64 x.h.k,.int .i64 x.h.f,.int .i64 x.h.n],tmps.getD u undef]) w:=by
 rw [results_cell_tmp h,hp];have:=run_loadVar_row (P:=Tryz.prog) w U 30 30 _ (0,0) _ hx Tryz.underlying30 rfl lO;simp [asAddr,this,Result.andThen]
theorem ax {a:Act}(hgd:o.guard=none)(p q:Operand)(ho:o.op=.store 30 p q)(g:Nat)(x y:Pv)(hp:a.eval p=.pointer (some ⟨g,0,none⟩))(hx:a.eval q=.agg #[.int .i64 x.k,.slice x.i.a x.i.n x.i.c,.int .i64 x.l,.slice x.s.a x.s.n x.s.c,.slice x.d.a x.d.n x.d.c,.int .i64 x.x,.slice x.b.a x.b.n x.b.c,.slice x.t.a x.t.n x.t.c,.int .i64 x.h.v,.int .i64 x.h.c,.int .i64 x.h.r,.int .i64 x.h.h,.int .i64 x.h.k,.int .i64 x.h.f,.int .i64 x.h.n])(hr:Px w g y)
  (h:∀ w',Px w' g x->w.grownBy w' (some g)->w'.heap.size=w.heap.size->wpList Tryz.prog ops Q rest (a.put o.dst undef) w'):wpList Tryz.prog ops Q (o::rest) a w:=by
 refine wpList_plain hgd fun K hK=>?_
 unfold Oper.wp;have hv:=run_storeVar_row (P:=Tryz.prog) w g 30 30 _ #[.int .i64 x.k,.slice x.i.a x.i.n x.i.c,.int .i64 x.l,.slice x.s.a x.s.n x.s.c,.slice x.d.a x.d.n x.d.c,.int .i64 x.x,.slice x.b.a x.b.n x.b.c,.slice x.t.a x.t.n x.t.c,.int .i64 x.h.v,.int .i64 x.h.c,.int .i64 x.h.r,.int .i64 x.h.h,.int .i64 x.h.k,.int .i64 x.h.f,.int .i64 x.h.n] hr lO rfl (by simp [Value.oneCell'])
 have hr2:(execOp a.eval o).run Tryz.prog w=.ok .skip (w.setRow g #[.int .i64 x.k,.slice x.i.a x.i.n x.i.c,.int .i64 x.l,.slice x.s.a x.s.n x.s.c,.slice x.d.a x.d.n x.d.c,.int .i64 x.x,.slice x.b.a x.b.n x.b.c,.slice x.t.a x.t.n x.t.c,.int .i64 x.h.v,.int .i64 x.h.c,.int .i64 x.h.r,.int .i64 x.h.h,.int .i64 x.h.k,.int .i64 x.h.f,.int .i64 x.h.n]):=by
  simp [execOp,ho,hp,hx,Instr.storeAt,Instr.sureAddr,hv,Result.andThen]
 rw [hr2,Oper.upon_skip];have hro:Rp w (w.setRow g #[.int .i64 x.k,.slice x.i.a x.i.n x.i.c,.int .i64 x.l,.slice x.s.a x.s.n x.s.c,.slice x.d.a x.d.n x.d.c,.int .i64 x.x,.slice x.b.a x.b.n x.b.c,.slice x.t.a x.t.n x.t.c,.int .i64 x.h.v,.int .i64 x.h.c,.int .i64 x.h.r,.int .i64 x.h.h,.int .i64 x.h.k,.int .i64 x.h.f,.int .i64 x.h.n]) g 30 (#[.int .i64 x.k,.slice x.i.a x.i.n x.i.c,.int .i64 x.l,.slice x.s.a x.s.n x.s.c,.slice x.d.a x.d.n x.d.c,.int .i64 x.x,.slice x.b.a x.b.n x.b.c,.slice x.t.a x.t.n x.t.c,.int .i64 x.h.v,.int .i64 x.h.c,.int .i64 x.h.r,.int .i64 x.h.h,.int .i64 x.h.k,.int .i64 x.h.f,.int .i64 x.h.n]).toList:=⟨setRow_heap w g _ _ _ _ hr,fun k hk=>setRow_other w g k _ hk,by simp [World.setRow],rfl,rfl,rfl⟩;exact hK _ _ (h _ hro.row hro.grown hro.size)
theorem Hd.ne{v c r t n v' c' r' t' k' f' n':Int}(h:¬ (v=v'/\c=c'/\r=r'/\t=t'/\k=k'/\f=f'/\n=n')):(⟨v,c,r,t,k,f,n⟩:Hd)≠⟨v',c',r',t',k',f',n'⟩:=fun e=>h (by injection e;exact ⟨‹_›,‹_›,‹_›,‹_›,‹_›,‹_›,‹_›⟩)
theorem yR (v c r t k f n v' c' r' t' k' f' n':Int)(w:World):Calls Tryz.prog 34 #[.agg #[.int .i64 v,.int .i64 c,.int .i64 r,.int .i64 t,.int .i64 k,.int .i64 f,.int .i64 n],.agg #[.int .i64 v',.int .i64 c',.int .i64 r',.int .i64 t',.int .i64 k',.int .i64 f',.int .i64 n']] w fun en w'=>(∃ b,en=.returned (.bool b)/\(b=true↔(⟨v,c,r,t,k,f,n⟩:Hd)=⟨v',c',r',t',k',f',n'⟩))/\w.grownBy w' none:=by
 by_cases h0:v=v'
 ·subst h0
  by_cases h1:c=c'
  ·subst h1
   by_cases h2:r=r'
   ·subst h2
    by_cases h3:t=t'
    ·subst h3
     by_cases h4:k=k'
     ·subst h4
      by_cases h5:f=f'
      ·subst h5
       by_cases h6:n=n'
       ·subst h6
        refine (yM v c r t k f n w).mono ?_;rintro en w' ⟨rfl,hg⟩;exact ⟨⟨true,rfl,by simp⟩,hg⟩
       ·have g6:(n==n')=false:=by simp [h6]
        have HN:Hid (¬ (⟨v,c,r,t,k,f,n⟩:Hd)=⟨v,c,r,t,k,f,n'⟩):=Hd.ne (fun e=>h6 (by have:=e;simp_all));go_enter Tryz.func34,Tryz.ntmps34;go_wp2;go_ret;exact ⟨⟨false,rfl,by simp only [Bool.false_eq_true,false_iff];exact HN.out⟩,aN w _ _⟩
      ·have g5:(f==f')=false:=by simp [h5]
       have HN:Hid (¬ (⟨v,c,r,t,k,f,n⟩:Hd)=⟨v,c,r,t,k,f',n'⟩):=Hd.ne (fun e=>h5 (by have:=e;simp_all));go_enter Tryz.func34,Tryz.ntmps34;go_wp2;go_ret;exact ⟨⟨false,rfl,by simp only [Bool.false_eq_true,false_iff];exact HN.out⟩,aN w _ _⟩
     ·have g4:(k==k')=false:=by simp [h4]
      have HN:Hid (¬ (⟨v,c,r,t,k,f,n⟩:Hd)=⟨v,c,r,t,k',f',n'⟩):=Hd.ne (fun e=>h4 (by have:=e;simp_all));go_enter Tryz.func34,Tryz.ntmps34;go_wp2;go_ret;exact ⟨⟨false,rfl,by simp only [Bool.false_eq_true,false_iff];exact HN.out⟩,aN w _ _⟩
    ·have g3:(t==t')=false:=by simp [h3]
     have HN:Hid (¬ (⟨v,c,r,t,k,f,n⟩:Hd)=⟨v,c,r,t',k',f',n'⟩):=Hd.ne (fun e=>h3 (by have:=e;simp_all));go_enter Tryz.func34,Tryz.ntmps34;go_wp2;go_ret;exact ⟨⟨false,rfl,by simp only [Bool.false_eq_true,false_iff];exact HN.out⟩,aN w _ _⟩
   ·have g2:(r==r')=false:=by simp [h2]
    have HN:Hid (¬ (⟨v,c,r,t,k,f,n⟩:Hd)=⟨v,c,r',t',k',f',n'⟩):=Hd.ne (fun e=>h2 (by have:=e;simp_all));go_enter Tryz.func34,Tryz.ntmps34;go_wp2;go_ret;exact ⟨⟨false,rfl,by simp only [Bool.false_eq_true,false_iff];exact HN.out⟩,aN w _ _⟩
  ·have g1:(c==c')=false:=by simp [h1]
   have HN:Hid (¬ (⟨v,c,r,t,k,f,n⟩:Hd)=⟨v,c',r',t',k',f',n'⟩):=Hd.ne (fun e=>h1 (by have:=e;simp_all));go_enter Tryz.func34,Tryz.ntmps34;go_wp2;go_ret;exact ⟨⟨false,rfl,by simp only [Bool.false_eq_true,false_iff];exact HN.out⟩,aN w _ _⟩
 ·have g0:(v==v')=false:=by simp [h0]
  have HN:Hid (¬ (⟨v,c,r,t,k,f,n⟩:Hd)=⟨v',c',r',t',k',f',n'⟩):=Hd.ne (fun e=>h0 (by have:=e;simp_all));go_enter Tryz.func34,Tryz.ntmps34;go_wp2;go_ret;exact ⟨⟨false,rfl,by simp only [Bool.false_eq_true,false_iff];exact HN.out⟩,aN w _ _⟩
theorem Pg.same {p q:Pg}(h1:p.kind=q.kind)(h2:p.items=q.items)(h3:p.level=q.level)(h4:p.aj=q.aj)(h5:p.kids=q.kids)(h6:p.next=q.next)(h7:p.data=q.data)(h8:p.list=q.list)(h9:p.head=q.head):p=q:=by
 cases p;cases q;simp only at h1 h2 h3 h4 h5 h6 h7 h8 h9;subst h1 h2 h3 h4 h5 h6 h7 h8 h9;rfl
theorem uO (ao bo:Option Addr)(n m c d:Nat)(za zb:List Int)(w:World)(ha:ai w ao n c za)(hb:ai w bo m d zb)(ba:Bt za)(bb:Bt zb) :
  Calls Tryz.prog 11 #[.slice ao n c,.slice bo m d] w fun en w'=>(∃ b,en=.returned (.bool b)/\(b=true↔za=zb))/\w'=w:=by
 by_cases h:za=zb
 ·refine (cw ao bo n m c d za zb w ha hb h).mono ?_
  rintro en w' ⟨rfl,rfl⟩;exact ⟨⟨true,rfl,by simp [h]⟩,rfl⟩
 ·refine (lu ao bo n m c d za zb w ha hb ba bb h).mono ?_
  rintro en w' ⟨rfl,rfl⟩;exact ⟨⟨false,rfl,by simp [h]⟩,rfl⟩
theorem gm (x y:Pv)(p q:Pg)(w:World)(hx:Pm w x p)(hy:Pm w y q):Calls Tryz.prog 12 #[.agg #[.int .i64 x.k,.slice x.i.a x.i.n x.i.c,.int .i64 x.l,.slice x.s.a x.s.n x.s.c,.slice x.d.a x.d.n x.d.c,.int .i64 x.x,.slice x.b.a x.b.n x.b.c,.slice x.t.a x.t.n x.t.c,.int .i64 x.h.v,.int .i64 x.h.c,.int .i64 x.h.r,.int .i64 x.h.h,.int .i64 x.h.k,.int .i64 x.h.f,.int .i64 x.h.n],.agg #[.int .i64 y.k,.slice y.i.a y.i.n y.i.c,.int .i64 y.l,.slice y.s.a y.s.n y.s.c,.slice y.d.a y.d.n y.d.c,.int .i64 y.x,.slice y.b.a y.b.n y.b.c,.slice y.t.a y.t.n y.t.c,.int .i64 y.h.v,.int .i64 y.h.c,.int .i64 y.h.r,.int .i64 y.h.h,.int .i64 y.h.k,.int .i64 y.h.f,.int .i64 y.h.n]] w fun en w'=>(∃ b,en=.returned (.bool b)/\(b=true↔p=q))/\w.grownBy w' none:=by
 have HX:=hJ hx;have HY:=hJ hy;clear hx hy;go_enter Tryz.func12,Tryz.ntmps12;go_upto_region 1 with fail
 have X1:=hJ ((Px.new w x).ae (gP _ y));have Y1:Hid (Px ((w.alloc (.cells #[.int .i64 x.k,.slice x.i.a x.i.n x.i.c,.int .i64 x.l,.slice x.s.a x.s.n x.s.c,.slice x.d.a x.d.n x.d.c,.int .i64 x.x,.slice x.b.a x.b.n x.b.c,.slice x.t.a x.t.n x.t.c,.int .i64 x.h.v,.int .i64 x.h.c,.int .i64 x.h.r,.int .i64 x.h.h,.int .i64 x.h.k,.int .i64 x.h.f,.int .i64 x.h.n] 30)).alloc (.cells #[.int .i64 y.k,.slice y.i.a y.i.n y.i.c,.int .i64 y.l,.slice y.s.a y.s.n y.s.c,.slice y.d.a y.d.n y.d.c,.int .i64 y.x,.slice y.b.a y.b.n y.b.c,.slice y.t.a y.t.n y.t.c,.int .i64 y.h.v,.int .i64 y.h.c,.int .i64 y.h.r,.int .i64 y.h.h,.int .i64 y.h.k,.int .i64 y.h.f,.int .i64 y.h.n] 30)) (w.heap.size+1) y):=heap_alloc2_new w _ _;have G1:=hJ (aN w (.cells #[.int .i64 x.k,.slice x.i.a x.i.n x.i.c,.int .i64 x.l,.slice x.s.a x.s.n x.s.c,.slice x.d.a x.d.n x.d.c,.int .i64 x.x,.slice x.b.a x.b.n x.b.c,.slice x.t.a x.t.n x.t.c,.int .i64 x.h.v,.int .i64 x.h.c,.int .i64 x.h.r,.int .i64 x.h.h,.int .i64 x.h.k,.int .i64 x.h.f,.int .i64 x.h.n] 30) (.cells #[.int .i64 y.k,.slice y.i.a y.i.n y.i.c,.int .i64 y.l,.slice y.s.a y.s.n y.s.c,.slice y.d.a y.d.n y.d.c,.int .i64 y.x,.slice y.b.a y.b.n y.b.c,.slice y.t.a y.t.n y.t.c,.int .i64 y.h.v,.int .i64 y.h.c,.int .i64 y.h.r,.int .i64 y.h.h,.int .i64 y.h.k,.int .i64 y.h.f,.int .i64 y.h.n] 30));generalize (w.alloc (.cells #[.int .i64 x.k,.slice x.i.a x.i.n x.i.c,.int .i64 x.l,.slice x.s.a x.s.n x.s.c,.slice x.d.a x.d.n x.d.c,.int .i64 x.x,.slice x.b.a x.b.n x.b.c,.slice x.t.a x.t.n x.t.c,.int .i64 x.h.v,.int .i64 x.h.c,.int .i64 x.h.r,.int .i64 x.h.h,.int .i64 x.h.k,.int .i64 x.h.f,.int .i64 x.h.n] 30)).alloc (.cells #[.int .i64 y.k,.slice y.i.a y.i.n y.i.c,.int .i64 y.l,.slice y.s.a y.s.n y.s.c,.slice y.d.a y.d.n y.d.c,.int .i64 y.x,.slice y.b.a y.b.n y.b.c,.slice y.t.a y.t.n y.t.c,.int .i64 y.h.v,.int .i64 y.h.c,.int .i64 y.h.r,.int .i64 y.h.h,.int .i64 y.h.k,.int .i64 y.h.f,.int .i64 y.h.n] 30)=w1 at *;obtain ⟨c0,c1,c2,c3,c4,c5,c6,c7,c8,c9,c10,c11,c12,c13,c14⟩:=X1.out.cells;obtain ⟨d0,d1,d2,d3,d4,d5,d6,d7,d8,d9,d10,d11,d12,d13,d14⟩:=Y1.out.cells
 go_wp2_with fail
 refine (lY x.i.a x.i.n x.i.c p.items y.i.a y.i.n y.i.c q.items _ (HX.out.items.ae G1.out) HX.out.ib HX.out.il (HY.out.items.ae G1.out) HY.out.ib HY.out.il (by have:=HX.out.ic;omega)).mono ?_;rintro en w2 ⟨⟨b1,rfl,hb1⟩,hg2⟩;have B1:=hJ hb1;have X2:=hJ (X1.out.ae hg2);have Y2:=hJ (Y1.out.ae hg2);have G2:=hJ (gQ G1.out hg2);clear hb1 hg2 X1 Y1 G1 c0 c1 c2 c3 c4 c5 c6 c7 c8 c9 c10 c11 c12 c13 c14 d0 d1 d2 d3 d4 d5 d6 d7 d8 d9 d10 d11 d12 d13 d14;obtain ⟨c0,c1,c2,c3,c4,c5,c6,c7,c8,c9,c10,c11,c12,c13,c14⟩:=X2.out.cells;obtain ⟨d0,d1,d2,d3,d4,d5,d6,d7,d8,d9,d10,d11,d12,d13,d14⟩:=Y2.out.cells
 go_wp2_with fail
 refine (mb x.s.a x.s.n x.s.c p.aj y.s.a y.s.n y.s.c q.aj _ (HX.out.aj.ae G2.out) HX.out.sb HX.out.sl (HY.out.aj.ae G2.out) HY.out.sb HY.out.sl (by have:=HX.out.sc;omega)).mono ?_;rintro en w3 ⟨⟨b2,rfl,hb2⟩,NZ⟩;have hg3:=NZ.grown none;have B2:=hJ hb2;have X3:=hJ (X2.out.ae hg3);have Y3:=hJ (Y2.out.ae hg3);have G3:=hJ (gQ G2.out hg3);clear hb2 hg3 NZ X2 Y2 G2 c0 c1 c2 c3 c4 c5 c6 c7 c8 c9 c10 c11 c12 c13 c14 d0 d1 d2 d3 d4 d5 d6 d7 d8 d9 d10 d11 d12 d13 d14;obtain ⟨c0,c1,c2,c3,c4,c5,c6,c7,c8,c9,c10,c11,c12,c13,c14⟩:=X3.out.cells;obtain ⟨d0,d1,d2,d3,d4,d5,d6,d7,d8,d9,d10,d11,d12,d13,d14⟩:=Y3.out.cells
 go_wp2_with fail
 refine (oh x.d.a x.d.n x.d.c p.kids y.d.a y.d.n y.d.c q.kids _ (HX.out.kids.ae G3.out) HX.out.kl (HY.out.kids.ae G3.out) HY.out.kl (by have:=HX.out.kc;omega)).mono ?_;rintro en w4 ⟨⟨b3,rfl,hb3⟩,hq4⟩;have hg4:=hq4.grown none;have B3:=hJ hb3;have X4:=hJ (X3.out.ae hg4);have Y4:=hJ (Y3.out.ae hg4);have G4:=hJ (gQ G3.out hg4);clear hb3 hg4 hq4 X3 Y3 G3 c0 c1 c2 c3 c4 c5 c6 c7 c8 c9 c10 c11 c12 c13 c14 d0 d1 d2 d3 d4 d5 d6 d7 d8 d9 d10 d11 d12 d13 d14;obtain ⟨c0,c1,c2,c3,c4,c5,c6,c7,c8,c9,c10,c11,c12,c13,c14⟩:=X4.out.cells;obtain ⟨d0,d1,d2,d3,d4,d5,d6,d7,d8,d9,d10,d11,d12,d13,d14⟩:=Y4.out.cells
 go_wp2_with fail
 refine (uO x.b.a y.b.a x.b.n y.b.n x.b.c y.b.c p.data q.data _ (HX.out.data.ae G4.out) (HY.out.data.ae G4.out) HX.out.db HY.out.db).mono ?_;rintro en w4 ⟨⟨b4,rfl,hb4⟩,rfl⟩;have B4:=hJ hb4;clear hb4
 go_wp2_with fail
 refine (om x.t.a x.t.n x.t.c p.list y.t.a y.t.n y.t.c q.list _ (HX.out.list.ae G4.out) HX.out.tl (HY.out.list.ae G4.out) HY.out.tl (by have:=HX.out.tc;omega)).mono ?_;rintro en w5 ⟨⟨b5,rfl,kr⟩,hq5⟩;have aK:=hq5.grown none;have B5:=hJ kr;have X5:=hJ (X4.out.ae aK);have Y5:=hJ (Y4.out.ae aK);have G5:=hJ (gQ G4.out aK);clear kr aK hq5 X4 Y4 G4 c0 c1 c2 c3 c4 c5 c6 c7 c8 c9 c10 c11 c12 c13 c14 d0 d1 d2 d3 d4 d5 d6 d7 d8 d9 d10 d11 d12 d13 d14;obtain ⟨c0,c1,c2,c3,c4,c5,c6,c7,c8,c9,c10,c11,c12,c13,c14⟩:=X5.out.cells;obtain ⟨d0,d1,d2,d3,d4,d5,d6,d7,d8,d9,d10,d11,d12,d13,d14⟩:=Y5.out.cells
 go_wp2_with fail
 refine (yR x.h.v x.h.c x.h.r x.h.h x.h.k x.h.f x.h.n y.h.v y.h.c y.h.r y.h.h y.h.k y.h.f y.h.n _).mono ?_;rintro en w6 ⟨⟨b6,rfl,jF⟩,bE⟩;have B6:Hid (b6=true↔p.head=q.head):=by rw [<- HX.out.head,<- HY.out.head];exact jF
 have X6:=hJ (X5.out.ae bE);have Y6:=hJ (Y5.out.ae bE);have G6:=hJ (gQ G5.out bE);clear jF bE X5 Y5 G5 c0 c1 c2 c3 c4 c5 c6 c7 c8 c9 c10 c11 c12 c13 c14 d0 d1 d2 d3 d4 d5 d6 d7 d8 d9 d10 d11 d12 d13 d14;have c0:=X6.out.cells.1;have c2:=X6.out.cells.2.2.1;have c5:=X6.out.cells.2.2.2.2.2.1;have d0:=Y6.out.cells.1;have d2:=Y6.out.cells.2.2.1;have d5:=Y6.out.cells.2.2.2.2.2.1;cases b1 with
 | false =>
  have HN:Hid (¬ p=q):=fun e=>absurd (B1.out.2 (by rw [e])) (by decide)
  go_wp2;go_ret;exact ⟨⟨false,rfl,by simp only [Bool.false_eq_true,false_iff];exact HN.out⟩,G6.out⟩
 | true =>
  cases b2 with
  | false =>
   have HN:Hid (¬ p=q):=fun e=>absurd (B2.out.2 (by rw [e])) (by decide)
   go_wp2;go_ret;exact ⟨⟨false,rfl,by simp only [Bool.false_eq_true,false_iff];exact HN.out⟩,G6.out⟩
  | true =>
   cases b3 with
   | false =>
    have HN:Hid (¬ p=q):=fun e=>absurd (B3.out.2 (by rw [e])) (by decide)
    go_wp2;go_ret;exact ⟨⟨false,rfl,by simp only [Bool.false_eq_true,false_iff];exact HN.out⟩,G6.out⟩
   | true =>
    cases b4 with
    | false =>
     have HN:Hid (¬ p=q):=fun e=>absurd (B4.out.2 (by rw [e])) (by decide)
     go_wp2;go_ret;exact ⟨⟨false,rfl,by simp only [Bool.false_eq_true,false_iff];exact HN.out⟩,G6.out⟩
    | true =>
     cases b5 with
     | false =>
      have HN:Hid (¬ p=q):=fun e=>absurd (B5.out.2 (by rw [e])) (by decide)
      go_wp2;go_ret;exact ⟨⟨false,rfl,by simp only [Bool.false_eq_true,false_iff];exact HN.out⟩,G6.out⟩
     | true =>
      cases b6 with
      | false =>
       have HN:Hid (¬ p=q):=fun e=>absurd (B6.out.2 (by rw [e])) (by decide)
       go_wp2;go_ret;exact ⟨⟨false,rfl,by simp only [Bool.false_eq_true,false_iff];exact HN.out⟩,G6.out⟩
      | true =>
       by_cases hk:x.k=y.k
       ·have kk:(x.k==y.k)=true:=by simp [hk]
        have Hk:=hJ hk;clear hk
        by_cases hl:x.l=y.l
        ·have kl:(x.l==y.l)=true:=by simp [hl]
         have Hl:=hJ hl;clear hl
         by_cases hx:x.x=y.x
         ·have kx:(x.x==y.x)=true:=by simp [hx]
          have Hx:=hJ hx;clear hx;have HE:Hid (p=q):=Pg.same (by rw [<- HX.out.kind,<- HY.out.kind];exact Hk.out) (B1.out.1 rfl) (by rw [<- HX.out.level,<- HY.out.level];exact Hl.out) (B2.out.1 rfl) (B3.out.1 rfl) (by rw [<- HX.out.next,<- HY.out.next];exact Hx.out) (B4.out.1 rfl) (B5.out.1 rfl) (B6.out.1 rfl);go_wp2;go_ret;exact ⟨⟨true,rfl,by simp only [true_iff];exact HE.out⟩,G6.out⟩
         ·have kx:(x.x==y.x)=false:=by simp [hx]
          have HN:Hid (¬ p=q):=fun e=>hx (by rw [HX.out.next,HY.out.next,e])
          go_wp2;go_ret;exact ⟨⟨false,rfl,by simp only [Bool.false_eq_true,false_iff];exact HN.out⟩,G6.out⟩
        ·have kl:(x.l==y.l)=false:=by simp [hl]
         have HN:Hid (¬ p=q):=fun e=>hl (by rw [HX.out.level,HY.out.level,e])
         go_wp2;go_ret;exact ⟨⟨false,rfl,by simp only [Bool.false_eq_true,false_iff];exact HN.out⟩,G6.out⟩
       ·have kk:(x.k==y.k)=false:=by simp [hk]
        have HN:Hid (¬ p=q):=fun e=>hk (by rw [HX.out.kind,HY.out.kind,e])
        go_wp2;go_ret;exact ⟨⟨false,rfl,by simp only [Bool.false_eq_true,false_iff];exact HN.out⟩,G6.out⟩
theorem Px.u8 {w:World}{b j:Nat}{x:Pv}{z:Int}(h:Px w T x)(hc:w.cell? ⟨b,j,none⟩=some (.int .u8 z)):b≠T:=by
 rintro rfl;rw [cell_of_row w b j _ _ _ h] at hc;have hm:=Array.mem_of_getElem? hc;simp at hm
theorem Px.other {b:Nat}{x:Pv}{cur:Array Value}(h:Px w T x)(hb:w.heap[b]?=some (.cells cur t (0,0)))(ht:t≠30):b≠T:=by
 rintro rfl;have h2:some (Obj.cells cur t (0,0))=some (.cells #[.int .i64 x.k,.slice x.i.a x.i.n x.i.c,.int .i64 x.l,.slice x.s.a x.s.n x.s.c,.slice x.d.a x.d.n x.d.c,.int .i64 x.x,.slice x.b.a x.b.n x.b.c,.slice x.t.a x.t.n x.t.c,.int .i64 x.h.v,.int .i64 x.h.c,.int .i64 x.h.r,.int .i64 x.h.h,.int .i64 x.h.k,.int .i64 x.h.f,.int .i64 x.h.n] 30 (0,0)):=hb.symm.trans h;injection h2 with h3
 injection h3 with _ h4 _
 exact ht h4
theorem ai.page {x:Pv}{ao:Option Addr}(h:ai w ao n c zs)(hx:Px w T x)(hg:w.grownBy w' (some T)):ai w' ao n c zs :=
 h.kept hg (fun ad e hn e2=>by
  obtain ⟨b,off,e3,_,hc⟩:=h.at hn;rw [e] at e3;obtain rfl:=Option.some.inj e3;exact hx.u8 (hc 0 hn) (Option.some.inj e2))
theorem Nw.page {x:Pv}(h:Nw w0 w t a n)(ht:t≠30)(hx:Px w T x)(hg:w.grownBy w' (some T)):Nw w0 w' t a n:=by
 intro h0;obtain ⟨b,cur,e1,e2,e3⟩:=h h0;exact ⟨b,cur,e1,e2,(hg.block b (Array.getElem?_eq_some_iff.1 e3).1 (fun e=>hx.other e3 ht (Option.some.inj e))).trans e3⟩
theorem Nw.still {x:Pv}(h:Nw w0 w t a n)(ht:t≠30)(hx:Px w T x)(hg:w.grownBy w' (some T))(h0:0<n){b off:Nat}(ha:a=some ⟨b,off,none⟩):w'.heap[b]?=w.heap[b]?:=by
 obtain ⟨b',cur,e1,e2,e3⟩:=h h0;rw [e1] at ha;injection ha with ha
 injection ha with ha _ _
 subst ha;exact hg.block _ (Array.getElem?_eq_some_iff.1 e3).1 (fun e=>hx.other e3 ht (Option.some.inj e))
theorem Il.page {x:Pv}{L:List It}(h:Il w a L)(hN:Nw w0 w 63 a n)(hn:L.length=n)(hx:Px w T x)(hg:w.grownBy w' (some T)):Il w' a L:=by
 refine ⟨fun i hi=>?_⟩;obtain ⟨b,off,ao,n',c,bo,m,d,e,q1,q2,q3,q4,q5,q6,q7,q8,q9⟩:=h.row i hi;have hs:=hN.still (by decide) hx hg (by omega) e;exact ⟨b,off,ao,n',c,bo,m,d,e,(World.cell?_of_block hs).trans q1,(World.cell?_of_block hs).trans q2,(World.cell?_of_block hs).trans q3,(World.cell?_of_block hs).trans q4,q5.page hx hg,q6,q7,q8.page hx hg,q9⟩
theorem Lz.page {x:Pv}(h:Lz w a L)(hN:Nw w0 w 25 a n)(hn:L.length=n)(hx:Px w T x)(hg:w.grownBy w' (some T)):Lz w' a L:=by
 refine ⟨fun i hi=>?_⟩;obtain ⟨b,off,ao,n',c,e,q1,q2,q3⟩:=h.row i hi;have hs:=hN.still (by decide) hx hg (by omega) e;exact ⟨b,off,ao,n',c,e,(World.cell?_of_block hs).trans q1,q2.page hx hg,q3⟩
theorem Kl.page {x:Pv}{K:List Kd}(h:Kl w a K)(hN:Nw w0 w 69 a n)(hn:K.length=n)(hx:Px w T x)(hg:w.grownBy w' (some T)):Kl w' a K:=by
 refine ⟨fun i hi=>?_⟩;obtain ⟨b,off,e,q1,q2⟩:=h.row i hi;have hs:=hN.still (by decide) hx hg (by omega) e;exact ⟨b,off,e,(World.cell?_of_block hs).trans q1,(World.cell?_of_block hs).trans q2⟩
theorem Nt.page {x:Pv}{L:List Int}(h:Nt w a L)(hN:Nw w0 w 3 a n)(hn:L.length=n)(hx:Px w T x)(hg:w.grownBy w' (some T)):Nt w' a L:=by
 refine ⟨fun i hi=>?_⟩;obtain ⟨b,off,e,q1⟩:=h.row i hi;have hs:=hN.still (by decide) hx hg (by omega) e;exact ⟨b,off,e,(World.cell?_of_block hs).trans q1⟩
structure Pn (w0 w:World)(x:Pv)(p:Pg):Prop where
 pm:Pm w x p
 i:Nw w0 w 63 x.i.a x.i.n
 s:Nw w0 w 25 x.s.a x.s.n
 d:Nw w0 w 69 x.d.a x.d.n
 t:Nw w0 w 3 x.t.a x.t.n
theorem Pn.page {x y:Pv}{p:Pg}(h:Pn w0 w x p)(hx:Px w T y)(hg:w.grownBy w' (some T)):Pn w0 w' x p :=
 ⟨⟨h.pm.kind,h.pm.level,h.pm.next,h.pm.head,h.pm.items.page h.i h.pm.il hx hg,h.pm.ib,h.pm.il,h.pm.ic,h.pm.aj.page h.s h.pm.sl hx hg,h.pm.sb,h.pm.sl,h.pm.sc,h.pm.kids.page h.d h.pm.kl hx hg,h.pm.kl,h.pm.kc,h.pm.data.page hx hg,h.pm.db,h.pm.dc,h.pm.list.page h.t h.pm.tl hx hg,h.pm.tl,h.pm.tc⟩,
  h.i.page (by decide) hx hg,h.s.page (by decide) hx hg,h.d.page (by decide) hx hg,h.t.page (by decide) hx hg⟩
theorem Pn.ae {x:Pv}{p:Pg}(h:Pn w0 w x p)(hg:w.grownBy w' none):Pn w0 w' x p:=⟨h.pm.ae hg,h.i.ae hg,h.s.ae hg,h.d.ae hg,h.t.ae hg⟩
theorem Pn.from{w00:World}{x:Pv}{p:Pg}(h:Pn w0 w x p)(hs:w00.heap.size<=w0.heap.size):Pn w00 w x p:=⟨h.pm,h.i.from hs,h.s.from hs,h.d.from hs,h.t.from hs⟩
def zV:Pv:=⟨0,nS,0,nS,nS,0,nS,nS,zH⟩
theorem ox:Ib []:=fun x hx=>by cases hx
theorem jv:Lb []:=fun x hx=>by cases hx
theorem RO (w:World):Pm w zV zP :=
 ⟨rfl,rfl,rfl,rfl,Il.zero _ _,ox,rfl,(by show 0<=_;omega),Lz.zero _ _,jv,rfl,(by show 0<=_;omega),Kl.zero _ _,rfl,(by show 0<=_;omega),ai.empty _,Bt.nil,(by show 0<=_;omega),Nt.zero _ _,rfl,(by show 0<=_;omega)⟩
theorem RP (w0 w:World):Pn w0 w zV zP:=⟨RO w,Nw.zero _ _ _ _,Nw.zero _ _ _ _,Nw.zero _ _ _ _,Nw.zero _ _ _ _⟩
theorem RQ {L:List It}(h:Il w a L)(hb:Ib L)(hl:L.length=q)(hq:q<=9223372036854775807)(hn:Nw w0 w 63 a q):Pn w0 w ⟨1,⟨a,q,cap⟩,0,nS,nS,0,nS,nS,zH⟩ ⟨1,L,0,[],[],0,[],[],zH⟩ :=
 ⟨⟨rfl,rfl,rfl,rfl,h,hb,hl,hq,Lz.zero _ _,jv,rfl,(by show 0<=_;omega),Kl.zero _ _,rfl,(by show 0<=_;omega),ai.empty _,Bt.nil,(by show 0<=_;omega),Nt.zero _ _,rfl,(by show 0<=_;omega)⟩,hn,Nw.zero _ _ _ _,Nw.zero _ _ _ _,Nw.zero _ _ _ _⟩
theorem JQ {b:Option Addr}{bh:Nat}{K:List Kd}(h:Lz w a L)(hb:Lb L)(hl:L.length=q)(hq:q<=9223372036854775807)(hn:Nw w0 w 25 a q)(hk:Kl w b K)(nu:K.length=m)(hm:m<=9223372036854775807)(NW:Nw w0 w 69 b m) :
  Pn w0 w ⟨2,nS,lv,⟨a,q,cap⟩,⟨b,m,bh⟩,0,nS,nS,zH⟩ ⟨2,[],lv,L,K,0,[],[],zH⟩ :=
 ⟨⟨rfl,rfl,rfl,rfl,Il.zero _ _,ox,rfl,(by show 0<=_;omega),h,hb,hl,hq,hk,nu,hm,ai.empty _,Bt.nil,(by show 0<=_;omega),Nt.zero _ _,rfl,(by show 0<=_;omega)⟩,Nw.zero _ _ _ _,hn,NW,Nw.zero _ _ _ _⟩
theorem RR (h:ai w a q cap D)(hb:Bt D)(hq:q<=9223372036854775807):Pn w0 w ⟨3,nS,0,nS,nS,nx,⟨a,q,cap⟩,nS,zH⟩ ⟨3,[],0,[],[],nx,D,[],zH⟩ :=
 ⟨⟨rfl,rfl,rfl,rfl,Il.zero _ _,ox,rfl,(by show 0<=_;omega),Lz.zero _ _,jv,rfl,(by show 0<=_;omega),Kl.zero _ _,rfl,(by show 0<=_;omega),h,hb,hq,Nt.zero _ _,rfl,(by show 0<=_;omega)⟩,Nw.zero _ _ _ _,Nw.zero _ _ _ _,Nw.zero _ _ _ _,Nw.zero _ _ _ _⟩
theorem RS (h:Nt w a D)(hl:D.length=q)(hq:q<=9223372036854775807)(hn:Nw w0 w 3 a q):Pn w0 w ⟨4,nS,0,nS,nS,nx,nS,⟨a,q,cap⟩,zH⟩ ⟨4,[],0,[],[],nx,[],D,zH⟩ :=
 ⟨⟨rfl,rfl,rfl,rfl,Il.zero _ _,ox,rfl,(by show 0<=_;omega),Lz.zero _ _,jv,rfl,(by show 0<=_;omega),Kl.zero _ _,rfl,(by show 0<=_;omega),ai.empty _,Bt.nil,(by show 0<=_;omega),h,hl,hq⟩,Nw.zero _ _ _ _,Nw.zero _ _ _ _,Nw.zero _ _ _ _,hn⟩
theorem RT (w0 w:World)(H:Hd):Pn w0 w ⟨5,nS,0,nS,nS,0,nS,nS,H⟩ ⟨5,[],0,[],[],0,[],[],H⟩ :=
 ⟨⟨rfl,rfl,rfl,rfl,Il.zero _ _,ox,rfl,(by show 0<=_;omega),Lz.zero _ _,jv,rfl,(by show 0<=_;omega),Kl.zero _ _,rfl,(by show 0<=_;omega),ai.empty _,Bt.nil,(by show 0<=_;omega),Nt.zero _ _,rfl,(by show 0<=_;omega)⟩,Nw.zero _ _ _ _,Nw.zero _ _ _ _,Nw.zero _ _ _ _,Nw.zero _ _ _ _⟩
theorem Px.rI {x:Pv}(h:Px w T x)(s:Ag):Px (w.setCell ⟨T,1,none⟩ (.slice s.a s.n s.c)) T { x with i:=s }:=heap_setCell_same w T 1 _ _ _ h
theorem Px.Bk {x:Pv}(h:Px w T x)(s:Ag):Px (w.setCell ⟨T,3,none⟩ (.slice s.a s.n s.c)) T { x with s:=s }:=heap_setCell_same w T 3 _ _ _ h
theorem Px.WU {x:Pv}(h:Px w T x)(s:Ag):Px (w.setCell ⟨T,4,none⟩ (.slice s.a s.n s.c)) T { x with d:=s }:=heap_setCell_same w T 4 _ _ _ h
theorem Px.WV {x:Pv}(h:Px w T x)(s:Int):Px (w.setCell ⟨T,5,none⟩ (.int .i64 s)) T { x with x:=s }:=heap_setCell_same w T 5 _ _ _ h
theorem Px.WW {x:Pv}(h:Px w T x)(s:Ag):Px (w.setCell ⟨T,6,none⟩ (.slice s.a s.n s.c)) T { x with b:=s }:=heap_setCell_same w T 6 _ _ _ h
theorem Px.afq {x:Pv}(h:Px w T x)(s:Ag):Px (w.setCell ⟨T,7,none⟩ (.slice s.a s.n s.c)) T { x with t:=s }:=heap_setCell_same w T 7 _ _ _ h
theorem JR (h:cZ zs=0):(bD zs).length=4092:=by
 unfold cZ at h;unfold bD
 by_cases hf:fits zs
 ·rw [if_pos hf,List.length_take,hf.1];rfl
 ·rw [if_neg hf] at h
  split at h <;> cases h
theorem Od (h:Bt zs):Bt (bD zs):=by
 unfold bD;split
 ·exact h.take _
 ·exact Bt.nil
theorem JS {L:List It}(h:Um zs L e)(hl:L.length=q):q<=9223372036854775807:=by
 rcases h with ⟨_,h1,_⟩ | ⟨_,rfl,_⟩
 ·have:=(nM h1.1 h1.2.1).1;omega
 ·have:0=q:=hl;omega
theorem uP {K:List Kd}(h:uk zs lv L K e)(hl:L.length=q)(hk:K.length=m):q<=9223372036854775807/\m<=9223372036854775807:=by
 by_cases he:e=0
 ·obtain ⟨_,k,M,rfl,rfl,hg⟩:=h.good he
  have hf:=dy.1 hg.1;have:=(iP (fun s hs=>hf.sep s hs) hf.size).1;rw [bY] at hl;rw [dX] at hk;omega
 ·obtain ⟨_,rfl,rfl,_⟩:=h.bad he
  have h1:0=q:=hl;have h2:0=m:=hk;omega
theorem EI (h:eD x zs.length=0):vN (oD x zs)=x/\vD (oD x zs)=zs/\vE (oD x zs)=0:=by
 obtain ⟨k,rfl,hk⟩:=iq (nN h).1;obtain ⟨h1,h2,h3⟩:=YW h;rw [kQ h,Int.toNat_natCast];obtain ⟨e1,e2,e3⟩:=Cf h1;exact ⟨by rw [e1,h2],by rw [e2,h3],e3⟩
theorem EJ {xs:List Int}(h:eL x xs=0):uN (oL x xs)=x/\uL (oL x xs)=xs/\uE (oL x xs)=0:=by
 obtain ⟨k,rfl,hk⟩:=iq (sF h).1;obtain ⟨h1,h2,h3,h4⟩:=YX h;rw [ju h,Int.toNat_natCast];obtain ⟨e1,e2,e3⟩:=Cj h1;exact ⟨by rw [e1,h2],by rw [e2,h3,h4],e3⟩
theorem EK (h:vE zs=0):eD (vN zs) (vD zs).length=0/\oD (vN zs) (vD zs)=zs:=by
 cases hd:dD zs with
 | false=>rw [(wF hd).2.2] at h;exact absurd h (by decide)
 | true =>
  obtain ⟨h1,h2,h3⟩:=AR hd;obtain ⟨e1,e2,e3⟩:=Cf hd;rw [e1,e2];exact ⟨h2,by rw [kQ h2,Int.toNat_natCast];exact h3⟩
theorem EL (h:uE zs=0):eL (uN zs) (uL zs)=0/\oL (uN zs) (uL zs)=zs:=by
 cases hd:dL zs with
 | false=>rw [(wG hd).2.2] at h;exact absurd h (by decide)
 | true =>
  obtain ⟨h1,h2,h3,h4⟩:=jY hd;obtain ⟨e1,e2,e3⟩:=Cj hd;rw [e1,e2];exact ⟨h3,by rw [ju h3,Int.toNat_natCast];exact h4⟩
theorem JT {L:List It}(h:(enc L).2=0):Good (enc L).1 L/\(enc L).1.length=4092:=by
 unfold enc at *
 by_cases hw:wrong L=0
 ·rw [if_pos hw] at *
  by_cases hs:size L<=4092
  ·rw [if_pos hs] at *
   exact ⟨⟨hw,hs,rfl⟩,nL hw hs⟩
  ·rw [if_neg hs] at h;exact absurd h (by decide)
 ·rw [if_neg hw] at h;exact absurd h hw
theorem uQ {L:List It}(h:Good zs L):enc L=(zs,0):=by
 unfold enc;rw [if_pos h.1,if_pos h.2.1,h.2.2]
theorem JU {L:List It}(h:Good zs L):zs.getD 0 0=1:=by rw [<- h.2.2];rfl
theorem EM {k:Kd}{M:List Sk}(h:kC zs lv k M):zs.getD 0 0=2:=by rw [<- h.2];rfl
theorem qg (h:b.length=4092):fits (b++fe (upd 0 b)):=by
 refine ⟨by rw [List.length_append,h];rfl,?_⟩;rw [List.drop_left' h,List.take_left' h]
theorem JV (h:b.length=4092):cZ (b++fe (upd 0 b))=0/\bD (b++fe (upd 0 b))=b:=by
 unfold cZ bD;rw [if_pos (qg h),if_pos (qg h)];exact ⟨rfl,List.take_left' h⟩
theorem qh (h:cZ zs=0):fits zs/\bD zs=zs.take 4092:=by
 by_cases hf:fits zs
 ·exact ⟨hf,by unfold bD;rw [if_pos hf]⟩
 ·unfold cZ at h;rw [if_neg hf] at h;split at h <;> exact absurd h (by decide)
theorem JW (h:cZ zs=0):gM (bD zs)=zs/\kG (bD zs)=0:=by
 obtain ⟨hf,e⟩:=qh h;have hl:(bD zs).length=4092:=by rw [e,List.length_take,hf.1];rfl
 unfold gM kG;rw [if_pos hl,if_pos hl,e];refine ⟨?_,rfl⟩;rw [<- hf.2,List.take_append_drop]
theorem iy.back {p:Pg}(h:iy p b 0)(hp:p=eV p):mS p.kind b p 0/\b.getD 0 0=p.kind/\b.length=4092:=by
 obtain ⟨kd,it,lv,se,ki,nx,da,li,hd⟩:=p;rcases h with ⟨h0,h1,h2⟩ | ⟨h0,h1⟩ | ⟨h0,h1,h2⟩ | ⟨h0,h1,h2⟩ | ⟨h0,h1,h2⟩
 ·have Ae:kd=1:=h0
  subst Ae;obtain ⟨g,gl⟩:=JT h2.symm;have yE:b=(enc it).1:=h1;subst yE;exact ⟨.inl ⟨rfl,it,.inl ⟨rfl,g,gl⟩,fun _=>hp⟩,JU g,gl⟩
 ·have Ae:kd=2:=h0
  subst Ae;have hl:=h1.len rfl;obtain ⟨k,M,e1,e2,g⟩:=h1.good rfl;have e1':se=aj M:=e1;have Ql:ki=kids k M:=e2;subst e1' Ql;exact ⟨.inr (.inl ⟨rfl,lv,_,_,⟨.inl rfl,fun _=>⟨hl,k,M,rfl,rfl,g⟩,fun h=>absurd rfl h⟩,fun _=>hp⟩),EM g,hl⟩
 ·have Ae:kd=3:=h0
  subst Ae;have yE:b=oD nx da:=h1;subst yE;have uA:eD nx da.length=0:=h2.symm;obtain ⟨e1,e2,e3⟩:=EI uA;refine ⟨.inr (.inr (.inl ⟨rfl,e3.symm,fun _=>?_⟩)),?_,?_⟩
  ·rw [e1,e2];exact hp
  ·rw [kQ uA];rfl
  ·rw [kQ uA];exact DT (nN uA).2.2.1
 ·have Ae:kd=4:=h0
  subst Ae;have yE:b=oL nx li:=h1;subst yE;have uA:eL nx li=0:=h2.symm;obtain ⟨e1,e2,e3⟩:=EJ uA;refine ⟨.inr (.inr (.inr (.inl ⟨rfl,e3.symm,fun _=>?_⟩))),?_,?_⟩
  ·rw [e1,e2];exact hp
  ·rw [ju uA];rfl
  ·rw [ju uA];exact DU (sF uA).2.1
 ·have Ae:kd=5:=h0
  subst Ae;have yE:b=oM hd:=h1;subst yE;have uA:eM hd=0:=h2.symm;cases hm:may hd with
  | false=>rw [(MA hm).2] at uA;exact absurd uA (by decide)
  | true =>
   obtain ⟨e1,e2⟩:=wW hm;obtain ⟨a1,a2⟩:=AV (Zn hm);rw [e1];refine ⟨.inr (.inr (.inr (.inr ⟨rfl,a2.symm,fun _=>?_⟩))),rfl,DW hd⟩;rw [a1,Ue hm];exact hp
theorem uM.back {p:Pg}(h:uM p zs 0):gj zs p 0/\fits zs/\cZ zs=0/\(bD zs).length=4092/\(bD zs).getD 0 0=p.kind/\iT p.kind=true/\p=eV p:=by
 rcases h with ⟨_,h5,_⟩ | ⟨_,_,h5,_⟩ | ⟨h0,h1,b,f,h2,h3⟩
 ·exact absurd h5 (by decide)
 ·exact absurd h5 (by decide)
 ·rcases h3 with ⟨a1,a2,_⟩ | ⟨a1,a2,a3⟩
  ·exact absurd a2.symm a1
  ·subst a1
   obtain ⟨d1,d2,d3⟩:=h2.back h1;have hz:zs=b++fe (upd 0 b):=by rw [a3];unfold gM;rw [if_pos d3]
   subst hz;obtain ⟨o1,o2⟩:=JV d3;refine ⟨⟨fun h=>absurd rfl h,.inr (.inr ⟨o1,by rw [o2,d2];exact d1⟩)⟩,qg d3,o1,by rw [o2];exact d3,by rw [o2];exact d2,h0,h1⟩
theorem gj.afr {p:Pg}(h:gj zs p 0):uM p zs 0:=by
 obtain ⟨_,h | h | h⟩:=h
 ·exact absurd h.2.symm h.1
 ·exact absurd h.2.2 (by decide)
 ·obtain ⟨ho,h⟩:=h
  obtain ⟨s1,s2⟩:=JW ho;rcases h with ⟨_,L,h1,h2⟩ | ⟨_,lv,L,K,h1,h2⟩ | ⟨_,h1,h2⟩ | ⟨_,h1,h2⟩ | ⟨_,h1,h2⟩
  ·obtain rfl:=h2 rfl
   rcases h1 with ⟨_,g,_⟩ | ⟨g,_⟩
   ·refine .inr (.inr ⟨rfl,rfl,bD zs,0,.inl ⟨rfl,?_,?_⟩,.inr ⟨rfl,s2.symm,s1.symm⟩⟩)
    ·show _=(enc L).1;rw [uQ g]
    ·show _=(enc L).2;rw [uQ g]
   ·exact absurd g (by decide)
  ·obtain rfl:=h2 rfl
   obtain ⟨hl,k,M,rfl,rfl,g⟩:=h1.good rfl;exact .inr (.inr ⟨rfl,rfl,bD zs,0,.inr (.inl ⟨rfl,⟨fun h=>absurd rfl h,fun _=>⟨k,M,rfl,rfl,g⟩⟩⟩),.inr ⟨rfl,s2.symm,s1.symm⟩⟩)
  ·obtain rfl:=h2 rfl
   obtain ⟨g1,g2⟩:=EK h1.symm;exact .inr (.inr ⟨rfl,rfl,bD zs,0,.inr (.inr (.inl ⟨rfl,g2.symm,g1.symm⟩)),.inr ⟨rfl,s2.symm,s1.symm⟩⟩)
  ·obtain rfl:=h2 rfl
   obtain ⟨g1,g2⟩:=EL h1.symm;exact .inr (.inr ⟨rfl,rfl,bD zs,0,.inr (.inr (.inr (.inl ⟨rfl,g2.symm,g1.symm⟩))),.inr ⟨rfl,s2.symm,s1.symm⟩⟩)
  ·obtain rfl:=h2 rfl
   cases hm:dM (bD zs) with
   | false=>rw [(pO hm).2] at h1;exact absurd h1 (by decide)
   | true =>
    obtain ⟨g1,g2,g3⟩:=AU hm;obtain ⟨o1,o2⟩:=wW g2;refine .inr (.inr ⟨rfl,rfl,bD zs,0,.inr (.inr (.inr (.inr ⟨rfl,?_,?_⟩))),.inr ⟨rfl,s2.symm,s1.symm⟩⟩)
    ·show _=oM (aH (bD zs));rw [(AV hm).1,o1,g3]
    ·show _=eM (aH (bD zs));rw [(AV hm).1,o2]
theorem gj.sum {p:Pg}(h:gj zs p e)(hl:zs.length=4096):e=22↔¬ fits zs:=by
 obtain ⟨_,h | h | h⟩:=h
 ·obtain ⟨h0,rfl⟩:=h
  unfold cZ at *
  by_cases hf:fits zs
  ·rw [if_pos hf] at h0;exact absurd rfl h0
  ·rw [if_neg hf,if_pos hl];exact ⟨fun _=>hf,fun _=>rfl⟩
 ·obtain ⟨h0,_,rfl⟩:=h
  exact ⟨fun h=>absurd h (by decide),fun h=>absurd (qh h0).1 h⟩
 ·obtain ⟨h0,h⟩:=h
  refine ⟨fun he=>?_,fun hn=>absurd (qh h0).1 hn⟩;subst he;rcases h with ⟨_,L,h1,h2⟩ | ⟨_,lv,L,K,h1,h2⟩ | ⟨_,h1,h2⟩ | ⟨_,h1,h2⟩ | ⟨_,h1,h2⟩
  ·rcases h1 with ⟨g,_⟩ | ⟨g,_⟩ <;> exact absurd g (by decide)
  ·rcases h1.code with g | g <;> exact absurd g (by decide)
  ·unfold vE at h1;split at h1 <;> exact absurd h1 (by decide)
  ·unfold uE at h1;split at h1 <;> exact absurd h1 (by decide)
  ·unfold aE at h1;split at h1 <;> exact absurd h1 (by decide)
theorem gj.len {p:Pg}(h:gj zs p 0):zs.length=4096:=h.afr.back.2.1.1
theorem bP {a:Act}(hgd:o.guard=none)(p:Operand)(ho:o.op=.load 30 p)(g:Nat)(x:Pv)(hp:a.eval p=.pointer (some ⟨g,0,none⟩))(hr:Px w g x)
  (h:wpList Tryz.prog ops Q rest (a.put o.dst (.agg #[.int .i64 x.k,.slice x.i.a x.i.n x.i.c,.int .i64 x.l,.slice x.s.a x.s.n x.s.c,.slice x.d.a x.d.n x.d.c,.int .i64 x.x,.slice x.b.a x.b.n x.b.c,.slice x.t.a x.t.n x.t.c,.int .i64 x.h.v,.int .i64 x.h.c,.int .i64 x.h.r,.int .i64 x.h.h,.int .i64 x.h.k,.int .i64 x.h.f,.int .i64 x.h.n])) w):wpList Tryz.prog ops Q (o::rest) a w:=by
 refine wpList_plain hgd fun K hK=>?_
 unfold Oper.wp;have hv:=run_loadVar_row (P:=Tryz.prog) w g 30 30 _ (0,0) _ hr Tryz.underlying30 rfl lO
 have hr:(execOp a.eval o).run Tryz.prog w=.ok (.value (.agg #[.int .i64 x.k,.slice x.i.a x.i.n x.i.c,.int .i64 x.l,.slice x.s.a x.s.n x.s.c,.slice x.d.a x.d.n x.d.c,.int .i64 x.x,.slice x.b.a x.b.n x.b.c,.slice x.t.a x.t.n x.t.c,.int .i64 x.h.v,.int .i64 x.h.c,.int .i64 x.h.r,.int .i64 x.h.h,.int .i64 x.h.k,.int .i64 x.h.f,.int .i64 x.h.n])) w:=by
  simp [execOp,ho,hp,Instr.loadAt,Instr.sureAddr,hv,Result.andThen]
 rw [hr,Oper.upon_value];exact hK _ _ h
theorem WY (h:Bt zs):Bt (vD zs):=by
 unfold vD;split
 ·exact UR h
 ·exact Bt.nil
theorem JX (h:zs.length=4092):(vD zs).length<=4092:=by
 unfold vD;split
 ·have:(rD zs).length<=zs.length:=by
   unfold rD
   split
   ·simp;omega
   ·simp
  omega
 ·simp
theorem xC (zs:List Int):(uL zs).length<=1021:=by
 unfold uL;split
 ·rename_i h
  rw [jl];exact (jY h).2.1
 ·simp
structure oy where
 i:Int
 l:Int
 s:Int
 d:Int
 x:Int
 b:Int
 t:Int
 h:Hd
def fz:oy:=⟨0,0,0,0,0,0,0,zH⟩
theorem qV:Tryz.prog.underlying 77=some (.struct (Tryz.prog.fieldsOf 77)):=by kernel_rfl
theorem JY:Tryz.prog.stoodInHeld 77=false:=by kernel_rfl
theorem EP (w:World):(isAgg 28).run Tryz.prog w=.ok true w:=by
 simp [isAgg,run_underlying Tryz.underlying28]
theorem Cr (w:World):(sizeOf 28).run Tryz.prog w=.ok 7 w:=by
 have h:=lI;obtain ⟨i,hi,h7⟩:=Option.map_eq_some_iff.1 h;simp [sizeOf,typeInfo,hi,h7]
theorem xD (cs:Array Value)(off:Nat)(w:World):(Go.part 28 cs off).run Tryz.prog w=.ok (.agg (cs.extract off (off+7))) w:=by
 simp only [Go.part,Sem.run_bind,EP,Result.andThen_ok,if_true,Cr]
 rfl
theorem mi (d:Nat)(xs ys:List Int)(w:World)(tl:List Field)(bt:Bool)(ht:(Op.eqFields (d+1) (xs.map (Value.int .i64)).toArray (ys.map (Value.int .i64)).toArray tl).run Tryz.prog w=.ok bt w):∀ fs:List Field,(∀ g∈fs,g.name≠ "_"/\g.type=3/\g.offset<xs.length/\g.offset<ys.length) ->
  (Op.eqFields (d+1) (xs.map (Value.int .i64)).toArray (ys.map (Value.int .i64)).toArray (fs++tl)).run Tryz.prog w=.ok ((fs.all fun g=>xs.getD g.offset 0==ys.getD g.offset 0) && bt) w
 | [],_=>by simpa using ht
 | g::fs,h=>by
  obtain ⟨h1,h2,h3,h4⟩:=h g List.mem_cons_self;have p1:=run_part_plain (P:=Tryz.prog) (w:=w) lM (iR xs g.offset h3 .i64);have p2:=run_part_plain (P:=Tryz.prog) (w:=w) lM (iR ys g.offset h4 .i64);have p3:=run_equalIn_int (P:=Tryz.prog) (w:=w) d 3 .i64 .i64 (xs.getD g.offset 0) (ys.getD g.offset 0) Tryz.underlying3;have ih:=mi d xs ys w tl bt ht fs (fun j hj=>h j (List.mem_cons_of_mem _ hj));simp only [List.cons_append,Op.eqFields,h1,h2,ne_eq,not_false_eq_true,if_true,Sem.run_bind,p1,p2,p3,Result.andThen_ok,List.all_cons];cases (xs.getD g.offset 0==ys.getD g.offset 0)
  ·simp
  ·simp only [Bool.not_true,Bool.false_eq_true,if_false,Bool.true_and];exact ih
theorem EQ (d:Nat)(xs ys:List Int)(hx:xs.length=7)(hy:ys.length=7)(w:World):(Op.equalIn (d+2) 28 (.agg (xs.map (Value.int .i64)).toArray) (.agg (ys.map (Value.int .i64)).toArray)).run Tryz.prog w=.ok (decide (xs=ys)) w:=by
 obtain ⟨F,hF⟩:∃ F,F=Tryz.prog.fieldsOf 28:=⟨_,rfl⟩;have hu:=iw;rw [Tryz.underlying28,<- hF] at hu;rw [run_equalIn_struct w (d+1) 28 _ _ iw xy,<- hF];have hf:=(TypeDesc.struct.inj (Option.some.inj hu)).symm;subst hf;rw [iG d _ _ w _ (by intro g hg;simp at hg;rcases hg with rfl | rfl | rfl | rfl | rfl | rfl | rfl <;> exact ⟨by decide,rfl,by simp;omega,by simp;omega⟩)]
 congr 1
 rw [Bool.eq_iff_iff]
 obtain ⟨a,b,c,e,f,g,h,rfl⟩:∃ a b c e f g h,xs=[a,b,c,e,f,g,h]:=by
  match xs,hx with
  | [a,b,c,e,f,g,h],_=>exact ⟨a,b,c,e,f,g,h,rfl⟩
 obtain ⟨a',b',c',e',f',g',h',rfl⟩:∃ a b c e f g h,ys=[a,b,c,e,f,g,h]:=by
  match ys,hy with
  | [a,b,c,e,f,g,h],_=>exact ⟨a,b,c,e,f,g,h,rfl⟩
 simp
def eE (f:oy):List Int:=[f.i,f.l,f.s,f.d,f.x,f.b,f.t,f.h.v,f.h.c,f.h.r,f.h.h,f.h.k,f.h.f,f.h.n]
theorem oz {f g:oy}(h:eE f=eE g):f=g:=by
 obtain ⟨i,l,s,d,x,b,t,⟨v,c,r,hh,k,ff,n⟩⟩:=f;obtain ⟨i',l',s',d',x',b',t',⟨v',c',r',hh',k',ff',n'⟩⟩:=g;simp only [eE,List.cons.injEq,and_true] at h;obtain ⟨rfl,rfl,rfl,rfl,rfl,rfl,rfl,rfl,rfl,rfl,rfl,rfl,rfl,rfl⟩:=h
 rfl
theorem kV (f g:oy)(w:World):(binOp .neq 77 (.agg #[.int .i64 f.i,.int .i64 f.l,.int .i64 f.s,.int .i64 f.d,.int .i64 f.x,.int .i64 f.b,.int .i64 f.t,.int .i64 f.h.v,.int .i64 f.h.c,.int .i64 f.h.r,.int .i64 f.h.h,.int .i64 f.h.k,.int .i64 f.h.f,.int .i64 f.h.n]) (.agg #[.int .i64 g.i,.int .i64 g.l,.int .i64 g.s,.int .i64 g.d,.int .i64 g.x,.int .i64 g.b,.int .i64 g.t,.int .i64 g.h.v,.int .i64 g.h.c,.int .i64 g.h.r,.int .i64 g.h.h,.int .i64 g.h.k,.int .i64 g.h.f,.int .i64 g.h.n])).run Tryz.prog w=.ok (.bool (!decide (eE f=eE g))) w:=by
 have e1:(#[.int .i64 f.i,.int .i64 f.l,.int .i64 f.s,.int .i64 f.d,.int .i64 f.x,.int .i64 f.b,.int .i64 f.t,.int .i64 f.h.v,.int .i64 f.h.c,.int .i64 f.h.r,.int .i64 f.h.h,.int .i64 f.h.k,.int .i64 f.h.f,.int .i64 f.h.n]:Array Value)=((eE f).map (Value.int .i64)).toArray:=rfl;have e2:(#[.int .i64 g.i,.int .i64 g.l,.int .i64 g.s,.int .i64 g.d,.int .i64 g.x,.int .i64 g.b,.int .i64 g.t,.int .i64 g.h.v,.int .i64 g.h.c,.int .i64 g.h.r,.int .i64 g.h.h,.int .i64 g.h.k,.int .i64 g.h.f,.int .i64 g.h.n]:Array Value)=((eE g).map (Value.int .i64)).toArray:=rfl;rw [e1,e2];obtain ⟨F,hF⟩:∃ F,F=Tryz.prog.fieldsOf 77:=⟨_,rfl⟩;have hu:=qV;rw [Tryz.underlying77,<- hF] at hu;rw [run_neq_struct,show (10000:Nat)=9999+1 from rfl,run_equalIn_struct w 9999 77 _ _ qV JY,<- hF];have hf:=(TypeDesc.struct.inj (Option.some.inj hu)).symm;subst hf;have hd:∀ f:oy,(((eE f).map (Value.int .i64)).toArray).extract 7 (7+7)=(([f.h.v,f.h.c,f.h.r,f.h.h,f.h.k,f.h.f,f.h.n]:List Int).map (Value.int .i64)).toArray:=fun f=>rfl
 have key:∀ (tl:Field) (fs:List Field),tl.name≠ "_"->tl.type=28->tl.offset=7->(∀ g'∈fs,g'.name≠ "_"/\g'.type=3/\g'.offset<(eE f).length/\g'.offset<(eE g).length) ->
   (Op.eqFields (9998+1) ((eE f).map (Value.int .i64)).toArray ((eE g).map (Value.int .i64)).toArray (fs++[tl])).run Tryz.prog w=.ok ((fs.all fun q=>(eE f).getD q.offset 0==(eE g).getD q.offset 0) && decide (([f.h.v,f.h.c,f.h.r,f.h.h,f.h.k,f.h.f,f.h.n]:List Int)=[g.h.v,g.h.c,g.h.r,g.h.h,g.h.k,g.h.f,g.h.n])) w:=by
  intro tl fs t1 t2 t3 IX;refine mi 9998 _ _ w [tl] _ ?_ fs IX;have p1:=xD ((eE f).map (Value.int .i64)).toArray 7 w;have p2:=xD ((eE g).map (Value.int .i64)).toArray 7 w;rw [hd] at p1 p2;have p3:=EQ 9997 [f.h.v,f.h.c,f.h.r,f.h.h,f.h.k,f.h.f,f.h.n] [g.h.v,g.h.c,g.h.r,g.h.h,g.h.k,g.h.f,g.h.n] rfl rfl w;simp only [Op.eqFields,t1,t2,t3,ne_eq,not_false_eq_true,if_true,Sem.run_bind,p1,p2,p3,Result.andThen_ok];cases decide (([f.h.v,f.h.c,f.h.r,f.h.h,f.h.k,f.h.f,f.h.n]:List Int)=[g.h.v,g.h.c,g.h.r,g.h.h,g.h.k,g.h.f,g.h.n]) <;> simp
 have k2:∀ a b c d e f' g' tl:Field,tl.name≠ "_"->tl.type=28->tl.offset=7->(∀ q∈[a,b,c,d,e,f',g'],q.name≠ "_"/\q.type=3/\q.offset<(eE f).length/\q.offset<(eE g).length)->(Op.eqFields (9998+1) ((eE f).map (Value.int .i64)).toArray ((eE g).map (Value.int .i64)).toArray [a,b,c,d,e,f',g',tl]).run Tryz.prog w=_:=fun a b c d e f' g' tl h1 h2 h3 h4=>key tl [a,b,c,d,e,f',g'] h1 h2 h3 h4
 rw [show (9999:Nat)=9998+1 from rfl,k2 _ _ _ _ _ _ _ _ (by decide) rfl rfl (by intro q hq;simp at hq;rcases hq with rfl | rfl | rfl | rfl | rfl | rfl | rfl <;> exact ⟨by decide,rfl,by simp [eE],by simp [eE]⟩)]
 show Result.ok (Value.bool _) w=_
 congr 2
 congr 1
 rw [Bool.eq_iff_iff];simp [eE,and_assoc]
theorem gR (x y:Operand)(f g:oy)(w:World):(eqGuard .neq 77 x y (.agg #[.int .i64 f.i,.int .i64 f.l,.int .i64 f.s,.int .i64 f.d,.int .i64 f.x,.int .i64 f.b,.int .i64 f.t,.int .i64 f.h.v,.int .i64 f.h.c,.int .i64 f.h.r,.int .i64 f.h.h,.int .i64 f.h.k,.int .i64 f.h.f,.int .i64 f.h.n]) (.agg #[.int .i64 g.i,.int .i64 g.l,.int .i64 g.s,.int .i64 g.d,.int .i64 g.x,.int .i64 g.b,.int .i64 g.t,.int .i64 g.h.v,.int .i64 g.h.c,.int .i64 g.h.r,.int .i64 g.h.h,.int .i64 g.h.k,.int .i64 g.h.f,.int .i64 g.h.n])).run Tryz.prog w=.ok () w :=
 run_eqGuard_agg w .neq 77 x y _ _ (by kernel_rfl)
def oA (x:Pv):Pv :=
 if x.k=1 then ⟨x.k,x.i,0,nS,nS,0,nS,nS,zH⟩ else if x.k=2 then ⟨x.k,nS,x.l,x.s,x.d,0,nS,nS,zH⟩
 else if x.k=3 then ⟨x.k,nS,0,nS,nS,x.x,x.b,nS,zH⟩ else if x.k=4 then ⟨x.k,nS,0,nS,nS,x.x,nS,x.t,zH⟩ else ⟨x.k,nS,0,nS,nS,0,nS,nS,x.h⟩
theorem yS:Lb []:=fun s hs=>by cases hs
theorem yT:Ib []:=fun s hs=>by cases hs
theorem Pm.has {x:Pv}{p:Pg}(h:Pm w x p):Pm w (oA x) (eV p):=by
 have hk:=h.kind;unfold oA eV;rw [<- hk]
 by_cases h1:x.k=1
 ·rw [if_pos h1,if_pos h1]
  exact ⟨rfl,rfl,rfl,rfl,h.items,h.ib,h.il,h.ic,Lz.zero _ _,yS,rfl,(by show 0<=_;omega),Kl.zero _ _,rfl,(by show 0<=_;omega),ai.empty _,Bt.nil,(by show 0<=_;omega),Nt.zero _ _,rfl,(by show 0<=_;omega)⟩
 ·rw [if_neg h1,if_neg h1]
  by_cases h2:x.k=2
  ·rw [if_pos h2,if_pos h2]
   exact ⟨rfl,h.level,rfl,rfl,Il.zero _ _,yT,rfl,(by show 0<=_;omega),h.aj,h.sb,h.sl,h.sc,h.kids,h.kl,h.kc,ai.empty _,Bt.nil,(by show 0<=_;omega),Nt.zero _ _,rfl,(by show 0<=_;omega)⟩
  ·rw [if_neg h2,if_neg h2]
   by_cases h3:x.k=3
   ·rw [if_pos h3,if_pos h3]
    exact ⟨rfl,rfl,h.next,rfl,Il.zero _ _,yT,rfl,(by show 0<=_;omega),Lz.zero _ _,yS,rfl,(by show 0<=_;omega),Kl.zero _ _,rfl,(by show 0<=_;omega),h.data,h.db,h.dc,Nt.zero _ _,rfl,(by show 0<=_;omega)⟩
   ·rw [if_neg h3,if_neg h3]
    by_cases h4:x.k=4
    ·rw [if_pos h4,if_pos h4]
     exact ⟨rfl,rfl,h.next,rfl,Il.zero _ _,yT,rfl,(by show 0<=_;omega),Lz.zero _ _,yS,rfl,(by show 0<=_;omega),Kl.zero _ _,rfl,(by show 0<=_;omega),ai.empty _,Bt.nil,(by show 0<=_;omega),h.list,h.tl,h.tc⟩
    ·rw [if_neg h4,if_neg h4]
     exact ⟨rfl,rfl,rfl,h.head,Il.zero _ _,yT,rfl,(by show 0<=_;omega),Lz.zero _ _,yS,rfl,(by show 0<=_;omega),Kl.zero _ _,rfl,(by show 0<=_;omega),ai.empty _,Bt.nil,(by show 0<=_;omega),Nt.zero _ _,rfl,(by show 0<=_;omega)⟩
theorem RU (x:Pv)(w:World):Calls Tryz.prog 18 #[.agg #[.int .i64 x.k,.slice x.i.a x.i.n x.i.c,.int .i64 x.l,.slice x.s.a x.s.n x.s.c,.slice x.d.a x.d.n x.d.c,.int .i64 x.x,.slice x.b.a x.b.n x.b.c,.slice x.t.a x.t.n x.t.c,.int .i64 x.h.v,.int .i64 x.h.c,.int .i64 x.h.r,.int .i64 x.h.h,.int .i64 x.h.k,.int .i64 x.h.f,.int .i64 x.h.n]] w fun en w'=>(∃ y,en=.returned (.agg #[.int .i64 y.k,.slice y.i.a y.i.n y.i.c,.int .i64 y.l,.slice y.s.a y.s.n y.s.c,.slice y.d.a y.d.n y.d.c,.int .i64 y.x,.slice y.b.a y.b.n y.b.c,.slice y.t.a y.t.n y.t.c,.int .i64 y.h.v,.int .i64 y.h.c,.int .i64 y.h.r,.int .i64 y.h.h,.int .i64 y.h.k,.int .i64 y.h.f,.int .i64 y.h.n])/\y=oA x)/\w.grownBy w' none:=by
 by_cases h1:x.k=1
 ·have e:Hid (oA x=⟨x.k,x.i,0,nS,nS,0,nS,nS,zH⟩):=by show _=_;unfold oA;rw [if_pos h1]
  have k1:(x.k==1)=true:=by simp [h1]
  clear h1;go_enter Tryz.func18,Tryz.ntmps18;go_wp2;refine bodyPost_ret (iU rfl _ _ (w.heap.size+1) ⟨x.k,x.i,0,nS,nS,0,nS,nS,zH⟩ rfl (heap_alloc2_new w _ _)) rfl ?_;exact ⟨⟨_,rfl,e.out.symm⟩,aN w _ _⟩
 ·have k1:(x.k==1)=false:=by simp [h1]
  by_cases h2:x.k=2
  ·have e:Hid (oA x=⟨x.k,nS,x.l,x.s,x.d,0,nS,nS,zH⟩):=by show _=_;unfold oA;rw [if_neg h1,if_pos h2]
   have k2:(x.k==2)=true:=by simp [h2]
   clear h1 h2;go_enter Tryz.func18,Tryz.ntmps18;go_wp2;refine bodyPost_ret (iU rfl _ _ (w.heap.size+1) ⟨x.k,nS,x.l,x.s,x.d,0,nS,nS,zH⟩ rfl (heap_alloc2_new w _ _)) rfl ?_;exact ⟨⟨_,rfl,e.out.symm⟩,aN w _ _⟩
  ·have k2:(x.k==2)=false:=by simp [h2]
   by_cases h3:x.k=3
   ·have e:Hid (oA x=⟨x.k,nS,0,nS,nS,x.x,x.b,nS,zH⟩):=by show _=_;unfold oA;rw [if_neg h1,if_neg h2,if_pos h3]
    have k3:(x.k==3)=true:=by simp [h3]
    clear h1 h2 h3;go_enter Tryz.func18,Tryz.ntmps18;go_wp2;refine bodyPost_ret (iU rfl _ _ (w.heap.size+1) ⟨x.k,nS,0,nS,nS,x.x,x.b,nS,zH⟩ rfl (heap_alloc2_new w _ _)) rfl ?_;exact ⟨⟨_,rfl,e.out.symm⟩,aN w _ _⟩
   ·have k3:(x.k==3)=false:=by simp [h3]
    by_cases h4:x.k=4
    ·have e:Hid (oA x=⟨x.k,nS,0,nS,nS,x.x,nS,x.t,zH⟩):=by show _=_;unfold oA;rw [if_neg h1,if_neg h2,if_neg h3,if_pos h4]
     have k4:(x.k==4)=true:=by simp [h4]
     clear h1 h2 h3 h4;go_enter Tryz.func18,Tryz.ntmps18;go_wp2;refine bodyPost_ret (iU rfl _ _ (w.heap.size+1) ⟨x.k,nS,0,nS,nS,x.x,nS,x.t,zH⟩ rfl (heap_alloc2_new w _ _)) rfl ?_;exact ⟨⟨_,rfl,e.out.symm⟩,aN w _ _⟩
    ·have e:Hid (oA x=⟨x.k,nS,0,nS,nS,0,nS,nS,x.h⟩):=by show _=_;unfold oA;rw [if_neg h1,if_neg h2,if_neg h3,if_neg h4]
     have k4:(x.k==4)=false:=by simp [h4]
     clear h1 h2 h3 h4;go_enter Tryz.func18,Tryz.ntmps18;go_wp2;refine bodyPost_ret (iU rfl _ _ (w.heap.size+1) ⟨x.k,nS,0,nS,nS,0,nS,nS,x.h⟩ rfl (heap_alloc2_new w _ _)) rfl ?_;exact ⟨⟨_,rfl,e.out.symm⟩,aN w _ _⟩
structure Fits (p:Pg):Prop where
 items:p.items.length<=2000
 aj:p.aj.length<=2000
 kids:p.kids.length<=2000
 data:p.data.length<=65536
 list:p.list.length<=2000
 each:∀ x∈p.items,x.key.length<=65536/\x.val.length<=65536
 sep:∀ s∈p.aj,s.length<=65536
theorem Cs (x:Pv)(p:Pg)(w:World)(hp:Pm w x p)(hf:Fits p)(hk:iT p.kind=true) :
  Calls Tryz.prog 19 #[.agg #[.int .i64 x.k,.slice x.i.a x.i.n x.i.c,.int .i64 x.l,.slice x.s.a x.s.n x.s.c,.slice x.d.a x.d.n x.d.c,.int .i64 x.x,.slice x.b.a x.b.n x.b.c,.slice x.t.a x.t.n x.t.c,.int .i64 x.h.v,.int .i64 x.h.c,.int .i64 x.h.r,.int .i64 x.h.h,.int .i64 x.h.k,.int .i64 x.h.f,.int .i64 x.h.n]] w fun en w'=>(∃ ao n c b e,en=.returned (.tuple #[.slice ao n c,.int .i64 e])/\iy p b e/\ai w' ao n c b)/\w.grownBy w' none:=by
 have HP:=hJ hp;have HF:=hJ hf;have vS:=lN.1 hk;have hkk:=hp.kind;clear hp hf hk
 by_cases h1:x.k=1
 ·have k1:(x.k==1)=true:=by simp [h1]
  have HQ:Hid (p.kind=1):=by rw [<- hkk];exact h1
  clear h1 hkk vS;go_enter Tryz.func19,Tryz.ntmps19;go_upto_region 1 with fail
  have X1:=hJ (Px.new w x);have G1:=hJ (gP w x);generalize w.alloc (.cells #[.int .i64 x.k,.slice x.i.a x.i.n x.i.c,.int .i64 x.l,.slice x.s.a x.s.n x.s.c,.slice x.d.a x.d.n x.d.c,.int .i64 x.x,.slice x.b.a x.b.n x.b.c,.slice x.t.a x.t.n x.t.c,.int .i64 x.h.v,.int .i64 x.h.c,.int .i64 x.h.r,.int .i64 x.h.h,.int .i64 x.h.k,.int .i64 x.h.f,.int .i64 x.h.n] 30)=w1 at *;obtain ⟨c0,c1,c2,c3,c4,c5,c6,c7,c8,c9,c10,c11,c12,c13,c14⟩:=X1.out.cells
  go_wp2_with fail
  refine (wD x.i.a x.i.n x.i.c p.items _ (HP.out.items.ae G1.out) HP.out.ib HP.out.il (by have:=HF.out.items;have:=HP.out.il;omega)).mono ?_;rintro en w2 ⟨⟨ao,j,c,rfl,hb2,_⟩,hg2⟩;have B2:=hJ hb2;have G2:=hJ (gQ G1.out hg2);clear hb2 hg2 c0 c1 c2 c3 c4 c5 c6 c7 c8 c9 c10 c11 c12 c13 c14;go_wp2
  go_ret2
  exact ⟨⟨_,_,_,_,_,rfl,.inl ⟨HQ.out,rfl,rfl⟩,B2.out⟩,G2.out⟩
 ·have k1:(x.k==1)=false:=by simp [h1]
  by_cases h2:x.k=2
  ·have k2:(x.k==2)=true:=by simp [h2]
   have HQ:Hid (p.kind=2):=by rw [<- hkk];exact h2
   clear h1 h2 hkk vS;go_enter Tryz.func19,Tryz.ntmps19;go_upto_region 1 with fail
   have X1:=hJ (Px.new w x);have G1:=hJ (gP w x);generalize w.alloc (.cells #[.int .i64 x.k,.slice x.i.a x.i.n x.i.c,.int .i64 x.l,.slice x.s.a x.s.n x.s.c,.slice x.d.a x.d.n x.d.c,.int .i64 x.x,.slice x.b.a x.b.n x.b.c,.slice x.t.a x.t.n x.t.c,.int .i64 x.h.v,.int .i64 x.h.c,.int .i64 x.h.r,.int .i64 x.h.h,.int .i64 x.h.k,.int .i64 x.h.f,.int .i64 x.h.n] 30)=w1 at *;obtain ⟨c0,c1,c2,c3,c4,c5,c6,c7,c8,c9,c10,c11,c12,c13,c14⟩:=X1.out.cells
   go_wp2_with fail
   refine (uv x.l x.s.a x.s.n x.s.c p.aj x.d.a x.d.n x.d.c p.kids _ (HP.out.aj.ae G1.out) HP.out.sb HP.out.sl (by have:=HF.out.aj;have:=HP.out.sl;omega) (HP.out.kids.ae G1.out) HP.out.kl (by have:=HF.out.kids;have:=HP.out.kl;omega)).mono ?_;rintro en w2 ⟨⟨ao,j,c,e,zs,rfl,hb2,xw,_,_,_⟩,hg2⟩;have B2:=hJ hb2;have E2:=hJ xw;have G2:=hJ (gQ G1.out hg2);clear hb2 hg2 xw c0 c1 c2 c3 c4 c5 c6 c7 c8 c9 c10 c11 c12 c13 c14;go_wp2
   go_ret2
   exact ⟨⟨_,_,_,_,_,rfl,.inr (.inl ⟨HQ.out,by rw [<- HP.out.level];exact E2.out⟩),B2.out⟩,G2.out⟩
  ·have k2:(x.k==2)=false:=by simp [h2]
   by_cases h3:x.k=3
   ·have k3:(x.k==3)=true:=by simp [h3]
    have HQ:Hid (p.kind=3):=by rw [<- hkk];exact h3
    clear h1 h2 h3 hkk vS;go_enter Tryz.func19,Tryz.ntmps19;go_upto_region 1 with fail
    have X1:=hJ (Px.new w x);have G1:=hJ (gP w x);generalize w.alloc (.cells #[.int .i64 x.k,.slice x.i.a x.i.n x.i.c,.int .i64 x.l,.slice x.s.a x.s.n x.s.c,.slice x.d.a x.d.n x.d.c,.int .i64 x.x,.slice x.b.a x.b.n x.b.c,.slice x.t.a x.t.n x.t.c,.int .i64 x.h.v,.int .i64 x.h.c,.int .i64 x.h.r,.int .i64 x.h.h,.int .i64 x.h.k,.int .i64 x.h.f,.int .i64 x.h.n] 30)=w1 at *;obtain ⟨c0,c1,c2,c3,c4,c5,c6,c7,c8,c9,c10,c11,c12,c13,c14⟩:=X1.out.cells
    go_wp2_with fail
    refine (oo x.x x.b.a x.b.n x.b.c p.data _ (HP.out.data.ae G1.out) (by have:=HP.out.dc;omega)).mono ?_;rintro en w2 ⟨ao,j,c,rfl,hb2,hg2⟩;have B2:=hJ hb2;have G2:=hJ (gQ G1.out hg2);clear hb2 hg2 c0 c1 c2 c3 c4 c5 c6 c7 c8 c9 c10 c11 c12 c13 c14;go_wp2
    go_ret2
    exact ⟨⟨_,_,_,_,_,rfl,.inr (.inr (.inl ⟨HQ.out,by rw [<- HP.out.next],by rw [<- HP.out.next,HP.out.data.len]⟩)),B2.out⟩,G2.out⟩
   ·have k3:(x.k==3)=false:=by simp [h3]
    by_cases h4:x.k=4
    ·have k4:(x.k==4)=true:=by simp [h4]
     have HQ:Hid (p.kind=4):=by rw [<- hkk];exact h4
     clear h1 h2 h3 h4 hkk vS;go_enter Tryz.func19,Tryz.ntmps19;go_upto_region 1 with fail
     have X1:=hJ (Px.new w x);have G1:=hJ (gP w x);generalize w.alloc (.cells #[.int .i64 x.k,.slice x.i.a x.i.n x.i.c,.int .i64 x.l,.slice x.s.a x.s.n x.s.c,.slice x.d.a x.d.n x.d.c,.int .i64 x.x,.slice x.b.a x.b.n x.b.c,.slice x.t.a x.t.n x.t.c,.int .i64 x.h.v,.int .i64 x.h.c,.int .i64 x.h.r,.int .i64 x.h.h,.int .i64 x.h.k,.int .i64 x.h.f,.int .i64 x.h.n] 30)=w1 at *;obtain ⟨c0,c1,c2,c3,c4,c5,c6,c7,c8,c9,c10,c11,c12,c13,c14⟩:=X1.out.cells
     go_wp2_with fail
     refine (oq x.x x.t.a x.t.n x.t.c p.list _ (HP.out.list.ae G1.out) HP.out.tl (by have:=HF.out.list;have:=HP.out.tl;omega)).mono ?_;rintro en w2 ⟨ao,j,c,rfl,hb2,hg2⟩;have B2:=hJ hb2;have G2:=hJ (gQ G1.out hg2);clear hb2 hg2 c0 c1 c2 c3 c4 c5 c6 c7 c8 c9 c10 c11 c12 c13 c14;go_wp2
     go_ret2
     exact ⟨⟨_,_,_,_,_,rfl,.inr (.inr (.inr (.inl ⟨HQ.out,by rw [<- HP.out.next],by rw [<- HP.out.next]⟩))),B2.out⟩,G2.out⟩
    ·have k4:(x.k==4)=false:=by simp [h4]
     have HQ:Hid (p.kind=5):=by show _=_;omega
     clear h1 h2 h3 h4 hkk vS;go_enter Tryz.func19,Tryz.ntmps19;go_upto_region 1 with fail
     have X1:=hJ (Px.new w x);have G1:=hJ (gP w x);generalize w.alloc (.cells #[.int .i64 x.k,.slice x.i.a x.i.n x.i.c,.int .i64 x.l,.slice x.s.a x.s.n x.s.c,.slice x.d.a x.d.n x.d.c,.int .i64 x.x,.slice x.b.a x.b.n x.b.c,.slice x.t.a x.t.n x.t.c,.int .i64 x.h.v,.int .i64 x.h.c,.int .i64 x.h.r,.int .i64 x.h.h,.int .i64 x.h.k,.int .i64 x.h.f,.int .i64 x.h.n] 30)=w1 at *;obtain ⟨c0,c1,c2,c3,c4,c5,c6,c7,c8,c9,c10,c11,c12,c13,c14⟩:=X1.out.cells
     go_wp2_with fail
     refine (uK x.h.v x.h.c x.h.r x.h.h x.h.k x.h.f x.h.n _).mono ?_;rintro en w2 ⟨ao,j,c,rfl,hb2,hg2⟩;have B2:=hJ hb2;have G2:=hJ (gQ G1.out hg2);clear hb2 hg2 c0 c1 c2 c3 c4 c5 c6 c7 c8 c9 c10 c11 c12 c13 c14;go_wp2
     go_ret2
     exact ⟨⟨_,_,_,_,_,rfl,.inr (.inr (.inr (.inr ⟨HQ.out,by rw [<- HP.out.head],by rw [<- HP.out.head]⟩))),B2.out⟩,G2.out⟩
theorem iy.bt {p:Pg}(h:iy p b e)(hi:Ib p.items)(hs:Lb p.aj)(hd:Bt p.data):Bt b:=by
 rcases h with ⟨_,rfl,rfl⟩ | ⟨_,h1⟩ | ⟨_,rfl,rfl⟩ | ⟨_,rfl,rfl⟩ | ⟨_,rfl,rfl⟩
 ·exact MO hi
 ·exact h1.bt hs
 ·exact UQ hd
 ·exact UT _ _
 ·exact Zp _
theorem uR (x:Pv)(p:Pg)(w:World)(hp:Pm w x p)(hf:Fits p) :
  Calls Tryz.prog 6 #[.agg #[.int .i64 x.k,.slice x.i.a x.i.n x.i.c,.int .i64 x.l,.slice x.s.a x.s.n x.s.c,.slice x.d.a x.d.n x.d.c,.int .i64 x.x,.slice x.b.a x.b.n x.b.c,.slice x.t.a x.t.n x.t.c,.int .i64 x.h.v,.int .i64 x.h.c,.int .i64 x.h.r,.int .i64 x.h.h,.int .i64 x.h.k,.int .i64 x.h.f,.int .i64 x.h.n]] w fun en w'=>(∃ ao n c zs e,en=.returned (.tuple #[.slice ao n c,.int .i64 e])/\uM p zs e/\ai w' ao n c zs/\n<=4096/\n<=c)/\w.grownBy w' none:=by
 have HP:=hJ hp;have HF:=hJ hf;have hkk:=hp.kind;clear hp hf
 by_cases h1:x.k<1
 ·have HQ:Hid (iT p.kind=false):=by show _=_;rw [<- hkk];simp [iT];omega
  clear hkk;go_enter Tryz.func6,Tryz.ntmps6;go_wp2
  go_ret2
  exact ⟨⟨none,0,0,[],80,rfl,.inl ⟨HQ.out,rfl,rfl⟩,ai.empty _,by omega,Nat.le_refl _⟩,World.grownBy_alloc w _ none⟩
 ·by_cases h5:5<x.k
  ·have HQ:Hid (iT p.kind=false):=by show _=_;rw [<- hkk];simp [iT];omega
   clear hkk;go_enter Tryz.func6,Tryz.ntmps6;go_wp2
   go_ret2
   exact ⟨⟨none,0,0,[],80,rfl,.inl ⟨HQ.out,rfl,rfl⟩,ai.empty _,by omega,Nat.le_refl _⟩,World.grownBy_alloc w _ none⟩
  ·have HQ:Hid (iT p.kind=true):=by show _=_;rw [<- hkk];simp [iT];omega
   clear hkk;go_enter Tryz.func6,Tryz.ntmps6;go_upto_region 1 with fail
   have X1:=hJ (Px.new w x);have G1:=hJ (gP w x);generalize w.alloc (.cells #[.int .i64 x.k,.slice x.i.a x.i.n x.i.c,.int .i64 x.l,.slice x.s.a x.s.n x.s.c,.slice x.d.a x.d.n x.d.c,.int .i64 x.x,.slice x.b.a x.b.n x.b.c,.slice x.t.a x.t.n x.t.c,.int .i64 x.h.v,.int .i64 x.h.c,.int .i64 x.h.r,.int .i64 x.h.h,.int .i64 x.h.k,.int .i64 x.h.f,.int .i64 x.h.n] 30)=w1 at *;obtain ⟨c0,c1,c2,c3,c4,c5,c6,c7,c8,c9,c10,c11,c12,c13,c14⟩:=X1.out.cells;go_upto_region 3 with fail
   go_region_law
    (first
     | (have zz:=hy;go_simp;go_at_call 12;refine (gm x (oA x) p (eV p) _ (by exact M2) (by exact M2.has)).mono ?_;rintro en w3 ⟨⟨b3,rfl,hb3⟩,hg3⟩)
     | (go_simp;go_at_call 18;refine (RU x _).mono ?_;rintro en w2 ⟨⟨y,rfl,hy⟩,hg2⟩;subst hy;have hy:=trivial;have RV:=gQ ((Qt.refl w1).drew.grown none) hg2;have X2:=X1.out.ae RV;have M2:=HP.out.ae (gQ G1.out RV);obtain ⟨d0,d1,d2,d3,d4,d5,d6,d7,d8,d9,d10,d11,d12,d13,d14⟩:=X2.cells))
   all_goals
    have G3:=hJ (gQ (gQ G1.out RV) hg3);have X3:=hJ (X2.ae hg3);have B3:=hJ hb3;clear hy hg2 RV hg3 hb3 M2 X2 G1 X1 c0 c1 c2 c3 c4 c5 c6 c7 c8 c9 c10 c11 c12 c13 c14 d0 d1 d2 d3 d4 d5 d6 d7 d8 d9 d10 d11 d12 d13 d14;cases b3 with
    | false =>
     have HN:Hid (p≠eV p):=fun e=>absurd (B3.out.2 e) (by decide)
     go_wp2
     go_ret2
     exact ⟨⟨none,0,0,[],81,rfl,.inr (.inl ⟨HQ.out,HN.out,rfl,rfl⟩),ai.empty _,by omega,Nat.le_refl _⟩,G3.out⟩
    | true =>
     have HE:Hid (p=eV p):=B3.out.1 rfl;obtain ⟨c0,c1,c2,c3,c4,c5,c6,c7,c8,c9,c10,c11,c12,c13,c14⟩:=X3.out.cells
     go_wp2_with fail
     refine (Cs x p _ (HP.out.ae G3.out) HF.out HQ.out).mono ?_;rintro en w4 ⟨⟨ao,j,c,b,e,rfl,hbr,hb4⟩,hg4⟩;have R4:=hJ hbr;have B4:=hJ hb4;have G4:=hJ (gQ G3.out hg4);clear hbr hb4 hg4 G3 X3 c0 c1 c2 c3 c4 c5 c6 c7 c8 c9 c10 c11 c12 c13 c14
     by_cases he:e=0
     ·subst he
      go_wp2_with fail
      refine (BA ao j c b _ B4.out (R4.out.bt HP.out.ib HP.out.sb HP.out.db)).mono ?_;rintro en w5 ⟨po,m,cp,rfl,kr,hm5,hc5,aK⟩;have B5:=hJ kr;have G5:=hJ (gQ G4.out aK);clear kr aK G4;go_wp2
      go_ret2
      exact ⟨⟨_,_,_,_,_,rfl,.inr (.inr ⟨HQ.out,HE.out,_,_,R4.out,.inr ⟨rfl,rfl,rfl⟩⟩),B5.out,hm5,hc5⟩,G5.out⟩
     ·have Oe:(e==0)=false:=by simp [he]
      have xw:(e != 0)=true:=by simp [he]
      have Og:=hJ he;clear he;go_wp2
      go_ret2
      exact ⟨⟨none,0,0,[],e,rfl,.inr (.inr ⟨HQ.out,HE.out,_,_,R4.out,.inl ⟨Og.out,rfl,rfl⟩⟩),ai.empty _,by omega,Nat.le_refl _⟩,G4.out⟩
theorem xE {e:TypeId}(h:w.ownsRow base e sz v n xs)(hg:w.grownBy w' none):w'.ownsRow base e sz v n xs :=
 h.kept hg (by cases v.ownBlock with | none=>exact .inl rfl | some g=>exact .inr (by simp))
theorem Ow.u8 {w:World}(h:Ow w g cap zs):U8 w g:=by
 obtain ⟨cur,h1,_⟩:=h.ex;exact ⟨cur,h1⟩
theorem cV (h:w.ownsRow base t sz v n xs)(hn:0<n):∃ A c,v=.slice (some ⟨A,0,none⟩) n c/\n<=c/\c<=9223372036854775807:=by
 rcases h.2 with ⟨_,rfl⟩ | ⟨g,cap,cur,rfl,_,_,hc,hm,_⟩
 ·omega
 ·exact ⟨g,cap,rfl,hc,by unfold maxLen at hm;omega⟩
theorem abm {L:List It}{i:Nat}(hi:i<L.length):L.take (i+1)=L.take i++[L.getD i aG]:=by
 rw [List.take_add_one,List.getElem?_eq_getElem hi];simp [List.getD,List.getElem?_eq_getElem hi]
structure Lm (w:World)(base:Nat)(mk mv:List Int)(gk gv:Nat->Nat × Nat)(xs:List Value)(L:List It):Prop where
 len:xs.length=L.length*4
 el:∀ j,j<L.length->xs[j*4]?=some (.slice (some ⟨(gk j).1,0,none⟩) (L.getD j aG).key.length (gk j).2)/\xs[j*4+1]?=some (.slice (some ⟨(gv j).1,0,none⟩) (L.getD j aG).val.length (gv j).2)/\xs[j*4+2]?=some (.int .i64 (L.getD j aG).size)/\xs[j*4+3]?=some (.int .i64 (L.getD j aG).first)
 ko:∀ j,j<L.length->Ow w (gk j).1 (gk j).2 ((L.getD j aG).key++mk)/\Ow w (gv j).1 (gv j).2 ((L.getD j aG).val++mv)
 lo:∀ j,j<L.length->base<=(gk j).1/\base<=(gv j).1/\(gk j).1≠(gv j).1
 up:∀ i j,i<j->j<L.length->(gk i).1<(gk j).1/\(gk i).1<(gv j).1/\(gv i).1<(gk j).1/\(gv i).1<(gv j).1
theorem Lm.nil (w:World)(base:Nat)(mk mv:List Int)(gk gv:Nat->Nat × Nat):Lm w base mk mv gk gv [] [] :=
 ⟨rfl,fun j hj=>by simp at hj,fun j hj=>by simp at hj,fun j hj=>by simp at hj,fun i j _ hj=>by simp at hj⟩
theorem Lm.kept {L:List It}{row:Option Nat}(h:Lm w base mk mv gk gv xs L)(hg:w.grownBy w' row)(hne:∀ g,base<=g->U8 w g->some g≠row):Lm w' base mk mv gk gv xs L :=
 ⟨h.len,h.el,fun j hj=>⟨(h.ko j hj).1.kept hg (hne _ (h.lo j hj).1 (h.ko j hj).1.u8),(h.ko j hj).2.kept hg (hne _ (h.lo j hj).2.1 (h.ko j hj).2.u8)⟩,h.lo,h.up⟩
theorem Lm.ae {base:Nat}{L:List It}(h:Lm w base mk mv gk gv xs L)(hg:w.grownBy w' none):Lm w' base mk mv gk gv xs L:=h.kept hg (fun _ _ _=>by simp)
theorem Lm.snoc {L:List It}(h:Lm w base mk mv gk gv xs L){g1 c1 g2 c2:Nat}{x:It}{s:Int}(h1:Ow w g1 c1 (x.key++mk))(h2:Ow w g2 c2 (x.val++mv))(hn:x.key.length=n)(hm:x.val.length=m)(hs:x.size=s)(hf:x.first=f)
  (b1:base<=g1) (b2:base<=g2) (hne:g1≠g2) (hlt:∀ j,j<L.length->(gk j).1<g1/\(gk j).1<g2/\(gv j).1<g1/\(gv j).1<g2) :
  Lm w base mk mv (fun j=>if j=L.length then (g1,c1) else gk j) (fun j=>if j=L.length then (g2,c2) else gv j) (xs++[.slice (some ⟨g1,0,none⟩) n c1,.slice (some ⟨g2,0,none⟩) m c2,.int .i64 s,.int .i64 f]) (L++[x]):=by
 have hl:=h.len;have yU:∀ j,j<(L++[x]).length->j<L.length∨j=L.length:=fun j hj=>by rw [List.length_append] at hj;simp at hj;omega
 have old:∀ j,j<L.length->(L++[x]).getD j aG=L.getD j aG:=fun j hj=>by simp [List.getD,List.getElem?_append_left hj]
 have new:(L++[x]).getD L.length aG=x:=by simp [List.getD]
 refine ⟨by simp [hl];omega,fun j hj=>?_,fun j hj=>?_,fun j hj=>?_,fun i j hij hj=>?_⟩
 ·rcases yU j hj with e | rfl
  ·rw [old j e]
   have e2:j≠L.length:=by omega
   simp only [if_neg e2];obtain ⟨a1,a2,a3,a4⟩:=h.el j e;exact ⟨by rw [List.getElem?_append_left (by omega)];exact a1,by rw [List.getElem?_append_left (by omega)];exact a2,by rw [List.getElem?_append_left (by omega)];exact a3,by rw [List.getElem?_append_left (by omega)];exact a4⟩
  ·rw [new,hn,hm,hs,hf]
   simp only [if_pos];refine ⟨?_,?_,?_,?_⟩
   ·rw [List.getElem?_append_right (by omega),hl,Nat.sub_self];rfl
   ·rw [List.getElem?_append_right (by omega),hl,Nat.add_sub_cancel_left];rfl
   ·rw [List.getElem?_append_right (by omega),hl,Nat.add_sub_cancel_left];rfl
   ·rw [List.getElem?_append_right (by omega),hl,Nat.add_sub_cancel_left];rfl
 ·rcases yU j hj with e | rfl
  ·rw [old j e]
   have e2:j≠L.length:=by omega
   simp only [if_neg e2];exact h.ko j e
  ·rw [new]
   simp only [if_pos];exact ⟨h1,h2⟩
 ·rcases yU j hj with e | rfl
  ·have e2:j≠L.length:=by omega
   simp only [if_neg e2];exact h.lo j e
  ·simp only [if_pos]
   exact ⟨b1,b2,hne⟩
 ·rcases yU j hj with e | rfl
  ·have e2:j≠L.length:=by omega
   have e3:i≠L.length:=by omega
   simp only [if_neg e2,if_neg e3];exact h.up i j hij e
  ·have e3:i≠L.length:=by omega
   simp only [if_pos,if_neg e3];exact hlt i hij
theorem oB {ts:List Int}(h:Ow w g cap (zs++ts))(n:Nat)(hn:n=zs.length):ai w (some ⟨g,0,none⟩) n cap zs:=h.part.AL n hn
theorem Lm.cells {w:World}{b2:Nat}{ys:List Value}{L:List It}{N:Nat}(h:Lm w base mk mv gk gv xs L)(ho:w.ownsRow b2 63 4 (.slice (some ⟨A,0,none⟩) N cap) N (xs++ys))(j:Nat)(hj:j<L.length) :
  w.cell? ⟨A,j*4,none⟩=some (.slice (some ⟨(gk j).1,0,none⟩) (L.getD j aG).key.length (gk j).2)/\w.cell? ⟨A,j*4+1,none⟩=some (.slice (some ⟨(gv j).1,0,none⟩) (L.getD j aG).val.length (gv j).2) /\
  w.cell? ⟨A,j*4+2,none⟩=some (.int .i64 (L.getD j aG).size)/\w.cell? ⟨A,j*4+3,none⟩=some (.int .i64 (L.getD j aG).first):=by
 have hl:=h.len;have hlt:=ho.1;rw [List.length_append] at hlt;obtain ⟨a1,a2,a3,a4⟩:=h.el j hj;refine ⟨?_,?_,?_,?_⟩
 ·rw [ho.cellAt _ (by omega),List.getElem?_append_left (by omega)];exact a1
 ·rw [ho.cellAt _ (by omega),List.getElem?_append_left (by omega)];exact a2
 ·rw [ho.cellAt _ (by omega),List.getElem?_append_left (by omega)];exact a3
 ·rw [ho.cellAt _ (by omega),List.getElem?_append_left (by omega)];exact a4
attribute [local go_sem ↓] Go.wp_at_zero Go.wp_at_succ
theorem xF (h:w.ownsRow base 5 1 (.slice (some ⟨g,0,none⟩) n n) n (zs.map (Value.int .u8))):Ow w g n zs:=(Ow.aP h).1
theorem gr4 (w:World)(U:Nat)(v0 v1 v2 v3:Value):w.grownBy ((((w.setCell ⟨U,0,none⟩ v0).setCell ⟨U,1,none⟩ v1).setCell ⟨U,2,none⟩ v2).setCell ⟨U,3,none⟩ v3) (some U) :=
 gQ (gQ (gQ (ay w U 0 v0) (ay _ U 1 v1)) (ay _ U 2 v2)) (ay _ U 3 v3)
theorem gc4 {U b o:Nat}{v0 v1 v2 v3:Value}(hne:b≠U)(h:w.cell? ⟨b,o,none⟩=some v):((((w.setCell ⟨U,0,none⟩ v0).setCell ⟨U,1,none⟩ v1).setCell ⟨U,2,none⟩ v2).setCell ⟨U,3,none⟩ v3).cell? ⟨b,o,none⟩=some v :=
 (gr4 w U v0 v1 v2 v3).cell h (fun e=>hne (Option.some.inj e))
theorem Ct (ao:Option Addr)(n c:Nat)(bo:Option Addr)(m d:Nat)(s f:Int)(x:It)(w:World)(hk:ai w ao n c x.key)(hv:ai w bo m d x.val)(hn:n<=100000)(hm:m<=100000) :
  Calls Tryz.prog 51 #[.agg #[.slice ao n c,.slice bo m d,.int .i64 s,.int .i64 f]] w fun en w'=>∃ g1 g2,en=.returned (.agg #[.slice (some ⟨g1,0,none⟩) n n,.slice (some ⟨g2,0,none⟩) m m,.int .i64 s,.int .i64 f])/\Ow w' g1 n x.key/\Ow w' g2 m x.val/\w.heap.size<=g1/\w.heap.size<=g2/\g1≠g2/\w.grownBy w' none:=by
 have ga:=World.grownBy_alloc w (.cells #[.slice ao n c,.slice bo m d,.int .i64 s,.int .i64 f] 63) none;have gb:=World.grownBy_alloc (w.alloc (.cells #[.slice ao n c,.slice bo m d,.int .i64 s,.int .i64 f] 63)) (.cells #[.slice none 0 0,.slice none 0 0,.int .i64 0,.int .i64 0] 63) none;have HG:=hJ (gQ ga gb);have hs1:(w.alloc (.cells #[.slice ao n c,.slice bo m d,.int .i64 s,.int .i64 f] 63)).heap.size=w.heap.size+1:=by simp
 have X1:=hJ ((Bx.new w (.slice ao n c) (.slice bo m d) (.int .i64 s) (.int .i64 f)).kept gb (by simp));have Y1:=hJ (Bx.new (w.alloc (.cells #[.slice ao n c,.slice bo m d,.int .i64 s,.int .i64 f] 63)) (.slice none 0 0) (.slice none 0 0) (.int .i64 0) (.int .i64 0));rw [hs1] at Y1;have K1:=hJ (hk.ae (gQ ga gb));have V1:=hJ (hv.ae (gQ ga gb));have hsz:((w.alloc (.cells #[.slice ao n c,.slice bo m d,.int .i64 s,.int .i64 f] 63)).alloc (.cells #[.slice none 0 0,.slice none 0 0,.int .i64 0,.int .i64 0] 63)).heap.size=w.heap.size+2:=by simp
 clear ga gb hs1 hk hv;go_enter Tryz.func51,Tryz.ntmps51;go_upto_region 1 with fail
 generalize (w.alloc (.cells #[.slice ao n c,.slice bo m d,.int .i64 s,.int .i64 f] 63)).alloc (.cells #[.slice none 0 0,.slice none 0 0,.int .i64 0,.int .i64 0] 63)=w1 at *;obtain ⟨B,hB⟩:∃ B,w.heap.size=B:=⟨_,rfl⟩;rw [hB] at X1 Y1 hsz ⊢;obtain ⟨U,hU⟩:∃ U,B+1=U:=⟨_,rfl⟩;rw [hU] at Y1 ⊢;have hBU:B≠U:=by omega
 have alp:¬ B=U:=by omega
 have hUs:U<w1.heap.size:=by omega
 have ZM:Hid (w1.heap.size=B+2):=hsz;clear hsz;obtain ⟨x0,x1,x2,x3⟩:=X1.out.cells
 go_region_held3 (fun w'=>w'.cell? ⟨B,0,none⟩=some (.slice ao n c)/\w'.cell? ⟨B,1,none⟩=some (.slice bo m d)/\w'.cell? ⟨B,2,none⟩=some (.int .i64 s)/\w'.cell? ⟨B,3,none⟩=some (.int .i64 f)) (first | go_keep | exact ⟨gc4 hBU y0,gc4 hBU y1,gc4 hBU y2,gc4 hBU y3⟩)
  ((first
   | (go_simp;go_at_call 9;refine (bq bo m d x.val _ (by exact (V1.out.ae ((Qt.refl _).drew.grown none)).ae hg2) (by omega)).mono ?_;rintro en w3 ⟨rfl,iN,hg3,hs3⟩;obtain ⟨y0,y1,y2,y3⟩:=(X1.out.kept (gQ (gQ ((Qt.refl _).drew.grown none) hg2) hg3) (by simp)).cells;obtain ⟨z0,z1,z2,z3⟩:=(Y1.out.kept (gQ (gQ ((Qt.refl _).drew.grown none) hg2) hg3) (by simp)).cells;have f0:=(Y1.out.kept (gQ (gQ ((Qt.refl _).drew.grown none) hg2) hg3) (by simp)).frozen 0;have f1:=(Y1.out.kept (gQ (gQ ((Qt.refl _).drew.grown none) hg2) hg3) (by simp)).frozen 1;have f2:=(Y1.out.kept (gQ (gQ ((Qt.refl _).drew.grown none) hg2) hg3) (by simp)).frozen 2;have f3:=(Y1.out.kept (gQ (gQ ((Qt.refl _).drew.grown none) hg2) hg3) (by simp)).frozen 3)
   | (go_simp;go_at_call 9;refine (bq ao n c x.key _ (by exact K1.out.ae ((Qt.refl _).drew.grown none)) (by omega)).mono ?_;rintro en w2 ⟨rfl,hown2,hg2,hs2⟩;obtain ⟨y0,y1,y2,y3⟩:=(X1.out.kept (gQ ((Qt.refl _).drew.grown none) hg2) (by simp)).cells)))
 have hY3:=Y1.out.kept (gQ (gQ ((Qt.refl _).drew.grown none) hg2) hg3) (by simp);have hG3:=gr4 w3 U (.slice (some ⟨w1.heap.size,0,none⟩) n n) (.slice (some ⟨w2.heap.size,0,none⟩) m m) (.int .i64 s) (.int .i64 f);have hd:=(((hY3.mJ (.slice (some ⟨w1.heap.size,0,none⟩) n n)).rI (.slice (some ⟨w2.heap.size,0,none⟩) m m)).Bj (.int .i64 s)).Bk (.int .i64 f);have hk2:Ow w2 w1.heap.size n x.key:=xF hown2;have hv3:Ow w3 w2.heap.size m x.val:=xF iN;have alr:w1.heap.size<w2.heap.size:=hs2;have hGW:w.grownBy w3 none:=gQ HG.out (gQ (gQ ((Qt.refl _).drew.grown none) hg2) hg3);have hB9:=ZM.out;have hk3:=(hk2.ae hg3).kept hG3 (fun e=>by have:=Option.some.inj e;omega);have hv4:=hv3.kept hG3 (fun e=>by have:=Option.some.inj e;omega);have hGF:=af hGW hG3 (by omega);go_wp2;refine bodyPost_ret (nU rfl _ _ U _ _ _ _ rfl hd) rfl ?_;exact ⟨_,_,rfl,hk3,hv4,by omega,by omega,by omega,hGF⟩
structure Lq (w:World)(base A c:Nat)(gk gv:Nat->Nat × Nat)(xs:List Value)(L:List It):Prop where
 own:w.ownsRow base 63 4 (.slice (some ⟨A,0,none⟩) L.length c) L.length xs
 lm:Lm w base [] [] gk gv xs L
theorem Lq.ae {base:Nat}{L:List It}(h:Lq w base A c gk gv xs L)(hg:w.grownBy w' none):Lq w' base A c gk gv xs L:=⟨xE h.own hg,h.lm.ae hg⟩
theorem Lq.below {L:List It}(h:Lq w base A c gk gv xs L)(hg:w.grownBy w' (some g))(hlt:g<base):Lq w' base A c gk gv xs L :=
 ⟨h.own.kept hg (.inr (fun e=>by have:=(h.own.lt g e).1;omega)),h.lm.kept hg (fun b hb _ e=>by have:=Option.some.inj e;omega)⟩
theorem oC (a:Option Addr)(n cap:Nat)(L:List It)(w:World)(hl:Il w a L)(hn:L.length=n)(hm:n<=5000)(hs:∀ x∈L,x.key.length<=100000/\x.val.length<=100000) :
  Calls Tryz.prog 21 #[.slice a n cap] w fun en w'=>∃ A c gk gv xs,en=.returned (.slice (some ⟨A,0,none⟩) n c)/\Lq w' w.heap.size A c gk gv xs L/\n<=c/\c<=9223372036854775807/\w.grownBy w' none:=by
 obtain ⟨i1,jN,hy0,vL,jE⟩:=info_parts pT;have HL:=hJ hl;have HS:=hJ hs;clear hl hs;go_enter Tryz.func21,Tryz.ntmps21
 go_wp2_with (at_make;refine wpList_make_own _ rfl _ _ 22 rfl w.heap.size 63 i1 (.agg #[.slice none 0 0,.slice none 0 0,.int .i64 0,.int .i64 0]) 4 Tryz.underlying22 jN hy0 vL _ _ _ n rfl rfl rfl ?b2 ?b3 (Nat.le_refl _) ?_)
 case b2=>rw [jE];omega
 case b3=>unfold maxLen;omega
 intro w0 aR hg0;have O0:=hJ aR;have G0:=hJ hg0;clear aR hg0;go_wp2;go_loopw [3,4,5] (fun sl si _ wr=>∃ (i:Nat) (A c:Nat) (gk gv:Nat->Nat × Nat) (xs:List Value),i<=n/\si=.int .i64 i/\sl=.slice (some ⟨A,0,none⟩) i c/\i<=c/\c<=9223372036854775807/\wr.ownsRow w.heap.size 63 4 (.slice (some ⟨A,0,none⟩) i c) i xs/\Lm wr w.heap.size [] [] gk gv xs (L.take i)/\w.grownBy wr none) (fun _ si _ _=>n - (intOf si).toNat)
 case atStart=>exact ⟨0,_,_,fun _=>(0,0),fun _=>(0,0),[],Nat.zero_le _,rfl,rfl,by omega,by omega,O0.out,Lm.nil _ _ _ _ _ _,G0.out⟩
 case round =>
  obtain ⟨i,A,c,gk,gv,xs,hi',rfl,rfl,GQ,hcm,hown,hlm,hg⟩:=hrel;have HO:=hJ hown;have HM:=hJ hlm;have HG:=hJ hg;clear hown hlm hg O0 G0
  by_cases hlt:i<n
  ·obtain ⟨b1,off,ao,k,kc,bo,m,mc,rfl,q1,q2,q3,q4,hk,_,_,hv,_,_⟩:=HL.out.row i (by omega)
   have c0:=HG.out.cell q1 (by simp);have c1:=HG.out.cell q2 (by simp);have c2:=HG.out.cell q3 (by simp);have c3:=HG.out.cell q4 (by simp);have K1:=hJ (hk.ae HG.out);have V1:=hJ (hv.ae HG.out);have nu:=hk.len;have hvl:=hv.len;have XV:=HS.out _ (cR (show i<L.length by omega));have yF:=hJ (abm (show i<L.length by omega));have DZ:Hid ((L.take i).length=i):=by show _=_;rw [List.length_take];omega
   clear q1 q2 q3 q4 hk hv;generalize L.getD i aG=x at *;obtain ⟨sz,hsz⟩:∃ sz,x.size=sz:=⟨_,rfl⟩;obtain ⟨fs,IX⟩:∃ fs,x.first=fs:=⟨_,rfl⟩
   rw [hsz] at c2;rw [IX] at c3;have VT:=hJ hsz;have ZE:=hJ IX;clear hsz IX;have hwg:=HG.out.size
   go_wp2_with fail
   refine (Ct ao k kc bo m mc sz fs x _ K1.out V1.out (by omega) (by omega)).mono ?_;rintro en w2 ⟨g1,g2,rfl,ho1,Nq,hb1,hb2,hne,hg2⟩;have ga:=World.grownBy_alloc w2 (.cells #[.slice (some ⟨g1,0,none⟩) k k,.slice (some ⟨g2,0,none⟩) m m,.int .i64 sz,.int .i64 fs] 63) none
   have kP:Hid (∀ j,j<(L.take i).length->(gk j).1<g1/\(gk j).1<g2/\(gv j).1<g1/\(gv j).1<g2):=fun j hj=>by
    have:=(HM.out.ko j hj).1.lt;have:=(HM.out.ko j hj).2.lt;omega
   have hga:=gQ hg2 ga;have HM3:=hJ (HM.out.ae hga);have HO3:=hJ (xE HO.out hga);have rq:=hJ (gQ HG.out hga);have OK3:=hJ (ho1.ae ga);have OV3:=hJ (Nq.ae ga);have X3:=hJ (Bx.new w2 (.slice (some ⟨g1,0,none⟩) k k) (.slice (some ⟨g2,0,none⟩) m m) (.int .i64 sz) (.int .i64 fs));clear ga hga hg2 ho1 Nq HM HO HG c0 c1 c2 c3 K1 V1;go_upto_region 6 with fail
   generalize w2.alloc (.cells #[.slice (some ⟨g1,0,none⟩) k k,.slice (some ⟨g2,0,none⟩) m m,.int .i64 sz,.int .i64 fs] 63)=w3 at *;generalize w2.heap.size=T at *;obtain ⟨x0,x1,x2,x3⟩:=X3.out.cells
   go_wp2_with (at_builtin;refine wpList_append_own _ rfl _ _ 22 rfl w.heap.size 63 i1 (.agg #[.slice none 0 0,.slice none 0 0,.int .i64 0,.int .i64 0]) 4 64 Tryz.underlying22 jN hy0 vL jE rfl (by decide) _ i xs rfl (HO3.out.alloc _) ⟨w3.heap.size,0,none⟩ 1 1 [.slice (some ⟨g1,0,none⟩) k k,.slice (some ⟨g2,0,none⟩) m m,.int .i64 sz,.int .i64 fs] rfl rfl (dU _ _ _ _ _ _) (by intro u hu;simp at hu;rcases hu with rfl | rfl | rfl | rfl <;> rfl) (by unfold maxLen;omega) (by omega) (by have:=rq.out.size;simp;omega) ?_)
   intro v' fI ho aW _;obtain ⟨A',c',rfl,afw,afx⟩:=cV ho (by omega);have gb:=World.grownBy_alloc w3 (.cells #[.slice (some ⟨g1,0,none⟩) k k,.slice (some ⟨g2,0,none⟩) m m,.int .i64 sz,.int .i64 fs] 63) none;have hnu:∀ (g:Nat),U8 (w3.alloc (.cells #[.slice (some ⟨g1,0,none⟩) k k,.slice (some ⟨g2,0,none⟩) m m,.int .i64 sz,.int .i64 fs] 63)) g->some g≠_:=fun g hu=>qI (HO3.out.alloc (.cells #[.slice (some ⟨g1,0,none⟩) k k,.slice (some ⟨g2,0,none⟩) m m,.int .i64 sz,.int .i64 fs] 63)) g hu
   have abn:=(HM3.out.ae gb).kept aW (fun g _ hu=>hnu g hu);have abo:=(OK3.out.ae gb).kept aW (hnu g1 (OK3.out.ae gb).u8);have abp:=(OV3.out.ae gb).kept aW (hnu g2 (OV3.out.ae gb).u8);have afy:=hJ (jt rq.out HO3.out (Nat.le_refl _) aW);have abq:=hJ (abn.snoc (by rw [List.append_nil];exact abo) (by rw [List.append_nil];exact abp) nu hvl VT.out ZE.out (by omega) (by omega) hne kP.out);have afz:=hJ ho;rw [<- yF.out] at abq;clear ho aW gb hnu abn abo abp HM3 HO3 rq OK3 OV3 X3 x0 x1 x2 x3;go_wp2;go_roundw
   case rel=>exact ⟨i+1,A',c',_,_,_,by omega,by go_num,rfl,afw,afx,afz.out,abq.out,afy.out⟩
   case measure=>simp [intOf];omega
  ·have hin:i=n:=by omega
   subst hin;have e:L.take i=L:=by rw [<- hn,List.take_length]
   rw [e] at HM;clear e;go_wp2;go_ret;exact ⟨A,c,gk,gv,xs,rfl,⟨by rw [hn];exact HO.out,HM.out⟩,GQ,hcm,HG.out⟩
end Go.Proofs.YtgldkdbkaachkaaGreatDoor
