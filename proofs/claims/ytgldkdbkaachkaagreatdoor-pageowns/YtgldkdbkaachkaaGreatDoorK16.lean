import Derived.Test.YtgldkdbkaachkaaGreatDoorK14
import Derived.Deep.WholeRow
import Derived.Deep.CutBlock
import Derived.Deep.RegionLaw
import Derived.Laws.Cover3
import Derived.Laws.StructEq
import Derived.ChangeKeysEq
import Derived.KernelRfl
set_option maxRecDepth 100000
set_option maxHeartbeats 4000000
namespace Go.Proofs.YtgldkdbkaachkaaGreatDoor
open Go.RowKit
variable {c f k n r t v:Int}{N T:Nat}{w w':World}
def Hx (w:World)(T:Nat)(v c r t k f n:Int):Prop:=w.heap[T]?=some (.cells #[.int .i64 v,.int .i64 c,.int .i64 r,.int .i64 t,.int .i64 k,.int .i64 f,.int .i64 n] 28 (0,0))
theorem Hx.lt (h:Hx w T v c r t k f n):T<w.heap.size:=(Array.getElem?_eq_some_iff.1 h).1
theorem Hx.cells {w:World}{k:Int}(h:Hx w T v c r t k f n):w.cell? ⟨T,0,none⟩=some (.int .i64 v)/\w.cell? ⟨T,1,none⟩=some (.int .i64 c)/\w.cell? ⟨T,2,none⟩=some (.int .i64 r)/\w.cell? ⟨T,3,none⟩=some (.int .i64 t) /\
  w.cell? ⟨T,4,none⟩=some (.int .i64 k)/\w.cell? ⟨T,5,none⟩=some (.int .i64 f)/\w.cell? ⟨T,6,none⟩=some (.int .i64 n):=by
 refine ⟨?_,?_,?_,?_,?_,?_,?_⟩
 ·rw [cell_of_row w T 0 _ _ _ h];rfl
 ·rw [cell_of_row w T 1 _ _ _ h];rfl
 ·rw [cell_of_row w T 2 _ _ _ h];rfl
 ·rw [cell_of_row w T 3 _ _ _ h];rfl
 ·rw [cell_of_row w T 4 _ _ _ h];rfl
 ·rw [cell_of_row w T 5 _ _ _ h];rfl
 ·rw [cell_of_row w T 6 _ _ _ h];rfl
theorem Hx.frozen (h:Hx w T v c r t k f n)(j:Nat):w.frozen? ⟨T,j,none⟩=false:=frozen_of_row w T j _ _ h
theorem Hx.kept {row:Option Nat}(h:Hx w T v c r t k f n)(hg:w.grownBy w' row)(hne:some T≠row):Hx w' T v c r t k f n:=(hg.block T h.lt hne).trans h
theorem Hx.ae (h:Hx w T v c r t k f n)(hg:w.grownBy w' none):Hx w' T v c r t k f n:=h.kept hg (by simp)
theorem Hx.new (w:World)(v c r t k f n:Int):Hx (w.alloc (.cells #[.int .i64 v,.int .i64 c,.int .i64 r,.int .i64 t,.int .i64 k,.int .i64 f,.int .i64 n] 28)) w.heap.size v c r t k f n:=heap_alloc_new w _
theorem lI:(Tryz.prog.info? 28).map (·.size)=some 7:=by kernel_rfl
theorem uD {fn:Func}{p:Tmp}(h:fn.results=#[.cell p 28])(tmps:Array Value)(w:World)(U:Nat)(v c r t k f n:Int)(hp:tmps.getD p undef=.pointer (some ⟨U,0,none⟩))(hx:Hx w U v c r t k f n) :
  (results fn tmps).run Tryz.prog w=.ok (.agg #[.int .i64 v,.int .i64 c,.int .i64 r,.int .i64 t,.int .i64 k,.int .i64 f,.int .i64 n]) w :=
 results_cell_row h tmps w U 28 _ (0,0) _ hp hx Tryz.underlying28 rfl lI
structure PV (t:TypeId)(n:Nat):Prop where
 und:Tryz.prog.underlying t=some (.array n 5)
 zero:((Tryz.prog.info? t).bind (fun i=>i.zero)).map (fun z=>z.cells)=some ((List.replicate n (Value.int .u8 0)).toArray)
 size:(Tryz.prog.info? t).map (fun i=>i.size)=some n
 WQ:Tryz.prog.eqGuardType Tryz.prog.depth t=false
theorem lJ:PV 221 3:=⟨Tryz.underlying221,by kernel_rfl,by kernel_rfl,by kernel_rfl⟩
theorem lK:PV 101 4:=⟨Tryz.underlying101,by kernel_rfl,by kernel_rfl,by kernel_rfl⟩
theorem fo:PV 224 4051:=⟨Tryz.underlying224,by kernel_rfl,by kernel_rfl,by kernel_rfl⟩
theorem PV.parts {t:TypeId}{n:Nat}(h:PV t n):∃ i z,Tryz.prog.info? t=some i/\i.zero=some z/\z.cells=((List.replicate n (0:Int)).map (Value.int .u8)).toArray:=by
 obtain ⟨z,h1,h2⟩:=Option.map_eq_some_iff.1 h.zero;obtain ⟨i,h3,h4⟩:=Option.bind_eq_some_iff.1 h1;exact ⟨i,z,h3,h4,by rw [List.map_replicate];exact h2⟩
theorem ot {t:TypeId}(ha:PV t N){ops:Array Oper}{rest:List Oper}{o:Oper}{a:Act}{Q:Exit->Act->World->Prop}(hgd:o.guard=none)(ho:o.op=.alloc t)(Z:List Int)(hZ:Z=List.replicate N 0)
  (h:∀ w',Rt w' w.heap.size t Z->w.grownBy w' none->w'.heap.size=w.heap.size+1->wpList Tryz.prog ops Q rest (a.put o.dst (.pointer (some ⟨w.heap.size,0,none⟩))) w'):wpList Tryz.prog ops Q (o::rest) a w:=by
 obtain ⟨i,z,h1,h2,h3⟩:=ha.parts;refine wpList_plain hgd fun K hK=>?_
 unfold Oper.wp
 have hr:(execOp a.eval o).run Tryz.prog w=.ok (.value (.pointer (some ⟨w.heap.size,0,none⟩))) (w.alloc (.cells z.cells t)):=by
  simp [execOp,ho,Instr.alloc,zeroValue,typeInfo,newVar,newRow,h1,h2]
 rw [hr,Oper.upon_value];refine hK _ _ (h _ ?_ (World.grownBy_alloc w _ none) (by simp));rw [h3,hZ];exact heap_alloc_new w _
theorem Cl:Tryz.prog.plainKey 5=true:=by kernel_rfl
theorem lM:Tryz.prog.plainKey 3=true:=by kernel_rfl
theorem Ob:Tryz.prog.cellsOf 5=1:=by kernel_rfl
theorem uF:∃ i,Tryz.prog.info? 5=some i:=Option.isSome_iff_exists.1 (by kernel_rfl)
theorem iR (xs:List Int)(i:Nat)(h:i<xs.length)(kk:IntKind):(xs.map (Value.int kk)).toArray[i]?=some (.int kk (xs.getD i 0)):=by
 simp [List.getD,List.getElem?_eq_getElem h]
theorem uG (d:Nat)(xs ys:List Int)(w:World):∀ is:List Nat,(∀ i∈is,i<xs.length/\i<ys.length) ->
  (Op.eqItems (d+1) 5 1 (xs.map (Value.int .u8)).toArray (ys.map (Value.int .u8)).toArray is).run Tryz.prog w=.ok (is.all fun i=>xs.getD i 0==ys.getD i 0) w
 | [],_=>by simp [Op.eqItems]
 | i::is,h=>by
  have hi:=h i List.mem_cons_self;have p1:=run_part_plain (P:=Tryz.prog) (w:=w) Cl (iR xs i hi.1 .u8);have p2:=run_part_plain (P:=Tryz.prog) (w:=w) Cl (iR ys i hi.2 .u8);have p3:=run_equalIn_int (P:=Tryz.prog) (w:=w) d 5 .u8 .u8 (xs.getD i 0) (ys.getD i 0) Tryz.underlying5;have ih:=uG d xs ys w is (fun j hj=>h j (List.mem_cons_of_mem _ hj));simp only [Op.eqItems,Sem.run_bind,Nat.mul_one,p1,p2,p3,Result.andThen_ok,List.all_cons];cases (xs.getD i 0==ys.getD i 0)
  ·simp
  ·simp only [Bool.not_true,Bool.false_eq_true,if_false,Bool.true_and];exact ih
theorem yK (xs ys:List Int)(h:xs.length=ys.length):((List.range xs.length).all fun i=>xs.getD i 0==ys.getD i 0)=decide (xs=ys):=by
 rw [Bool.eq_iff_iff,List.all_eq_true,decide_eq_true_eq];constructor
 ·intro h1
  refine List.ext_getElem h fun i h2 h3=>?_
  have:=h1 i (List.mem_range.2 h2);simpa [List.getD,List.getElem?_eq_getElem h2,List.getElem?_eq_getElem h3] using this
 ·rintro rfl i _
  simp
theorem yL {t:TypeId}(ha:PV t N)(xs ys:List Int)(w:World)(hx:xs.length=N)(hy:ys.length=N):(binOp .neq t (mP xs) (mP ys)).run Tryz.prog w=.ok (.bool (!decide (xs=ys))) w:=by
 obtain ⟨i,hi⟩:=uF;unfold mP;rw [run_neq_struct,show (10000:Nat)=9999+1 from rfl,run_equalIn_array w 9999 _ _ ha.und hi,Ob,<- hx,show (9999:Nat)=9998+1 from rfl,uG 9998 xs ys w _ (fun j hj=>by have:=List.mem_range.1 hj;omega),yK xs ys (by omega)]
 rfl
theorem qa {t:TypeId}(ha:PV t N)(x y:Operand)(xs ys:List Int)(w:World):(eqGuard .neq t x y (mP xs) (mP ys)).run Tryz.prog w=.ok () w:=by
 unfold mP;exact run_eqGuard_agg w .neq t x y _ _ ha.WQ
theorem iG (d:Nat)(xs ys:List Int)(w:World):∀ fs:List Field,(∀ g∈fs,g.name≠ "_"/\g.type=3/\g.offset<xs.length/\g.offset<ys.length) ->
  (Op.eqFields (d+1) (xs.map (Value.int .i64)).toArray (ys.map (Value.int .i64)).toArray fs).run Tryz.prog w=.ok (fs.all fun g=>xs.getD g.offset 0==ys.getD g.offset 0) w
 | [],_=>by simp [Op.eqFields]
 | g::fs,h=>by
  obtain ⟨h1,h2,h3,h4⟩:=h g List.mem_cons_self;have p1:=run_part_plain (P:=Tryz.prog) (w:=w) lM (iR xs g.offset h3 .i64);have p2:=run_part_plain (P:=Tryz.prog) (w:=w) lM (iR ys g.offset h4 .i64);have p3:=run_equalIn_int (P:=Tryz.prog) (w:=w) d 3 .i64 .i64 (xs.getD g.offset 0) (ys.getD g.offset 0) Tryz.underlying3;have ih:=iG d xs ys w fs (fun j hj=>h j (List.mem_cons_of_mem _ hj));simp only [Op.eqFields,h1,h2,ne_eq,not_false_eq_true,if_true,Sem.run_bind,p1,p2,p3,Result.andThen_ok,List.all_cons];cases (xs.getD g.offset 0==ys.getD g.offset 0)
  ·simp
  ·simp only [Bool.not_true,Bool.false_eq_true,if_false,Bool.true_and];exact ih
theorem iw:Tryz.prog.underlying 28=some (.struct (Tryz.prog.fieldsOf 28)):=by kernel_rfl
theorem xy:Tryz.prog.stoodInHeld 28=false:=by kernel_rfl
theorem Cm (v c r t k f n v' c' r' t' k' f' n':Int)(w:World):(binOp .eql 28 (.agg #[.int .i64 v,.int .i64 c,.int .i64 r,.int .i64 t,.int .i64 k,.int .i64 f,.int .i64 n]) (.agg #[.int .i64 v',.int .i64 c',.int .i64 r',.int .i64 t',.int .i64 k',.int .i64 f',.int .i64 n'])).run Tryz.prog w=.ok (.bool (decide (v=v') && (decide (c=c') && (decide (r=r') && (decide (t=t') && (decide (k=k') && (decide (f=f') && decide (n=n')))))))) w:=by
 have e1:(#[.int .i64 v,.int .i64 c,.int .i64 r,.int .i64 t,.int .i64 k,.int .i64 f,.int .i64 n]:Array Value)=(([v,c,r,t,k,f,n]:List Int).map (Value.int .i64)).toArray:=rfl;have e2:(#[.int .i64 v',.int .i64 c',.int .i64 r',.int .i64 t',.int .i64 k',.int .i64 f',.int .i64 n']:Array Value)=(([v',c',r',t',k',f',n']:List Int).map (Value.int .i64)).toArray:=rfl;obtain ⟨F,hF⟩:∃ F,F=Tryz.prog.fieldsOf 28:=⟨_,rfl⟩;have hu:=iw;rw [Tryz.underlying28,<- hF] at hu;rw [run_eql_struct,show (10000:Nat)=9999+1 from rfl,run_equalIn_struct w 9999 28 _ _ iw xy,<- hF,e1,e2];have hf:=(TypeDesc.struct.inj (Option.some.inj hu)).symm;subst hf;rw [show (9999:Nat)=9998+1 from rfl,iG 9998 _ _ w _ (by intro g hg;simp at hg;rcases hg with rfl | rfl | rfl | rfl | rfl | rfl | rfl <;> exact ⟨by decide,rfl,by simp,by simp⟩)]
 show Result.ok (Value.bool _) w=_
 congr 2
 rw [Bool.eq_iff_iff];simp
theorem uH (x y:Operand)(v c r t k f n v' c' r' t' k' f' n':Int)(w:World):(eqGuard .eql 28 x y (.agg #[.int .i64 v,.int .i64 c,.int .i64 r,.int .i64 t,.int .i64 k,.int .i64 f,.int .i64 n]) (.agg #[.int .i64 v',.int .i64 c',.int .i64 r',.int .i64 t',.int .i64 k',.int .i64 f',.int .i64 n'])).run Tryz.prog w=.ok () w :=
 run_eqGuard_agg w .eql 28 x y _ _ (by kernel_rfl)
theorem bZ (x a b:Int)(w:World):Calls Tryz.prog 262 #[.int .i64 x,.int .i64 a,.int .i64 b] w fun en w'=>en=.returned (.bool (wi x a b))/\w'=w:=by
 by_cases h1:a<=x
 ·by_cases h2:x<=b
  ·have e:Hid (wi x a b=true):=pM.2 ⟨h1,h2⟩
   go_enter Tryz.func262,Tryz.ntmps262;go_wp2;go_ret;exact ⟨by rw [e.out];rfl,rfl⟩
  ·have e:Hid (wi x a b=false):=by show _=_;simp [wi,h2]
   go_enter Tryz.func262,Tryz.ntmps262;go_wp2;go_ret;exact ⟨by rw [e.out];rfl,rfl⟩
 ·have e:Hid (wi x a b=false):=by show _=_;simp [wi,h1]
  go_enter Tryz.func262,Tryz.ntmps262;go_wp2;go_ret;exact ⟨by rw [e.out];rfl,rfl⟩
theorem Hx.WR (w:World)(o:Obj)(v c r t k f n:Int):Hx ((w.alloc o).alloc (.cells #[.int .i64 v,.int .i64 c,.int .i64 r,.int .i64 t,.int .i64 k,.int .i64 f,.int .i64 n] 28)) (w.heap.size+1) v c r t k f n:=by
 have:=Hx.new (w.alloc o) v c r t k f n;simpa using this
theorem aN (w:World)(o o':Obj):w.grownBy ((w.alloc o).alloc o') none:=gQ (World.grownBy_alloc w _ none) (World.grownBy_alloc _ _ none)
theorem rS (v c r t k f n:Int)(w:World):Calls Tryz.prog 284 #[.agg #[.int .i64 v,.int .i64 c,.int .i64 r,.int .i64 t,.int .i64 k,.int .i64 f,.int .i64 n]] w fun en w'=>en=.returned (.agg #[.int .i64 v,.int .i64 c,.int .i64 0,.int .i64 0,.int .i64 0,.int .i64 f,.int .i64 n])/\w.grownBy w' none:=by
 go_enter Tryz.func284,Tryz.ntmps284;go_wp2;refine bodyPost_ret (uD rfl _ _ (w.heap.size+1) v c 0 0 0 f n rfl (Hx.WR w _ v c 0 0 0 f n)) rfl ?_;exact ⟨rfl,aN w _ _⟩
theorem qb (v c r t k f n:Int)(w:World):Calls Tryz.prog 285 #[.agg #[.int .i64 v,.int .i64 c,.int .i64 r,.int .i64 t,.int .i64 k,.int .i64 f,.int .i64 n]] w fun en w'=>en=.returned (.agg #[.int .i64 v,.int .i64 c,.int .i64 r,.int .i64 t,.int .i64 k,.int .i64 0,.int .i64 0])/\w.grownBy w' none:=by
 go_enter Tryz.func285,Tryz.ntmps285;go_wp2;refine bodyPost_ret (uD rfl _ _ (w.heap.size+1) v c r t k 0 0 rfl (Hx.WR w _ v c r t k 0 0)) rfl ?_;exact ⟨rfl,aN w _ _⟩
theorem wH (v c r t k f n:Int)(w:World)(hc:2<=c/\c<=524287):Calls Tryz.prog 263 #[.agg #[.int .i64 v,.int .i64 c,.int .i64 r,.int .i64 t,.int .i64 k,.int .i64 f,.int .i64 n]] w fun en w'=>en=.returned (.bool (II ⟨v,c,r,t,k,f,n⟩))/\w.grownBy w' none:=by
 by_cases hr:r=0
 ·subst hr
  have hm:Hid ((decide (v=v) && (decide (c=c) && (decide ((0:Int)=0) && (decide (t=0) && (decide (k=0) && (decide (f=f) && decide (n=n)))))))=II ⟨v,c,0,t,k,f,n⟩):=by
   show _=_
   simp [II]
  generalize II ⟨v,c,0,t,k,f,n⟩=bt at *;have heq:∀ W:World,(binOp .eql 28 (.agg #[.int .i64 v,.int .i64 c,.int .i64 0,.int .i64 t,.int .i64 k,.int .i64 f,.int .i64 n]) (.agg #[.int .i64 v,.int .i64 c,.int .i64 0,.int .i64 0,.int .i64 0,.int .i64 f,.int .i64 n])).run Tryz.prog W=.ok (.bool bt) W:=fun W=>by rw [Cm,hm.out]
  have JL:∀ (x y:Operand) (W:World),(eqGuard .eql 28 x y (.agg #[.int .i64 v,.int .i64 c,.int .i64 0,.int .i64 t,.int .i64 k,.int .i64 f,.int .i64 n]) (.agg #[.int .i64 v,.int .i64 c,.int .i64 0,.int .i64 0,.int .i64 0,.int .i64 f,.int .i64 n])).run Tryz.prog W=.ok () W:=fun x y W=>uH x y _ _ _ _ _ _ _ _ _ _ _ _ _ _ W
  go_enter Tryz.func263,Tryz.ntmps263;go_upto_region 2 with fail
  have X1:=hJ (Hx.new w v c 0 t k f n);have G1:=hJ (World.grownBy_alloc w (.cells #[.int .i64 v,.int .i64 c,.int .i64 0,.int .i64 t,.int .i64 k,.int .i64 f,.int .i64 n] 28) none);generalize w.alloc (.cells #[.int .i64 v,.int .i64 c,.int .i64 0,.int .i64 t,.int .i64 k,.int .i64 f,.int .i64 n] 28)=w1 at *;obtain ⟨c0,c1,c2,c3,c4,c5,c6⟩:=X1.out.cells
  go_region_law
   (go_simp;go_at_call 284;refine (rS v c 0 t k f n _).mono ?_;rintro en w2 ⟨rfl,hg2⟩;have hg3:=gQ ((Qt.refl w1).drew.grown none) hg2;have X2:=X1.out.ae hg3;obtain ⟨d0,d1,d2,d3,d4,d5,d6⟩:=X2.cells)
  all_goals
   have G2:=hJ (gQ G1.out hg3);clear hg2 hg3 X2 d0 d1 d2 d3 d4 d5 d6 c0 c1 c2 c3 c4 c5 c6 heq JL;go_wp2;go_ret;exact ⟨rfl,G2.out⟩
 ·have hr':(r==0)=false:=by simp [hr]
  have hw:IntKind.i64.wrap (c - 1)=c - 1:=by simp [IntKind.wrap,IntKind.bits,IntKind.signed];omega
  have hm:Hid (II ⟨v,c,r,t,k,f,n⟩=(wi r 2 (c - 1) && (wi t 1 16 && wi k 1 4294967295))):=by show _=_;simp [II,hr]
  generalize II ⟨v,c,r,t,k,f,n⟩=bt at *;go_enter Tryz.func263,Tryz.ntmps263
  go_wp2_with fail
  refine (bZ _ _ _ _).mono ?_;rintro en w1 ⟨rfl,rfl⟩;have G1:=hJ (World.grownBy_alloc w (.cells #[.int .i64 v,.int .i64 c,.int .i64 r,.int .i64 t,.int .i64 k,.int .i64 f,.int .i64 n] 28) none);cases e1:wi r 2 (c - 1) with
  | false =>
   go_wp2;go_ret;exact ⟨by rw [hm.out,e1];rfl,G1.out⟩
  | true =>
   go_wp2_with fail
   refine (bZ _ _ _ _).mono ?_;rintro en w1 ⟨rfl,rfl⟩;cases e2:wi t 1 16 with
   | false =>
    go_wp2;go_ret;exact ⟨by rw [hm.out,e1,e2];rfl,G1.out⟩
   | true =>
    go_wp2_with fail
    refine (bZ _ _ _ _).mono ?_;rintro en w1 ⟨rfl,rfl⟩;generalize wi k 1 4294967295=b3 at *;go_wp2;go_ret;exact ⟨by rw [hm.out,e1,e2];rfl,G1.out⟩
theorem uI (v c r t k f n:Int)(w:World)(hc:2<=c/\c<=524287):Calls Tryz.prog 264 #[.agg #[.int .i64 v,.int .i64 c,.int .i64 r,.int .i64 t,.int .i64 k,.int .i64 f,.int .i64 n]] w fun en w'=>en=.returned (.bool (IJ ⟨v,c,r,t,k,f,n⟩))/\w.grownBy w' none:=by
 by_cases hr:f=0
 ·subst hr
  have hm:Hid ((decide (v=v) && (decide (c=c) && (decide (r=r) && (decide (t=t) && (decide (k=k) && (decide ((0:Int)=0) && decide (n=0)))))))=IJ ⟨v,c,r,t,k,0,n⟩):=by
   show _=_
   simp [IJ]
  generalize IJ ⟨v,c,r,t,k,0,n⟩=bt at *;have heq:∀ W:World,(binOp .eql 28 (.agg #[.int .i64 v,.int .i64 c,.int .i64 r,.int .i64 t,.int .i64 k,.int .i64 0,.int .i64 n]) (.agg #[.int .i64 v,.int .i64 c,.int .i64 r,.int .i64 t,.int .i64 k,.int .i64 0,.int .i64 0])).run Tryz.prog W=.ok (.bool bt) W:=fun W=>by rw [Cm,hm.out]
  have JL:∀ (x y:Operand) (W:World),(eqGuard .eql 28 x y (.agg #[.int .i64 v,.int .i64 c,.int .i64 r,.int .i64 t,.int .i64 k,.int .i64 0,.int .i64 n]) (.agg #[.int .i64 v,.int .i64 c,.int .i64 r,.int .i64 t,.int .i64 k,.int .i64 0,.int .i64 0])).run Tryz.prog W=.ok () W:=fun x y W=>uH x y _ _ _ _ _ _ _ _ _ _ _ _ _ _ W
  go_enter Tryz.func264,Tryz.ntmps264;go_upto_region 2 with fail
  have X1:=hJ (Hx.new w v c r t k 0 n);have G1:=hJ (World.grownBy_alloc w (.cells #[.int .i64 v,.int .i64 c,.int .i64 r,.int .i64 t,.int .i64 k,.int .i64 0,.int .i64 n] 28) none);generalize w.alloc (.cells #[.int .i64 v,.int .i64 c,.int .i64 r,.int .i64 t,.int .i64 k,.int .i64 0,.int .i64 n] 28)=w1 at *;obtain ⟨c0,c1,c2,c3,c4,c5,c6⟩:=X1.out.cells
  go_region_law
   (go_simp;go_at_call 285;refine (qb v c r t k 0 n _).mono ?_;rintro en w2 ⟨rfl,hg2⟩;have hg3:=gQ ((Qt.refl w1).drew.grown none) hg2;have X2:=X1.out.ae hg3;obtain ⟨d0,d1,d2,d3,d4,d5,d6⟩:=X2.cells)
  all_goals
   have G2:=hJ (gQ G1.out hg3);clear hg2 hg3 X2 d0 d1 d2 d3 d4 d5 d6 c0 c1 c2 c3 c4 c5 c6 heq JL;go_wp2;go_ret;exact ⟨rfl,G2.out⟩
 ·have hr':(f==0)=false:=by simp [hr]
  have hw:IntKind.i64.wrap (c - 1)=c - 1:=by simp [IntKind.wrap,IntKind.bits,IntKind.signed];omega
  have hw2:IntKind.i64.wrap (c - 2)=c - 2:=by simp [IntKind.wrap,IntKind.bits,IntKind.signed];omega
  have hm:Hid (IJ ⟨v,c,r,t,k,f,n⟩=(wi f 2 (c - 1) && wi n 1 (c - 2))):=by show _=_;simp [IJ,hr]
  generalize IJ ⟨v,c,r,t,k,f,n⟩=bt at *;go_enter Tryz.func264,Tryz.ntmps264
  go_wp2_with fail
  refine (bZ _ _ _ _).mono ?_;rintro en w1 ⟨rfl,rfl⟩;have G1:=hJ (World.grownBy_alloc w (.cells #[.int .i64 v,.int .i64 c,.int .i64 r,.int .i64 t,.int .i64 k,.int .i64 f,.int .i64 n] 28) none);cases e1:wi f 2 (c - 1) with
  | false =>
   go_wp2;go_ret;exact ⟨by rw [hm.out,e1];rfl,G1.out⟩
  | true =>
   go_wp2_with fail
   refine (bZ _ _ _ _).mono ?_;rintro en w1 ⟨rfl,rfl⟩;generalize wi n 1 (c - 2)=b3 at *;go_wp2;go_ret;exact ⟨by rw [hm.out,e1];rfl,G1.out⟩
theorem yM (v c r t k f n:Int)(w:World):Calls Tryz.prog 34 #[.agg #[.int .i64 v,.int .i64 c,.int .i64 r,.int .i64 t,.int .i64 k,.int .i64 f,.int .i64 n],.agg #[.int .i64 v,.int .i64 c,.int .i64 r,.int .i64 t,.int .i64 k,.int .i64 f,.int .i64 n]] w fun en w'=>en=.returned (.bool true)/\w.grownBy w' none:=by
 go_enter Tryz.func34,Tryz.ntmps34;go_wp2;go_ret;exact ⟨rfl,gQ (World.grownBy_alloc w _ none) (World.grownBy_alloc _ _ none)⟩
theorem qd (v c r t k f n:Int)(w:World) :
  Calls Tryz.prog 218 #[.agg #[.int .i64 v,.int .i64 c,.int .i64 r,.int .i64 t,.int .i64 k,.int .i64 f,.int .i64 n]] w fun en w'=>en=.returned (.bool (may ⟨v,c,r,t,k,f,n⟩))/\w.grownBy w' none:=by
 have hT:wi c 2 524287=true->∀ w,Calls Tryz.prog 263 #[.agg #[.int .i64 v,.int .i64 c,.int .i64 r,.int .i64 t,.int .i64 k,.int .i64 f,.int .i64 n]] w fun en w'=>en=.returned (.bool (II ⟨v,c,r,t,k,f,n⟩))/\w.grownBy w' none:=fun h w=>wH v c r t k f n w (pM.1 h)
 have hF:wi c 2 524287=true->∀ w,Calls Tryz.prog 264 #[.agg #[.int .i64 v,.int .i64 c,.int .i64 r,.int .i64 t,.int .i64 k,.int .i64 f,.int .i64 n]] w fun en w'=>en=.returned (.bool (IJ ⟨v,c,r,t,k,f,n⟩))/\w.grownBy w' none:=fun h w=>uI v c r t k f n w (pM.1 h)
 have hm:Hid (may ⟨v,c,r,t,k,f,n⟩=(wi v 1 4611686018427387904 && (wi c 2 524287 && (II ⟨v,c,r,t,k,f,n⟩ && IJ ⟨v,c,r,t,k,f,n⟩)))):=rfl;generalize II ⟨v,c,r,t,k,f,n⟩=bt at *;generalize IJ ⟨v,c,r,t,k,f,n⟩=bf at *;generalize may ⟨v,c,r,t,k,f,n⟩=bm at *;cases e1:wi v 1 4611686018427387904 with
 | false =>
  go_enter Tryz.func218,Tryz.ntmps218
  go_wp2_with fail
  refine (bZ _ _ _ _).mono ?_;rintro en w1 ⟨rfl,rfl⟩;rw [e1];go_wp2;go_ret;exact ⟨by rw [hm.out,e1];rfl,World.grownBy_alloc w _ none⟩
 | true =>
  go_enter Tryz.func218,Tryz.ntmps218
  go_wp2_with fail
  have X1:=hJ (Hx.new w v c r t k f n);have G1:=hJ (World.grownBy_alloc w (.cells #[.int .i64 v,.int .i64 c,.int .i64 r,.int .i64 t,.int .i64 k,.int .i64 f,.int .i64 n] 28) none);obtain ⟨c0,c1,c2,c3,c4,c5,c6⟩:=X1.out.cells;generalize w.alloc (.cells #[.int .i64 v,.int .i64 c,.int .i64 r,.int .i64 t,.int .i64 k,.int .i64 f,.int .i64 n] 28)=w1 at *;refine (bZ _ _ _ _).mono ?_;rintro en w1 ⟨rfl,rfl⟩;rw [e1];cases e2:wi c 2 524287 with
  | false =>
   go_wp2_with fail
   refine (bZ _ _ _ _).mono ?_;rintro en w1 ⟨rfl,rfl⟩;rw [e2];go_wp2;go_ret;exact ⟨by rw [hm.out,e1,e2];rfl,G1.out⟩
  | true =>
   go_wp2_with fail
   refine (bZ _ _ _ _).mono ?_;rintro en w1 ⟨rfl,rfl⟩;rw [e2];have HT:=hJ (hT e2);have HF:=hJ (hF e2);clear hT hF
   go_wp2_with fail
   refine (HT.out _).mono ?_;rintro en w2 ⟨rfl,hg2⟩;have X2:=hJ (X1.out.ae hg2);have G2:=hJ (gQ G1.out hg2);clear c0 c1 c2 c3 c4 c5 c6 X1 G1 hg2 HT;obtain ⟨c0,c1,c2,c3,c4,c5,c6⟩:=X2.out.cells;cases bt with
   | false =>
    go_wp2;go_ret;exact ⟨by rw [hm.out,e1,e2];rfl,G2.out⟩
   | true =>
    go_wp2_with fail
    refine (HF.out _).mono ?_;rintro en w3 ⟨rfl,hg3⟩;have G3:=hJ (gQ G2.out hg3);clear hg3 c0 c1 c2 c3 c4 c5 c6;go_wp2;go_ret;exact ⟨by rw [hm.out,e1,e2];rfl,G3.out⟩
theorem ou :may ⟨v,c,r,t,k,f,n⟩=true↔(1<=v/\v<=4611686018427387904/\2<=c/\c<=524287/\((r=0/\t=0/\k=0)∨(r≠0/\2<=r/\r<c/\1<=t/\t<=16/\1<=k/\k<=4294967295))/\((f=0/\n=0)∨(f≠0/\2<=f/\f<c/\1<=n/\n<=c - 2))):=by
 by_cases h1:r=0 <;> by_cases h2:f=0 <;> simp [may,II,IJ,wi,h1,h2] <;> omega
theorem bC (h:¬ (1<=v/\v<=4611686018427387904/\2<=c/\c<=524287/\((r=0/\t=0/\k=0)∨(r≠0/\2<=r/\r<c/\1<=t/\t<=16/\1<=k/\k<=4294967295))/\((f=0/\n=0)∨(f≠0/\2<=f/\f<c/\1<=n/\n<=c - 2)))):may ⟨v,c,r,t,k,f,n⟩=false:=by
 rw [<- Bool.not_eq_true,ou];exact h
theorem uJ (v c r t k f n:Int)(w:World):Calls Tryz.prog 120 #[.agg #[.int .i64 v,.int .i64 c,.int .i64 r,.int .i64 t,.int .i64 k,.int .i64 f,.int .i64 n]] w fun en w'=>en=.returned (.bool (may ⟨v,c,r,t,k,f,n⟩))/\w.grownBy w' none:=by
 by_cases a1:v<1
 ·have e:Hid (may ⟨v,c,r,t,k,f,n⟩=false):=bC (by omega)
  go_enter Tryz.func120,Tryz.ntmps120;go_wp2;go_ret;exact ⟨by rw [e.out];rfl,World.grownBy_alloc w _ none⟩
 ·by_cases a2:v > 4611686018427387904
  ·have e:Hid (may ⟨v,c,r,t,k,f,n⟩=false):=bC (by omega)
   go_enter Tryz.func120,Tryz.ntmps120;go_wp2;go_ret;exact ⟨by rw [e.out];rfl,World.grownBy_alloc w _ none⟩
  ·by_cases a3:c<2
   ·have e:Hid (may ⟨v,c,r,t,k,f,n⟩=false):=bC (by omega)
    go_enter Tryz.func120,Tryz.ntmps120;go_wp2;go_ret;exact ⟨by rw [e.out];rfl,World.grownBy_alloc w _ none⟩
   ·by_cases a4:c > 524287
    ·have e:Hid (may ⟨v,c,r,t,k,f,n⟩=false):=bC (by omega)
     go_enter Tryz.func120,Tryz.ntmps120;go_wp2;go_ret;exact ⟨by rw [e.out];rfl,World.grownBy_alloc w _ none⟩
    ·have hw2:IntKind.i64.wrap (c - 2)=c - 2:=by simp [IntKind.wrap,IntKind.bits,IntKind.signed];omega
     by_cases hr:r=0
     ·subst hr
      by_cases ht:t=0
      ·subst ht
       by_cases hk:k=0
       ·subst hk
        by_cases hf:f=0
        ·subst hf
         by_cases hn:n=0
         ·subst hn
          have e:Hid (may ⟨v,c,0,0,0,0,0⟩=true):=ou.2 (by omega);go_enter Tryz.func120,Tryz.ntmps120;go_wp2;go_ret;exact ⟨by rw [e.out];rfl,World.grownBy_alloc w _ none⟩
         ·have hnb:(n==0)=false:=by simp [hn]
          have hnc:(n != 0)=true:=by simp [hn]
          have e:Hid (may ⟨v,c,0,0,0,0,n⟩=false):=bC (by omega);go_enter Tryz.func120,Tryz.ntmps120;go_wp2;go_ret;exact ⟨by rw [e.out];rfl,World.grownBy_alloc w _ none⟩
        ·have RF:(f==0)=false:=by simp [hf]
         have RG:(f != 0)=true:=by simp [hf]
         by_cases c0:2<=f
         ·by_cases c1:f<c
          ·by_cases c2:1<=n
           ·by_cases c3:n<=c - 2
            ·have e:Hid (may ⟨v,c,0,0,0,f,n⟩=true):=ou.2 (by omega)
             go_enter Tryz.func120,Tryz.ntmps120;go_wp2;go_ret;exact ⟨by rw [e.out];rfl,World.grownBy_alloc w _ none⟩
            ·have e:Hid (may ⟨v,c,0,0,0,f,n⟩=false):=bC (by omega)
             go_enter Tryz.func120,Tryz.ntmps120;go_wp2;go_ret;exact ⟨by rw [e.out];rfl,World.grownBy_alloc w _ none⟩
           ·have e:Hid (may ⟨v,c,0,0,0,f,n⟩=false):=bC (by omega)
            go_enter Tryz.func120,Tryz.ntmps120;go_wp2;go_ret;exact ⟨by rw [e.out];rfl,World.grownBy_alloc w _ none⟩
          ·have e:Hid (may ⟨v,c,0,0,0,f,n⟩=false):=bC (by omega)
           go_enter Tryz.func120,Tryz.ntmps120;go_wp2;go_ret;exact ⟨by rw [e.out];rfl,World.grownBy_alloc w _ none⟩
         ·have e:Hid (may ⟨v,c,0,0,0,f,n⟩=false):=bC (by omega)
          go_enter Tryz.func120,Tryz.ntmps120;go_wp2;go_ret;exact ⟨by rw [e.out];rfl,World.grownBy_alloc w _ none⟩
       ·have hkb:(k==0)=false:=by simp [hk]
        have hkc:(k != 0)=true:=by simp [hk]
        by_cases hf:f=0
        ·subst hf
         have e:Hid (may ⟨v,c,0,0,k,0,n⟩=false):=bC (by omega);go_enter Tryz.func120,Tryz.ntmps120;go_wp2;go_ret;exact ⟨by rw [e.out];rfl,World.grownBy_alloc w _ none⟩
        ·have RF:(f==0)=false:=by simp [hf]
         have RG:(f != 0)=true:=by simp [hf]
         have e:Hid (may ⟨v,c,0,0,k,f,n⟩=false):=bC (by omega);go_enter Tryz.func120,Tryz.ntmps120;go_wp2;go_ret;exact ⟨by rw [e.out];rfl,World.grownBy_alloc w _ none⟩
      ·have htb:(t==0)=false:=by simp [ht]
       have htc:(t != 0)=true:=by simp [ht]
       by_cases hf:f=0
       ·subst hf
        have e:Hid (may ⟨v,c,0,t,k,0,n⟩=false):=bC (by omega);go_enter Tryz.func120,Tryz.ntmps120;go_wp2;go_ret;exact ⟨by rw [e.out];rfl,World.grownBy_alloc w _ none⟩
       ·have RF:(f==0)=false:=by simp [hf]
        have RG:(f != 0)=true:=by simp [hf]
        have e:Hid (may ⟨v,c,0,t,k,f,n⟩=false):=bC (by omega);go_enter Tryz.func120,Tryz.ntmps120;go_wp2;go_ret;exact ⟨by rw [e.out];rfl,World.grownBy_alloc w _ none⟩
     ·have hrb:(r==0)=false:=by simp [hr]
      have hrc:(r != 0)=true:=by simp [hr]
      by_cases r0:2<=r
      ·by_cases r1:r<c
       ·by_cases r2:1<=t
        ·by_cases r3:t<=16
         ·by_cases r4:1<=k
          ·by_cases r5:k<=4294967295
           ·by_cases hf:f=0
            ·subst hf
             by_cases hn:n=0
             ·subst hn
              have e:Hid (may ⟨v,c,r,t,k,0,0⟩=true):=ou.2 (by omega);go_enter Tryz.func120,Tryz.ntmps120;go_wp2;go_ret;exact ⟨by rw [e.out];rfl,World.grownBy_alloc w _ none⟩
             ·have hnb:(n==0)=false:=by simp [hn]
              have hnc:(n != 0)=true:=by simp [hn]
              have e:Hid (may ⟨v,c,r,t,k,0,n⟩=false):=bC (by omega);go_enter Tryz.func120,Tryz.ntmps120;go_wp2;go_ret;exact ⟨by rw [e.out];rfl,World.grownBy_alloc w _ none⟩
            ·have RF:(f==0)=false:=by simp [hf]
             have RG:(f != 0)=true:=by simp [hf]
             by_cases c0:2<=f
             ·by_cases c1:f<c
              ·by_cases c2:1<=n
               ·by_cases c3:n<=c - 2
                ·have e:Hid (may ⟨v,c,r,t,k,f,n⟩=true):=ou.2 (by omega)
                 go_enter Tryz.func120,Tryz.ntmps120;go_wp2;go_ret;exact ⟨by rw [e.out];rfl,World.grownBy_alloc w _ none⟩
                ·have e:Hid (may ⟨v,c,r,t,k,f,n⟩=false):=bC (by omega)
                 go_enter Tryz.func120,Tryz.ntmps120;go_wp2;go_ret;exact ⟨by rw [e.out];rfl,World.grownBy_alloc w _ none⟩
               ·have e:Hid (may ⟨v,c,r,t,k,f,n⟩=false):=bC (by omega)
                go_enter Tryz.func120,Tryz.ntmps120;go_wp2;go_ret;exact ⟨by rw [e.out];rfl,World.grownBy_alloc w _ none⟩
              ·have e:Hid (may ⟨v,c,r,t,k,f,n⟩=false):=bC (by omega)
               go_enter Tryz.func120,Tryz.ntmps120;go_wp2;go_ret;exact ⟨by rw [e.out];rfl,World.grownBy_alloc w _ none⟩
             ·have e:Hid (may ⟨v,c,r,t,k,f,n⟩=false):=bC (by omega)
              go_enter Tryz.func120,Tryz.ntmps120;go_wp2;go_ret;exact ⟨by rw [e.out];rfl,World.grownBy_alloc w _ none⟩
           ·by_cases hf:f=0
            ·subst hf
             have e:Hid (may ⟨v,c,r,t,k,0,n⟩=false):=bC (by omega);go_enter Tryz.func120,Tryz.ntmps120;go_wp2;go_ret;exact ⟨by rw [e.out];rfl,World.grownBy_alloc w _ none⟩
            ·have RF:(f==0)=false:=by simp [hf]
             have RG:(f != 0)=true:=by simp [hf]
             have e:Hid (may ⟨v,c,r,t,k,f,n⟩=false):=bC (by omega);go_enter Tryz.func120,Tryz.ntmps120;go_wp2;go_ret;exact ⟨by rw [e.out];rfl,World.grownBy_alloc w _ none⟩
          ·by_cases hf:f=0
           ·subst hf
            have e:Hid (may ⟨v,c,r,t,k,0,n⟩=false):=bC (by omega);go_enter Tryz.func120,Tryz.ntmps120;go_wp2;go_ret;exact ⟨by rw [e.out];rfl,World.grownBy_alloc w _ none⟩
           ·have RF:(f==0)=false:=by simp [hf]
            have RG:(f != 0)=true:=by simp [hf]
            have e:Hid (may ⟨v,c,r,t,k,f,n⟩=false):=bC (by omega);go_enter Tryz.func120,Tryz.ntmps120;go_wp2;go_ret;exact ⟨by rw [e.out];rfl,World.grownBy_alloc w _ none⟩
         ·by_cases hf:f=0
          ·subst hf
           have e:Hid (may ⟨v,c,r,t,k,0,n⟩=false):=bC (by omega);go_enter Tryz.func120,Tryz.ntmps120;go_wp2;go_ret;exact ⟨by rw [e.out];rfl,World.grownBy_alloc w _ none⟩
          ·have RF:(f==0)=false:=by simp [hf]
           have RG:(f != 0)=true:=by simp [hf]
           have e:Hid (may ⟨v,c,r,t,k,f,n⟩=false):=bC (by omega);go_enter Tryz.func120,Tryz.ntmps120;go_wp2;go_ret;exact ⟨by rw [e.out];rfl,World.grownBy_alloc w _ none⟩
        ·by_cases hf:f=0
         ·subst hf
          have e:Hid (may ⟨v,c,r,t,k,0,n⟩=false):=bC (by omega);go_enter Tryz.func120,Tryz.ntmps120;go_wp2;go_ret;exact ⟨by rw [e.out];rfl,World.grownBy_alloc w _ none⟩
         ·have RF:(f==0)=false:=by simp [hf]
          have RG:(f != 0)=true:=by simp [hf]
          have e:Hid (may ⟨v,c,r,t,k,f,n⟩=false):=bC (by omega);go_enter Tryz.func120,Tryz.ntmps120;go_wp2;go_ret;exact ⟨by rw [e.out];rfl,World.grownBy_alloc w _ none⟩
       ·by_cases hf:f=0
        ·subst hf
         have e:Hid (may ⟨v,c,r,t,k,0,n⟩=false):=bC (by omega);go_enter Tryz.func120,Tryz.ntmps120;go_wp2;go_ret;exact ⟨by rw [e.out];rfl,World.grownBy_alloc w _ none⟩
        ·have RF:(f==0)=false:=by simp [hf]
         have RG:(f != 0)=true:=by simp [hf]
         have e:Hid (may ⟨v,c,r,t,k,f,n⟩=false):=bC (by omega);go_enter Tryz.func120,Tryz.ntmps120;go_wp2;go_ret;exact ⟨by rw [e.out];rfl,World.grownBy_alloc w _ none⟩
      ·by_cases hf:f=0
       ·subst hf
        have e:Hid (may ⟨v,c,r,t,k,0,n⟩=false):=bC (by omega);go_enter Tryz.func120,Tryz.ntmps120;go_wp2;go_ret;exact ⟨by rw [e.out];rfl,World.grownBy_alloc w _ none⟩
       ·have RF:(f==0)=false:=by simp [hf]
        have RG:(f != 0)=true:=by simp [hf]
        have e:Hid (may ⟨v,c,r,t,k,f,n⟩=false):=bC (by omega);go_enter Tryz.func120,Tryz.ntmps120;go_wp2;go_ret;exact ⟨by rw [e.out];rfl,World.grownBy_alloc w _ none⟩
structure Mk (w:World):Prop where
 a0:w.cell? ⟨0,0,none⟩=some (.int .u8 99)
 a1:w.cell? ⟨0,1,none⟩=some (.int .u8 111)
 a2:w.cell? ⟨0,2,none⟩=some (.int .u8 112)
 b0:w.cell? ⟨1,0,none⟩=some (.int .u8 101)
 b1:w.cell? ⟨1,1,none⟩=some (.int .u8 110)
 b2:w.cell? ⟨1,2,none⟩=some (.int .u8 100)
 b3:w.cell? ⟨1,3,none⟩=some (.int .u8 46)
theorem Mk.kept {row:Option Nat}(h:Mk w)(hg:w.grownBy w' row)(h0:some 0≠row)(h1:some 1≠row):Mk w' :=
 ⟨hg.cell h.a0 h0,hg.cell h.a1 h0,hg.cell h.a2 h0,hg.cell h.b0 h1,hg.cell h.b1 h1,hg.cell h.b2 h1,hg.cell h.b3 h1⟩
theorem Mk.ae (h:Mk w)(hg:w.grownBy w' none):Mk w':=h.kept hg (by simp) (by simp)
theorem p64 (ao:Option Addr)(n c m:Nat)(zs:List Int)(x:Nat)(w:World)(hb:ai w ao n c zs)(hn:n<=100)(hx:x<18446744073709551616)(hm:m=n+8) :
  Calls Tryz.prog 266 #[.slice ao n c,.int .u64 x] w fun e w'=>e=.returned (.slice (some ⟨w.heap.size,0,none⟩) m m)/\ai w' (some ⟨w.heap.size,0,none⟩) m m (zs++lb 8 x)/\w.grownBy w' none:=by
 subst hm;refine (Qp ao n c zs x w hb (by omega) hx).mono ?_;rintro e w' ⟨rfl,h1,h2,h3⟩;exact ⟨rfl,ai.aP h1,h2⟩
theorem p32 (ao:Option Addr)(n c m:Nat)(zs:List Int)(x:Nat)(w:World)(hb:ai w ao n c zs)(hn:n<=100)(hx:x<4294967296)(hm:m=n+4) :
  Calls Tryz.prog 215 #[.slice ao n c,.int .u32 x] w fun e w'=>e=.returned (.slice (some ⟨w.heap.size,0,none⟩) m m)/\ai w' (some ⟨w.heap.size,0,none⟩) m m (zs++lb 4 x)/\w.grownBy w' none:=by
 subst hm;refine (xR ao n c zs x w hb (by omega) hx).mono ?_;rintro e w' ⟨rfl,h1,h2,h3⟩;exact ⟨rfl,ai.aP h1,h2⟩
theorem p8 (ao:Option Addr)(n c m:Nat)(zs:List Int)(x:Nat)(w:World)(hb:ai w ao n c zs)(hn:n<=100)(hx:x<256)(hm:m=n+1) :
  Calls Tryz.prog 219 #[.slice ao n c,.int .u8 x] w fun e w'=>e=.returned (.slice (some ⟨w.heap.size,0,none⟩) m m)/\ai w' (some ⟨w.heap.size,0,none⟩) m m (zs++lb 1 x)/\w.grownBy w' none:=by
 subst hm;refine (Mg ao n c zs x w hb (by omega) hx).mono ?_;rintro e w' ⟨rfl,h1,h2,h3⟩;exact ⟨rfl,ai.aP h1,h2⟩
theorem Cn (v c r t k f n:Nat)(w:World)(hv:v<9223372036854775808)(hc:c<4294967296)(hr:r<4294967296)(ht:t<256)(hk:k<9223372036854775808)(hf:f<4294967296)(hn:n<4294967296) :
  Calls Tryz.prog 220 #[.agg #[.int .i64 v,.int .i64 c,.int .i64 r,.int .i64 t,.int .i64 k,.int .i64 f,.int .i64 n]] w fun en w'=>(∃ g,en=.returned (.slice (some ⟨g,0,none⟩) 33 33)/\ai w' (some ⟨g,0,none⟩) 33 33 (nb ⟨v,c,r,t,k,f,n⟩))/\w.grownBy w' none:=by
 have wv:IntKind.u64.wrap (v:Int)=(v:Int):=by simp [IntKind.wrap,IntKind.bits,IntKind.signed];omega
 have wc:IntKind.u32.wrap (c:Int)=(c:Int):=by simp [IntKind.wrap,IntKind.bits,IntKind.signed];omega
 have wr:IntKind.u32.wrap (r:Int)=(r:Int):=by simp [IntKind.wrap,IntKind.bits,IntKind.signed];omega
 have wt:IntKind.u8.wrap (t:Int)=(t:Int):=by simp [IntKind.wrap,IntKind.bits,IntKind.signed];omega
 have wk:IntKind.u64.wrap (k:Int)=(k:Int):=by simp [IntKind.wrap,IntKind.bits,IntKind.signed];omega
 have wf:IntKind.u32.wrap (f:Int)=(f:Int):=by simp [IntKind.wrap,IntKind.bits,IntKind.signed];omega
 have wn:IntKind.u32.wrap (n:Int)=(n:Int):=by simp [IntKind.wrap,IntKind.bits,IntKind.signed];omega
 have HB:Hid ([]++lb 8 v++lb 4 c++lb 4 r++lb 1 t++lb 8 k++lb 4 f++lb 4 n=nb ⟨v,c,r,t,k,f,n⟩):=by
  show _=_
  simp [nb]
 go_enter Tryz.func220,Tryz.ntmps220;go_upto_region 1 with fail
 have X1:=hJ (Hx.new w v c r t k f n);have G1:=hJ (World.grownBy_alloc w (.cells #[.int .i64 v,.int .i64 c,.int .i64 r,.int .i64 t,.int .i64 k,.int .i64 f,.int .i64 n] 28) none);generalize w.alloc (.cells #[.int .i64 v,.int .i64 c,.int .i64 r,.int .i64 t,.int .i64 k,.int .i64 f,.int .i64 n] 28)=w1 at *;obtain ⟨c0,c1,c2,c3,c4,c5,c6⟩:=X1.out.cells
 go_wp2_with fail
 refine (p64 none 0 0 8 [] v _ (ai.empty _) (by omega) (by omega) rfl).mono ?_;rintro en w2 ⟨rfl,hb2,hg2⟩;have X2:=hJ (X1.out.ae hg2);have G2:=hJ (gQ G1.out hg2);clear X1 G1 hg2 c0 c1 c2 c3 c4 c5 c6;obtain ⟨c0,c1,c2,c3,c4,c5,c6⟩:=X2.out.cells
 go_wp2_with fail
 refine (p32 _ 8 8 12 _ c _ hb2 (by omega) hc rfl).mono ?_;rintro en w3 ⟨rfl,hb3,hg3⟩;have X3:=hJ (X2.out.ae hg3);have G3:=hJ (gQ G2.out hg3);clear X2 G2 hg3 c0 c1 c2 c3 c4 c5 c6 hb2;obtain ⟨c0,c1,c2,c3,c4,c5,c6⟩:=X3.out.cells
 go_wp2_with fail
 refine (p32 _ 12 12 16 _ r _ hb3 (by omega) hr rfl).mono ?_;rintro en w4 ⟨rfl,hb4,hg4⟩;have X4:=hJ (X3.out.ae hg4);have G4:=hJ (gQ G3.out hg4);clear X3 G3 hg4 c0 c1 c2 c3 c4 c5 c6 hb3;obtain ⟨c0,c1,c2,c3,c4,c5,c6⟩:=X4.out.cells
 go_wp2_with fail
 refine (p8 _ 16 16 17 _ t _ hb4 (by omega) ht rfl).mono ?_;rintro en w5 ⟨rfl,kr,aK⟩;have X5:=hJ (X4.out.ae aK);have G5:=hJ (gQ G4.out aK);clear X4 G4 aK c0 c1 c2 c3 c4 c5 c6 hb4;obtain ⟨c0,c1,c2,c3,c4,c5,c6⟩:=X5.out.cells
 go_wp2_with fail
 refine (p64 _ 17 17 25 _ k _ kr (by omega) (by omega) rfl).mono ?_;rintro en w6 ⟨rfl,jF,bE⟩;have X6:=hJ (X5.out.ae bE);have G6:=hJ (gQ G5.out bE);clear X5 G5 bE c0 c1 c2 c3 c4 c5 c6 kr;obtain ⟨c0,c1,c2,c3,c4,c5,c6⟩:=X6.out.cells
 go_wp2_with fail
 refine (p32 _ 25 25 29 _ f _ jF (by omega) hf rfl).mono ?_;rintro en w7 ⟨rfl,xz,cG⟩;have X7:=hJ (X6.out.ae cG);have G7:=hJ (gQ G6.out cG);clear X6 G6 cG c0 c1 c2 c3 c4 c5 c6 jF;obtain ⟨c0,c1,c2,c3,c4,c5,c6⟩:=X7.out.cells
 go_wp2_with fail
 refine (p32 _ 29 29 33 _ n _ xz (by omega) hn rfl).mono ?_;rintro en w8 ⟨rfl,ig,bU⟩;have G8:=hJ (gQ G7.out bU);have B8:=hJ ig;clear X7 G7 bU c0 c1 c2 c3 c4 c5 c6 xz ig;go_wp2;go_ret;exact ⟨⟨_,rfl,HB.out ▸ B8.out⟩,G8.out⟩
theorem RH {Z A B C D:List Int}(hZ:Z=List.replicate 4092 0)(hA:A.length=1)(hB:B.length=3)(hC:C.length=33)(hD:D.length=4):splice (splice (splice (splice Z 0 A) 1 B) 4 C) 4088 D=A++(B++(C++(zr++D))):=by
 have e1:Z=List.replicate 1 0++(List.replicate 3 0++(List.replicate 33 0++(zr++List.replicate 4 0))):=by
  rw [hZ];unfold zr;simp only [List.replicate_append_replicate]
 have s1:splice Z 0 A=A++(List.replicate 3 0++(List.replicate 33 0++(zr++List.replicate 4 0))):=by
  rw [e1];exact bQ (X:=[]) (Y:=List.replicate 1 0) (V:=A) rfl (by rw [List.length_replicate,hA])
 have s2:splice (splice Z 0 A) 1 B=A++(B++(List.replicate 33 0++(zr++List.replicate 4 0))):=by
  rw [s1];exact bQ (X:=A) (Y:=List.replicate 3 0) (V:=B) hA (by rw [List.length_replicate,hB])
 have s3:splice (splice (splice Z 0 A) 1 B) 4 C=A++(B++(C++(zr++List.replicate 4 0))):=by
  have s:=bQ (X:=A++B) (Y:=List.replicate 33 0) (Z:=zr++List.replicate 4 0) (V:=C) (p:=4) (by rw [List.length_append];omega) (by rw [List.length_replicate,hC]);rw [s2,<- List.append_assoc A B,s,List.append_assoc A B]
 rw [s3];have e2:A++(B++(C++(zr++List.replicate 4 0)))=(A++(B++(C++zr)))++(List.replicate 4 0++[]):=by simp only [List.append_assoc,List.append_nil]
 have s4:=bQ (X:=A++(B++(C++zr))) (Y:=List.replicate 4 0) (Z:=[]) (V:=D) (p:=4088) (by simp only [List.length_append,xX];omega) (by rw [List.length_replicate,hD]);rw [e2,s4];simp only [List.append_assoc,List.append_nil]
theorem JM (v c r t k f n:Int)(w:World)(hm:may ⟨v,c,r,t,k,f,n⟩=false) :
  Calls Tryz.prog 187 #[.agg #[.int .i64 v,.int .i64 c,.int .i64 r,.int .i64 t,.int .i64 k,.int .i64 f,.int .i64 n]] w fun en w'=>en=.returned (.tuple #[.slice none 0 0,.int .i64 71])/\w.grownBy w' none:=by
 have HM:=hJ hm;clear hm;go_enter Tryz.func187,Tryz.ntmps187
 go_wp2_with fail
 have G1:=hJ (World.grownBy_alloc w (.cells #[.int .i64 v,.int .i64 c,.int .i64 r,.int .i64 t,.int .i64 k,.int .i64 f,.int .i64 n] 28) none);generalize w.alloc (.cells #[.int .i64 v,.int .i64 c,.int .i64 r,.int .i64 t,.int .i64 k,.int .i64 f,.int .i64 n] 28)=w1 at *;refine (qd v c r t k f n _).mono ?_;rintro en w2 ⟨rfl,hg2⟩;rw [HM.out];have G2:=hJ (gQ G1.out hg2);clear hg2 G1;go_wp2
 go_ret2
 exact ⟨rfl,G2.out⟩
theorem EG (v c r t k f n:Nat)(w:World)(hm:may ⟨v,c,r,t,k,f,n⟩=true)(xb:Mk w) :
  Calls Tryz.prog 187 #[.agg #[.int .i64 v,.int .i64 c,.int .i64 r,.int .i64 t,.int .i64 k,.int .i64 f,.int .i64 n]] w fun en w'=>∃ g,en=.returned (.tuple #[.slice (some ⟨g,0,none⟩) 4092 4092,.int .i64 0])/\Rw w' g (mB ⟨v,c,r,t,k,f,n⟩)/\w.heap.size<=g/\w.grownBy w' none:=by
 obtain ⟨i0,hi,hz0,hz1,hz2⟩:=info_parts bF;have hb:=fG hm;simp only at hb;have Js:=hJ (fun W=>Cn v c r t k f n W (by omega) (by omega) (by omega) (by omega) (by omega) (by omega) (by omega));clear hb;have HM:=hJ hm;have HNL:=hJ (DV ⟨v,c,r,t,k,f,n⟩);have HB:Hid (∀ Z,Z=List.replicate 4092 0->splice (splice (splice (splice Z 0 (lb 1 5)) 1 [99,111,112]) 4 (nb ⟨v,c,r,t,k,f,n⟩)) 4088 LB=mB ⟨v,c,r,t,k,f,n⟩):=fun Z hZ=>RH hZ rfl rfl (DV _) rfl
 obtain ⟨Z,hZ⟩:∃ Z:List Int,Z=List.replicate 4092 0:=⟨_,rfl⟩;have pR:Z.length=4092:=by rw [hZ,List.length_replicate]
 have HZ:=hJ hZ;have HB:=hJ (HB.out Z hZ);have HK:=hJ xb;have q4:IntKind.i64.wrap 4=4:=by decide
 have q37:IntKind.i64.wrap 37=37:=by decide
 have q88:IntKind.i64.wrap 4088=4088:=by decide
 clear hm xb hZ;generalize mB ⟨v,c,r,t,k,f,n⟩=M at *;generalize nb ⟨v,c,r,t,k,f,n⟩=NB at *;go_enter Tryz.func187,Tryz.ntmps187
 go_wp2_with fail
 have G1:=hJ (World.grownBy_alloc w (.cells #[.int .i64 v,.int .i64 c,.int .i64 r,.int .i64 t,.int .i64 k,.int .i64 f,.int .i64 n] 28) none);have X1:=hJ (Hx.new w v c r t k f n);generalize w.alloc (.cells #[.int .i64 v,.int .i64 c,.int .i64 r,.int .i64 t,.int .i64 k,.int .i64 f,.int .i64 n] 28)=w1 at *;refine (qd v c r t k f n _).mono ?_;rintro en w2 ⟨rfl,hg2⟩;rw [HM.out];have G2:=hJ (gQ G1.out hg2);have X2:=hJ (X1.out.ae hg2);obtain ⟨a0,a1,a2,b0,b1,b2,b3⟩:=HK.out.ae G2.out;clear hg2 G1 X1 HM;go_upto_region 4 with fail
 clear a0 a1 a2 b0 b1 b2 b3;have g3:=aN w2 (.cells #[.int .u8 99,.int .u8 111,.int .u8 112] 221) (.cells #[.int .u8 101,.int .u8 110,.int .u8 100,.int .u8 46] 101);have F3:Hid (Rt ((w2.alloc (.cells #[.int .u8 99,.int .u8 111,.int .u8 112] 221)).alloc (.cells #[.int .u8 101,.int .u8 110,.int .u8 100,.int .u8 46] 101)) w2.heap.size 221 [99,111,112]):=(show Rt (w2.alloc (.cells #[.int .u8 99,.int .u8 111,.int .u8 112] 221)) w2.heap.size 221 [99,111,112] from heap_alloc_new w2 _).ae (World.grownBy_alloc _ _ none)
 have E3:Hid (Rt ((w2.alloc (.cells #[.int .u8 99,.int .u8 111,.int .u8 112] 221)).alloc (.cells #[.int .u8 101,.int .u8 110,.int .u8 100,.int .u8 46] 101)) (w2.heap.size+1) 101 LB):=by
  have:=heap_alloc_new (w2.alloc (.cells #[.int .u8 99,.int .u8 111,.int .u8 112] 221)) (.cells #[.int .u8 101,.int .u8 110,.int .u8 100,.int .u8 46] 101);simp only [World.size_alloc] at this;exact this
 have X3:=hJ (X2.out.ae g3);have G3:=hJ (gQ G2.out g3);have S3:Hid (w2.heap.size+2<=((w2.alloc (.cells #[.int .u8 99,.int .u8 111,.int .u8 112] 221)).alloc (.cells #[.int .u8 101,.int .u8 110,.int .u8 100,.int .u8 46] 101)).heap.size):=by show _<=_;simp
 have S2:=hJ G2.out.size;clear g3 X2 G2;generalize (w2.alloc (.cells #[.int .u8 99,.int .u8 111,.int .u8 112] 221)).alloc (.cells #[.int .u8 101,.int .u8 110,.int .u8 100,.int .u8 46] 101)=w3 at *
 go_wp2_with (at_make;refine wpList_make_full _ rfl _ _ 25 rfl w3.heap.size 5 i0 (.int .u8 0) 1 Tryz.underlying25 hi hz0 hz1 _ _ _ _ 4092 rfl rfl rfl rfl (by rw [hz2];omega) (by unfold maxLen;omega) (Nat.le_refl _) ?_)
 intro w4 hown hg4;rw [made,<- HZ.out] at hown;have R4:=hJ (show Rt w4 w3.heap.size 5 Z from Rw.aP hown);have X4:=hJ (X3.out.ae hg4);have F4:=hJ (F3.out.ae hg4);have E4:=hJ (E3.out.ae hg4);have G4:=hJ (gQ G3.out hg4);have Oc:Hid (w.heap.size<=w3.heap.size/\w2.heap.size+1<w3.heap.size):=⟨G3.out.size,by have:=S3.out;omega⟩;clear hown hg4 X3 F3 E3 G3
 go_wp2_with fail
 refine (p8 none 0 0 1 [] 5 _ (ai.empty _) (by omega) (by omega) rfl).mono ?_;rintro en w5 ⟨rfl,kr,aK⟩;have R5:=hJ (R4.out.ae aK);have X5:=hJ (X4.out.ae aK);have F5:=hJ (F4.out.ae aK);have E5:=hJ (E4.out.ae aK);have G5:=hJ (gQ G4.out aK);have B5:=hJ kr;clear aK kr R4 X4 F4 E4 G4
 go_wp2_with (refine aS rfl _ _ rfl _ _ _ _ _ _ rfl rfl w3.heap.size 0 5 Z (lb 1 5) R5.out B5.out (by omega) (fun _=>rfl) (by omega) ?_)
 intro w6 ku bE zZ;have R6:=hJ ku;have X6:=hJ (X5.out.kept bE (fun e=>by have:=Option.some.inj e;have:=X5.out.lt;have:=Oc.out;have:=S2.out;omega));have F6:=hJ (F5.out.kept bE (fun e=>by have:=Option.some.inj e;have:=Oc.out;omega));have E6:=hJ (E5.out.kept bE (fun e=>by have:=Option.some.inj e;have:=Oc.out;omega));have G6:=hJ (af G5.out bE Oc.out.1);clear ku bE zZ R5 X5 F5 E5 G5 B5;have L6:=hJ (aJ (cs:=Z) (zs:=lb 1 5) (p:=0) (by rw [pR];decide));generalize splice Z 0 (lb 1 5)=Z1 at *;have hZ1:Z1.length=4092:=by rw [L6.out,pR]
 clear L6 pR;go_upto_region 6 with fail
 have F6A:=hJ (F6.out.all 3 3 rfl)
 go_region_law
  (refine bX rfl (.tmp 20) (.tmp 21) (by rfl) _ _ _ _ _ _ (by rfl) (by rfl) w3.heap.size 1 5 Z1 [99,111,112] (by exact R6.out) (by exact F6A.out.heap rfl) (by omega) (fun _=>by rfl) (by omega) ?_;intro w7 nj cG Ab)
 all_goals
  have R7:=hJ nj;have RJ:=gQ ((Qt.refl w6).drew.grown (some w3.heap.size)) cG;have X7:=hJ (X6.out.kept RJ (fun e=>by have:=Option.some.inj e;have:=X6.out.lt;have:=Oc.out;have:=S2.out;omega));have E7:=hJ (E6.out.kept RJ (fun e=>by have:=Option.some.inj e;have:=Oc.out;omega));have G7:=hJ (af G6.out RJ Oc.out.1);clear nj cG RJ Ab R6 X6 F6 F6A E6 G6;have L7:=hJ (aJ (cs:=Z1) (zs:=[99,111,112]) (p:=1) (by rw [hZ1];decide));generalize splice Z1 1 [99,111,112]=Z2 at *;have Uv:Z2.length=4092:=by rw [L7.out,hZ1]
  clear L7 hZ1;go_upto_region 7 with fail
  obtain ⟨c0,c1,c2,c3,c4,c5,c6⟩:=X7.out.cells
  go_region_law
   (first
    | (have zz:=R8;refine bX rfl (.tmp 27) (.tmp 29) (by rfl) _ _ _ _ _ _ (by rfl) (by rfl) w3.heap.size 4 5 Z2 NB (by exact R8) (by exact ig) (by omega) (fun _=>by rfl) (by omega) ?_;intro w9 nR qQ xZ)
    | (go_simp;go_at_call 220;refine (Js.out _).mono ?_;rintro en w8 ⟨⟨g8,rfl,ig⟩,bU⟩;have WS:=gQ ((Qt.refl w7).drew.grown none) bU;have R8:=R7.out.ae WS))
  all_goals
   have R9:=hJ nR;have WT:=gQ (bL WS) qQ;have E9:=hJ (E7.out.kept WT (fun e=>by have:=Option.some.inj e;have:=Oc.out;omega));have G9:=hJ (af G7.out WT Oc.out.1);clear nR qQ WT xZ bU WS ig R7 X7 E7 G7 R8 c0 c1 c2 c3 c4 c5 c6;have L9:=hJ (aJ (cs:=Z2) (zs:=NB) (p:=4) (by rw [Uv,HNL.out];decide));generalize splice Z2 4 NB=Z3 at *;have hZ3:Z3.length=4092:=by rw [L9.out,Uv]
   clear L9 Uv;go_upto_region 8 with fail
   have E9A:=hJ (E9.out.all 4 4 rfl)
   go_region_law
    (refine bX rfl (.tmp 35) (.tmp 36) (by rfl) _ _ _ _ _ _ (by rfl) (by rfl) w3.heap.size 4088 5 Z3 LB (by exact R9.out) (by exact E9A.out.heap rfl) (by omega) (fun _=>by rfl) (by omega) ?_;intro fI tQ aW Ef)
   all_goals
    have IW:Hid (Rw fI w3.heap.size M):=by rw [<- HB.out];exact tQ
    have wZ:=hJ (af G9.out (gQ ((Qt.refl w9).drew.grown (some w3.heap.size)) aW) Oc.out.1);have Yn:=hJ Oc.out.1;clear tQ aW Ef R9 G9 E9 E9A;go_wp2
    go_ret2
    exact ⟨_,rfl,IW.out,Yn.out,wZ.out⟩
def nw (v y:Int)(a b:Bool):Int :=
 if (a && decide (v.tmod 2=0))=true then (if (b && decide (¬ y.tmod 2=0))=true/\v<y then 1 else 0) else if (b && decide (¬ y.tmod 2=0))=true then 1 else -1
end Go.Proofs.YtgldkdbkaachkaaGreatDoor
