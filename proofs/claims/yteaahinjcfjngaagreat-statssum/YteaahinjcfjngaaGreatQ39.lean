import Derived.Test.YteaahinjcfjngaaGreatQ38
import Derived.Test.YteaahinjcfjngaaGreatQ37
import Derived.Laws.Cover2
import Derived.Laws.Externs
set_option maxRecDepth 100000
set_option maxHeartbeats 8000000
namespace Go.Proofs.YteaahinjcfjngaaGreat
open Go.RowKit
theorem run_quo22 (w:World){t:TypeId}{x y r:Nat}(h:Ieee.double.div x y=some r):(binOp .quo t (.float .f64 x) (.float .f64 y)).run Tryz.prog w=.ok (.float .f64 r) w:=run_float_arith w .quo t .f64 x y r h
theorem run_mul22 (w:World){t:TypeId}{x y r:Nat}(h:Ieee.double.mul x y=some r):(binOp .mul t (.float .f64 x) (.float .f64 y)).run Tryz.prog w=.ok (.float .f64 r) w:=run_float_arith w .mul t .f64 x y r h
theorem run_add22 (w:World){t:TypeId}{x y r:Nat}(h:Ieee.double.add x y=some r):(binOp .add t (.float .f64 x) (.float .f64 y)).run Tryz.prog w=.ok (.float .f64 r) w:=run_float_arith w .add t .f64 x y r h
theorem run_sub22 (w:World){t:TypeId}{x y r:Nat}(h:Ieee.double.sub x y=some r):(binOp .sub t (.float .f64 x) (.float .f64 y)).run Tryz.prog w=.ok (.float .f64 r) w:=run_float_arith w .sub t .f64 x y r h
theorem in4092:inF 4092=4661216818235441152:=by decide +kernel
theorem share_any (u p:Nat)(w:World)(hu:u<9007199254740992)(hp:0<p)(hp2:p*4092<9007199254740992) :
  Calls Tryz.prog 37 #[.int .i64 (u:Nat),.int .i64 (p:Nat)] w fun en w'=>en=.returned (.float .f64 (quW u (p*4092)))/\w'=w:=by
 have hq:=fun (W:World)=>run_quo22 W (t:=26) (qu_some (a:=u) (b:=p*4092) hu hp2 (by omega)).1
 have e1:=floatOf_nat u;have e2:=floatOf_nat (p*4092);rw [show ((p*4092:Nat):Int)=(p:Int)*4092 by omega] at e2;go_enter Tryz.func37,Tryz.ntmps37;go_wp2;go_ret;exact ⟨rfl,rfl⟩
theorem sqrt_any (x r:Nat)(w:World)(h:Ieee.double.sqrt x=some r) :
  Calls Tryz.prog 45 #[.float .f64 x] w fun en w'=>en=.returned (.float .f64 r)/\w'=w:=by
 have hc:∀ W:World,(callFunc 72 #[.float .f64 x]).run Tryz.prog W=.ok (.value (.float .f64 r)) W:=fun W=>by
  rw [run_callFunc_extern Tryz.func72 (by kernel_rfl) (by kernel_rfl) (by kernel_rfl) (e:=Extern.MathSqrt.sqrt) (by kernel_rfl)];have h2:FloatKind.f64.format.sqrt x=some r:=h
  have h3:Extern.MathSqrt.sqrt #[.float .f64 x]=pure (.float .f64 r):=by
   show (match FloatKind.f64.format.sqrt x with | some r=>pure (Value.float .f64 r) | none=>_)=_
   rw [h2]
  rw [h3]
  rfl
 go_enter Tryz.func45,Tryz.ntmps45;go_wp2;go_ret;exact ⟨rfl,rfl⟩
def sqN (mid:Nat)(x:NoT):Nat:=(nsz x - mid)*(nsz x - mid)+(mid - nsz x)*(mid - nsz x)
theorem sq_int (mid:Nat)(x:NoT):(((nsz x:Nat):Int) - (mid:Int))*(((nsz x:Nat):Int) - (mid:Int))=((sqN mid x:Nat):Int):=by
 unfold sqN;rcases Nat.le_total (nsz x) mid with h | h
 ·obtain ⟨d,hd⟩:∃ d,mid=nsz x+d:=⟨mid - nsz x,by omega⟩
  have e1:((nsz x:Nat):Int) - (mid:Int)=-(d:Int):=by omega
  rw [e1,Int.neg_mul_neg,show nsz x - mid=0 by omega,show mid - nsz x=d by omega];simp
 ·obtain ⟨d,hd⟩:∃ d,nsz x=mid+d:=⟨nsz x - mid,by omega⟩
  have e1:((nsz x:Nat):Int) - (mid:Int)=(d:Int):=by omega
  rw [e1,show mid - nsz x=0 by omega,show nsz x - mid=d by omega];simp
theorem sq_le {mid:Nat}{x:NoT}(h:mid<=4092)(hs:nsz x<=4092):sqN mid x<=16744464:=by
 unfold sqN;rcases Nat.le_total (nsz x) mid with k | k
 ·rw [show nsz x - mid=0 by omega,Nat.zero_mul,Nat.zero_add]
  exact Nat.mul_le_mul (show mid - nsz x<=4092 by omega) (show mid - nsz x<=4092 by omega)
 ·rw [show mid - nsz x=0 by omega,Nat.zero_mul,Nat.add_zero]
  exact Nat.mul_le_mul (show nsz x - mid<=4092 by omega) (show nsz x - mid<=4092 by omega)
theorem sumT_lim {g:NoT->Nat}{c:Nat}{xs:List NoT}(h:∀ x∈xs,g x<=c)(k:Nat):sumT g (xs.take k)<=xs.length*c :=
 Nat.le_trans (sumT_part g xs k) (sumT_bound22 xs h)
theorem spread_any (a:Option Addr)(n c:Nat)(xs:List NoT)(mid:Nat)(w:World)(hl:SnL w a n c xs)(hn:0<n)(hn2:n<=100000)(hz:∀ x∈xs,SzN x)(hm:mid<=4092) :
  Calls Tryz.prog 71 #[.slice a n c,.int .i64 (mid:Nat)] w fun en w'=>en=.returned (.float .f64 (spW (sumT (sqN mid) xs) n))/\w.grownBy w' none:=by
 have hmf:∀ (fn:Fn) (first cap:Array Value) (w:World),(Instr.makeFunc fn first cap).run Tryz.prog w=.ok (.func fn first cap) w:=fun _ _ _ _=>rfl
 have HL:=hZq hl;have HZ:=hZq hz;have HXL:Hid (xs.length=n):=hl.1
 have HS:Hid (sumT (sqN mid) xs<9007199254740992):=by
  have h1:=sumT_bound22 (f:=sqN mid) (c:=16744464) xs (fun x hx=>sq_le hm (hz x hx).hi);have h2:=HXL.out
  show _<_
  rw [h2] at h1;omega
 clear hl hz;go_enter Tryz.func71,Tryz.ntmps71;go_upto_region 2 with fail
 have ga1:=World.grownBy_alloc w (.cells #[.int .i64 (mid:Nat)] 3) none;have ga2:=World.grownBy_alloc (w.alloc (.cells #[.int .i64 (mid:Nat)] 3)) (.cells #[.int .i64 0] 3) none;have GA:=hZq (gZq ga1 ga2);have XP:=hZq (heap_kept (heap_at0 w #[.int .i64 (mid:Nat)] 3) ga2);have XB:=hZq (heap_at0 (w.alloc (.cells #[.int .i64 (mid:Nat)] 3)) #[.int .i64 0] 3);have HSZ:Hid ((w.alloc (.cells #[.int .i64 (mid:Nat)] 3)).heap.size=w.heap.size+1):=by show _=_;simp
 rw [HSZ.out] at XB;clear ga1 ga2;generalize (w.alloc (.cells #[.int .i64 (mid:Nat)] 3)).alloc (.cells #[.int .i64 0] 3)=w2 at *;obtain ⟨B,hB⟩:∃ B,w.heap.size+1=B:=⟨_,rfl⟩;have HPB:Hid (w.heap.size≠B):=by show _≠_;omega
 have HBL:Hid (w.heap.size<=B):=by show _<=_;omega
 rw [hB] at XB ⊢;clear hB HSZ;generalize hP:w.heap.size=P at *;have HP:=hZq hP;clear hP
 go_wp2_with fail
 refine (added_any B 0 89 #[.pointer (some ⟨P,0,none⟩)] w2).mono ?_;rintro en w3 ⟨bx,rfl,hbx,hg3⟩;have HBX:=hZq hbx;have G3:=hZq (gZq GA.out hg3);have XP3:=hZq (heap_kept XP.out hg3);have XB3:=hZq (heap_kept XB.out hg3);clear hbx hg3 XP XB GA
 go_wp2_with fail
 have ga:=World.grownBy_alloc w3 (.cells #[.pointer (some ⟨B,0,none⟩),.func (.func 60) #[] #[.pointer (some ⟨bx,0,none⟩)]] 76) none;have XD:=hZq (heap_at0 w3 #[.pointer (some ⟨B,0,none⟩),.func (.func 60) #[] #[.pointer (some ⟨bx,0,none⟩)]] 76);have HBX4:=hZq (ga.cell HBX.out (by simp));have G4:=hZq (gZq G3.out ga);have XP4:=hZq (heap_kept XP3.out ga);have XB4:=hZq (heap_kept XB3.out ga);clear ga;generalize w3.alloc (.cells #[.pointer (some ⟨B,0,none⟩),.func (.func 60) #[] #[.pointer (some ⟨bx,0,none⟩)]] 76)=w4 at *;generalize w3.heap.size=D at *;clear HBX XP3 XB3 G3
 have ht:TlyL w4 (some ⟨D,0,none⟩) B 0 xs 1152921504606846976 (fun _ x z=>z+((sqN mid x:Nat):Int)) 1:=fun i hi=>by
  obtain rfl:i=0:=by omega
  refine ⟨D,0,_,rfl,cell_heap (i:=0) XD.out rfl,cell_heap (i:=1) XD.out rfl,fn_added w4 B bx 89 #[.pointer (some ⟨P,0,none⟩)] xs _ (sqN mid) HBX4.out (enter22 Tryz.func89 (by kernel_rfl) rfl) (fun W x pa pc ca cn cc sa sc ka kn kc hx hg hv=>?_) (fun x hx=>?_)⟩
  ·have h1:=spread1_any x pa pc ca cn cc sa sc ka kn kc P (mid:Int) W (hg.cell (cell_heap (i:=0) XP4.out rfl) (by have:=HPB.out;simpa using this)) (by omega) (HZ.out x hx).hi
   rw [sq_int] at h1;exact h1
  ·have:=sq_le hm (HZ.out x hx).hi
   omega
 have hzz:StZ w4 B 3 1 0 1 (fun _=>0) #[.int .i64 0]:=by
  refine ⟨⟨#[.int .i64 0],XB4.out,rfl,?_,fun j _=>rfl,?_⟩,by omega⟩
  ·intro i hi
   obtain rfl:i=0:=by omega
   rfl
  ·intro v hv
   have:v=.int .i64 0:=by simpa using hv
   rw [this]
   rfl
 have hb:∀ i,i<1->∀ k,k<=n->0<=fdN (fun x z=>z+((sqN mid x:Nat):Int)) (xs.take k) 0/\fdN (fun x z=>z+((sqN mid x:Nat):Int)) (xs.take k) 0<=1152921504606846976:=fun i _ k _=>by
  rw [fdN_add];have h1:=sumT_part (sqN mid) xs k;have h2:=HS.out;omega
 refine (count_any a n c xs (some ⟨D,0,none⟩) 1 1 B 3 1 0 (fun _=>0) #[.int .i64 0] (fun _ x z=>z+((sqN mid x:Nat):Int)) 1152921504606846976 w4 (HL.out.cef (CeF.of G4.out)) ht hzz (by decide) (by omega) (by omega) hb).mono ?_;rintro en w5 ⟨rfl,hz5,hg5⟩;have hc5:=(hz5.cell (i:=0) (by omega)).1;try dsimp only at hc5
 rw [fdN_add,Int.zero_add] at hc5;have G5:Hid (w.grownBy w5 none):=grown_new G4.out hg5 (by have:=HBL.out;have:=HP.out;omega);clear ht hzz hb hz5 hg5;obtain ⟨S,hS⟩:∃ S,sumT (sqN mid) xs=S:=⟨_,rfl⟩;rw [hS] at hc5 HS;have HSS:=hZq hS;clear hS;have hq:=fun (W:World)=>run_quo22 W (t:=26) (qu_some (a:=S) (b:=n) HS.out (Nat.lt_of_le_of_lt hn2 (by decide)) hn).1
 have e1:=floatOf_nat S;have e2:=floatOf_nat n;obtain ⟨q1,q2⟩:=qu_some (a:=S) (b:=n) HS.out (Nat.lt_of_le_of_lt hn2 (by decide)) hn;obtain ⟨r1,r2,_⟩:=rt_some q2;have SQ:=hZq (fun W=>sqrt_any (quW S n) _ W r1);have hd:=fun (W:World)=>run_quo22 W (t:=26) (sh_some r2).1
 rw [in4092] at hd;clear q1 q2 r1 r2
 go_wp2_with fail
 refine (SQ.out _).mono ?_;rintro en w6 ⟨rfl,rfl⟩;go_wp2;go_ret;exact ⟨by rw [HSS.out];rfl,G5.out⟩
def mnF:List NoT->Nat->Nat
 | [],z=>z
 | x::xs,z=>mnF xs (min z (nsz x))
def mxF:List NoT->Nat->Nat
 | [],z=>z
 | x::xs,z=>mxF xs (max z (nsz x))
theorem fdN_min:∀ (xs:List NoT) (z:Nat),fdN (fun x z=>min z ((nsz x:Nat):Int)) xs (z:Int)=((mnF xs z:Nat):Int)
 | [],_=>rfl
 | x::xs,z=>by
  rw [fdN,mnF,<- fdN_min xs]
  congr 1
  omega
theorem fdN_max:∀ (xs:List NoT) (z:Nat),fdN (fun x z=>max z ((nsz x:Nat):Int)) xs (z:Int)=((mxF xs z:Nat):Int)
 | [],_=>rfl
 | x::xs,z=>by
  rw [fdN,mxF,<- fdN_max xs]
  congr 1
  omega
theorem mn_le:∀ (xs:List NoT) (z:Nat),mnF xs z<=z
 | [],_=>Nat.le_refl _
 | _::xs,_=>Nat.le_trans (mn_le xs _) (Nat.min_le_left _ _)
theorem mx_le:∀ (xs:List NoT) (z c:Nat),z<=c->(∀ x∈xs,nsz x<=c)->mxF xs z<=c
 | [],_,_,h,_=>h
 | x::xs,_,c,h,hx=>mx_le xs _ c (Nat.max_le.2 ⟨h,hx x List.mem_cons_self⟩) (fun y hy=>hx y (List.mem_cons_of_mem _ hy))
def oneN (_:NoT):Nat:=1
theorem sum_one (xs:List NoT):sumT oneN xs=xs.length:=by
 have:=sumT_mul 1 xs;rw [Nat.one_mul] at this;exact this
theorem store_f22 (W:World)(a:Addr)(b:Nat)(m:Mode):(store a (.float .f64 b) m).run Tryz.prog W=stored Tryz.prog W a (.float .f64 b) m:=run_store Tryz.prog W a (.float .f64 b) m rfl
def lvlV (lv:Int)(xs:List NoT):Array Value:=#[.int .i64 lv,.int .i64 (xs.length:Nat),.int .i64 (sumT nsz xs:Nat),.int .i64 (mnF xs 4092:Nat),.int .i64 (mxF xs 0:Nat),.float .f64 (quW (sumT nsz xs) (xs.length*4092)),.float .f64 (spW (sumT (sqN (sumT nsz xs / xs.length)) xs) xs.length)]
theorem size_slevel:(Tryz.prog.info? 44).map (fun i=>i.size)=some 7:=by kernel_rfl
theorem ret_slevel {fn:Func}{p:Tmp}(h:fn.results=#[.cell p 44])(tmps:Array Value)(w:World)(g:Nat)(x0 x1 x2 x3 x4 x5 x6:Value)(hp:tmps.getD p undef=.pointer (some ⟨g,0,none⟩))(hr:w.heap[g]?=some (.cells #[x0,x1,x2,x3,x4,x5,x6] 44 (0,0))) :
  (results fn tmps).run Tryz.prog w=.ok (.agg #[x0,x1,x2,x3,x4,x5,x6]) w:=by
 have hp':tmps[p]?.getD undef=.pointer (some ⟨g,0,none⟩):=by simpa using hp
 simp [results,h,hp',asAddr,run_loadVar_row w g 44 44 #[x0,x1,x2,x3,x4,x5,x6] (0,0) _ hr Tryz.underlying44 rfl (by rw [size_slevel];rfl)]
theorem wpList_store_row22 {w:World}{ops:Array Oper}{rest:List Oper}{o:Oper}{a:Act}{Q:Exit->Act->World->Prop}(hgd:o.guard=none)(p x:Operand)(ty:TypeId)(ho:o.op=.store ty p x)(g:Nat)(cells old:Array Value)(hp:a.eval p=.pointer (some ⟨g,0,none⟩))(hx:a.eval x=.agg cells)
  (t:TypeId) (hg:w.heap[g]?=some (.cells old t (0,0))) (hi:(Tryz.prog.info? ty).map (·.size)=some cells.size) (hold:old.size=cells.size) (h1:cells.all (·.oneCell')=true) (h:wpList Tryz.prog ops Q rest (a.put o.dst undef) (w.setRow g cells)):wpList Tryz.prog ops Q (o::rest) a w:=by
 refine wpList_plain hgd fun K hK=>?_
 unfold Oper.wp;have hv:=run_storeVar_row (P:=Tryz.prog) w g t ty old cells hg hi hold h1;have hr2:(execOp a.eval o).run Tryz.prog w=.ok .skip (w.setRow g cells):=by simp [execOp,ho,hp,hx,Instr.storeAt,Instr.sureAddr,hv,Result.andThen]
 rw [hr2,Oper.upon_skip];exact hK _ _ h
theorem grown_setRow22 (w:World)(g:Nat)(cs:Array Value):w.grownBy (w.setRow g cs) (some g) :=
 ⟨rfl,rfl,rfl,by simp [World.setRow],fun k _ hne=>setRow_other w g k cs (fun e=>hne (by rw [e]))⟩
theorem arr7 {cs:Array Value}{x0 x1 x2 x3 x4 x5 x6:Value}(h:cs.size=7)(h0:cs[0]?=some x0)(h1:cs[1]?=some x1)(h2:cs[2]?=some x2)(h3:cs[3]?=some x3)(h4:cs[4]?=some x4)(h5:cs[5]?=some x5)(h6:cs[6]?=some x6):cs=#[x0,x1,x2,x3,x4,x5,x6]:=by
 apply Array.ext_getElem?;intro i
 match i with
 | 0=>exact h0
 | 1=>exact h1
 | 2=>exact h2
 | 3=>exact h3
 | 4=>exact h4
 | 5=>exact h5
 | 6=>exact h6
 | i+7 =>
  rw [Array.getElem?_eq_none (by omega),Array.getElem?_eq_none (by simp)]
theorem arr6 {cs:Array Value}{x0 x1 x2 x3 x4 x5:Value}(h:cs.size=6)(h0:cs[0]?=some x0)(h1:cs[1]?=some x1)(h2:cs[2]?=some x2)(h3:cs[3]?=some x3)(h4:cs[4]?=some x4)(h5:cs[5]?=some x5):cs=#[x0,x1,x2,x3,x4,x5]:=by
 apply Array.ext_getElem?;intro i
 match i with
 | 0=>exact h0
 | 1=>exact h1
 | 2=>exact h2
 | 3=>exact h3
 | 4=>exact h4
 | 5=>exact h5
 | i+6 =>
  rw [Array.getElem?_eq_none (by omega),Array.getElem?_eq_none (by simp)]
def fsL:Nat->NoT->Int->Int
 | 0=>fun x z=>z+((oneN x:Nat):Int)
 | 1=>fun x z=>z+((nsz x:Nat):Int)
 | 2=>fun x z=>min z ((nsz x:Nat):Int)
 | _=>fun x z=>max z ((nsz x:Nat):Int)
def zsL:Nat->Int
 | 2=>4092
 | _=>0
theorem levelOf_any (a:Option Addr)(n c:Nat)(xs:List NoT)(lv:Int)(w:World)(hl:SnL w a n c xs)(hn:0<n)(hn2:n<=100000)(hz:∀ x∈xs,SzN x) :
  Calls Tryz.prog 42 #[.int .i64 lv,.slice a n c] w fun en w'=>en=.returned (.agg (lvlV lv xs))/\w.grownBy w' none:=by
 have HL:=hZq hl;have HZ:=hZq hz;have HXL:Hid (xs.length=n):=hl.1
 have HU:Hid (sumT nsz xs<=n*4092):=by
  have h1:=sumT_bound22 (f:=nsz) (c:=4092) xs (fun x hx=>(hz x hx).hi);have h2:=HXL.out
  show _<=_
  rw [h2] at h1;exact h1
 clear hl hz;have hsf:=store_f22;go_enter Tryz.func42,Tryz.ntmps42;go_upto_region 2 with fail
 have ga1:=World.grownBy_alloc w (.cells #[.int .i64 0,.int .i64 0,.int .i64 0,.int .i64 0,.int .i64 0,.float .f64 0,.float .f64 0] 44) none;have ga2:=World.grownBy_alloc (w.alloc (.cells #[.int .i64 0,.int .i64 0,.int .i64 0,.int .i64 0,.int .i64 0,.float .f64 0,.float .f64 0] 44)) (.cells #[.int .i64 lv,.int .i64 0,.int .i64 0,.int .i64 4092,.int .i64 0,.float .f64 0,.float .f64 0] 44) none;have GA:=hZq (gZq ga1 ga2);have XR:=hZq (heap_kept (heap_at0 w #[.int .i64 0,.int .i64 0,.int .i64 0,.int .i64 0,.int .i64 0,.float .f64 0,.float .f64 0] 44) ga2);have XB:=hZq (heap_at0 (w.alloc (.cells #[.int .i64 0,.int .i64 0,.int .i64 0,.int .i64 0,.int .i64 0,.float .f64 0,.float .f64 0] 44)) #[.int .i64 lv,.int .i64 0,.int .i64 0,.int .i64 4092,.int .i64 0,.float .f64 0,.float .f64 0] 44);have HSZ:Hid ((w.alloc (.cells #[.int .i64 0,.int .i64 0,.int .i64 0,.int .i64 0,.int .i64 0,.float .f64 0,.float .f64 0] 44)).heap.size=w.heap.size+1):=by show _=_;simp
 rw [HSZ.out] at XB;clear ga1 ga2;generalize (w.alloc (.cells #[.int .i64 0,.int .i64 0,.int .i64 0,.int .i64 0,.int .i64 0,.float .f64 0,.float .f64 0] 44)).alloc (.cells #[.int .i64 lv,.int .i64 0,.int .i64 0,.int .i64 4092,.int .i64 0,.float .f64 0,.float .f64 0] 44)=w1 at *;obtain ⟨B,hB⟩:∃ B,w.heap.size+1=B:=⟨_,rfl⟩;have HRB:Hid (w.heap.size≠B):=by show _≠_;omega
 have HBL:Hid (w.heap.size<=B):=by show _<=_;omega
 rw [hB] at XB ⊢;clear hB HSZ;generalize hR:w.heap.size=R at *;have HR:=hZq hR;clear hR
 go_wp2_with fail
 refine (added_any B 1 67 #[] w1).mono ?_;rintro en w2 ⟨b1,rfl,hb1,hg2⟩;have HB1:=hZq hb1;have G2:=hZq (gZq GA.out hg2);have XR2:=hZq (heap_kept XR.out hg2);have XB2:=hZq (heap_kept XB.out hg2);clear hb1 hg2 XR XB GA
 go_wp2_with fail
 refine (added_any B 2 68 #[] w2).mono ?_;rintro en w3 ⟨b2,rfl,hb2,hg3⟩;have HB2:=hZq hb2;have HB13:=hZq (hg3.cell HB1.out (by simp));have G3:=hZq (gZq G2.out hg3);have XR3:=hZq (heap_kept XR2.out hg3);have XB3:=hZq (heap_kept XB2.out hg3);clear hb2 hg3 XR2 XB2 G2 HB1
 go_wp2_with fail
 have ga:=World.grownBy_alloc w3 (.cells #[.pointer (some ⟨B,1,none⟩),.func (.func 60) #[] #[.pointer (some ⟨b1,0,none⟩)],.pointer (some ⟨B,2,none⟩),.func (.func 60) #[] #[.pointer (some ⟨b2,0,none⟩)],.pointer (some ⟨B,3,none⟩),.func (.func 69) #[] #[],.pointer (some ⟨B,4,none⟩),.func (.func 70) #[] #[]] 76) none;have XD:=hZq (heap_at0 w3 #[.pointer (some ⟨B,1,none⟩),.func (.func 60) #[] #[.pointer (some ⟨b1,0,none⟩)],.pointer (some ⟨B,2,none⟩),.func (.func 60) #[] #[.pointer (some ⟨b2,0,none⟩)],.pointer (some ⟨B,3,none⟩),.func (.func 69) #[] #[],.pointer (some ⟨B,4,none⟩),.func (.func 70) #[] #[]] 76);have HB14:=hZq (ga.cell HB13.out (by simp));have HB24:=hZq (ga.cell HB2.out (by simp));have G4:=hZq (gZq G3.out ga);have XR4:=hZq (heap_kept XR3.out ga);have XB4:=hZq (heap_kept XB3.out ga);clear ga;generalize w3.alloc (.cells #[.pointer (some ⟨B,1,none⟩),.func (.func 60) #[] #[.pointer (some ⟨b1,0,none⟩)],.pointer (some ⟨B,2,none⟩),.func (.func 60) #[] #[.pointer (some ⟨b2,0,none⟩)],.pointer (some ⟨B,3,none⟩),.func (.func 69) #[] #[],.pointer (some ⟨B,4,none⟩),.func (.func 70) #[] #[]] 76)=w4 at *;generalize w3.heap.size=D at *;clear HB13 HB2 XR3 XB3 G3
 have ht:TlyL w4 (some ⟨D,0,none⟩) B 1 xs 1152921504606846976 fsL 4:=fun i hi=>by
  match i,hi with
  | 0,_=>exact ⟨D,0,_,rfl,cell_heap (i:=0) XD.out rfl,cell_heap (i:=1) XD.out rfl,fn_added w4 B b1 67 #[] xs _ oneN HB14.out (enter22 Tryz.func67 (by kernel_rfl) rfl) (fun W x pa pc ca cn cc sa sc ka kn kc hx hg hv=>one_any x pa pc ca cn cc sa sc ka kn kc W hv (HZ.out x hx)) (fun x hx=>by unfold oneN;omega)⟩
  | 1,_=>exact ⟨D,0,_,rfl,cell_heap (i:=2) XD.out rfl,cell_heap (i:=3) XD.out rfl,fn_added w4 B b2 68 #[] xs _ nsz HB24.out (enter22 Tryz.func68 (by kernel_rfl) rfl) (fun W x pa pc ca cn cc sa sc ka kn kc hx hg hv=>bytes_any22 x pa pc ca cn cc sa sc ka kn kc W hv (HZ.out x hx)) (fun x hx=>by have:=(HZ.out x hx).hi;omega)⟩
  | 2,_=>exact ⟨D,0,_,rfl,cell_heap (i:=4) XD.out rfl,cell_heap (i:=5) XD.out rfl,fn_least w4 B xs _⟩
  | 3,_=>exact ⟨D,0,_,rfl,cell_heap (i:=6) XD.out rfl,cell_heap (i:=7) XD.out rfl,fn_most w4 B xs _⟩
 have hzz:StZ w4 B 44 7 1 4 zsL #[.int .i64 lv,.int .i64 0,.int .i64 0,.int .i64 4092,.int .i64 0,.float .f64 0,.float .f64 0]:=by
  refine ⟨⟨#[.int .i64 lv,.int .i64 0,.int .i64 0,.int .i64 4092,.int .i64 0,.float .f64 0,.float .f64 0],XB4.out,rfl,?_,fun j _=>rfl,?_⟩,by omega⟩
  ·intro i hi
   match i,hi with
   | 0,_=>rfl
   | 1,_=>rfl
   | 2,_=>rfl
   | 3,_=>rfl
  ·intro v hv
   simp only [List.mem_toArray,List.mem_cons,List.not_mem_nil,or_false] at hv;rcases hv with rfl | rfl | rfl | rfl | rfl | rfl | rfl <;> rfl
 have hb:∀ i,i<4->∀ k,k<=n->0<=fdN (fsL i) (xs.take k) (zsL i)/\fdN (fsL i) (xs.take k) (zsL i)<=1152921504606846976:=fun i hi k _=>by
  match i,hi with
  | 0,_ =>
   show 0<=fdN (fun x z=>z+((oneN x:Nat):Int)) (xs.take k) 0/\fdN (fun x z=>z+((oneN x:Nat):Int)) (xs.take k) 0<=_
   rw [fdN_add,sum_one];have h1:=HXL.out;have h2:(xs.take k).length<=xs.length:=by rw [List.length_take];omega
   omega
  | 1,_ =>
   show 0<=fdN (fun x z=>z+((nsz x:Nat):Int)) (xs.take k) 0/\fdN (fun x z=>z+((nsz x:Nat):Int)) (xs.take k) 0<=_
   rw [fdN_add];have h1:=sumT_part nsz xs k;have h2:=HU.out;omega
  | 2,_ =>
   show 0<=fdN (fun x z=>min z ((nsz x:Nat):Int)) (xs.take k) ((4092:Nat):Int)/\fdN (fun x z=>min z ((nsz x:Nat):Int)) (xs.take k) ((4092:Nat):Int)<=_
   rw [fdN_min];have h1:=mn_le (xs.take k) 4092;omega
  | 3,_ =>
   show 0<=fdN (fun x z=>max z ((nsz x:Nat):Int)) (xs.take k) ((0:Nat):Int)/\fdN (fun x z=>max z ((nsz x:Nat):Int)) (xs.take k) ((0:Nat):Int)<=_
   rw [fdN_max];have h1:=mx_le (xs.take k) 0 4092 (by omega) (fun x hx=>(HZ.out x (List.mem_of_mem_take hx)).hi);omega
 refine (count_any a n c xs (some ⟨D,0,none⟩) 4 4 B 44 7 1 zsL #[.int .i64 lv,.int .i64 0,.int .i64 0,.int .i64 4092,.int .i64 0,.float .f64 0,.float .f64 0] fsL 1152921504606846976 w4 (HL.out.cef (CeF.of G4.out)) ht hzz (by decide) (by omega) (by omega) hb).mono ?_;rintro en w5 ⟨rfl,hz5,hg5⟩
 have X5:Hid (w5.heap[B]?=some (.cells #[.int .i64 lv,.int .i64 (n:Nat),.int .i64 (sumT nsz xs:Nat),.int .i64 (mnF xs 4092:Nat),.int .i64 (mxF xs 0:Nat),.float .f64 0,.float .f64 0] 44 (0,0))):=by
  obtain ⟨cs,h1,h2,h3,h4,_⟩:=hz5.ex
  have e1:fdN (fsL 0) xs (zsL 0)=(n:Int):=by
   show fdN (fun x z=>z+((oneN x:Nat):Int)) xs 0=_
   rw [fdN_add,sum_one,HXL.out];omega
  have e2:fdN (fsL 1) xs (zsL 1)=((sumT nsz xs:Nat):Int):=by
   show fdN (fun x z=>z+((nsz x:Nat):Int)) xs 0=_
   rw [fdN_add];omega
  have e3:fdN (fsL 2) xs (zsL 2)=((mnF xs 4092:Nat):Int):=fdN_min xs 4092;have e4:fdN (fsL 3) xs (zsL 3)=((mxF xs 0:Nat):Int):=fdN_max xs 0;have a1:=h3 0 (by omega);have a2:=h3 1 (by omega);have a3:=h3 2 (by omega);have a4:=h3 3 (by omega);rw [e1] at a1;rw [e2] at a2;rw [e3] at a3;rw [e4] at a4;have:=arr7 h2 (h4 0 (.inl (by omega))) a1 a2 a3 a4 (h4 5 (.inr (by omega))) (h4 6 (.inr (by omega)))
  show _=_
  rw [h1,this]
  rfl
 have G5:Hid (w.grownBy w5 none):=grown_new G4.out hg5 (by have:=HBL.out;have:=HR.out;omega);have XR5:Hid (w5.heap[R]?=some (.cells #[.int .i64 0,.int .i64 0,.int .i64 0,.int .i64 0,.int .i64 0,.float .f64 0,.float .f64 0] 44 (0,0))):=(hg5.block R (Array.getElem?_eq_some_iff.1 XR4.out).1 (by have:=HRB.out;simpa using this)).trans XR4.out;clear ht hzz hb hz5 hg5 XB4 XR4 G4 XD HB14 HB24;have HL5:=hZq (HL.out.cef (CeF.of G5.out));obtain ⟨U,hU⟩:∃ U,sumT nsz xs=U:=⟨_,rfl⟩;obtain ⟨mn,hmn⟩:∃ m,mnF xs 4092=m:=⟨_,rfl⟩;obtain ⟨mx,hmx⟩:∃ m,mxF xs 0=m:=⟨_,rfl⟩;rw [hU] at X5 HU;rw [hmn,hmx] at X5;have HE:=hZq (And.intro hU (And.intro hmn hmx));clear hU hmn hmx;have hu:=HU.out;have c1:=cell_heap (i:=1) X5.out rfl;have c2:=cell_heap (i:=2) X5.out rfl;have c5:=cell_heap (i:=5) X5.out rfl;have f5:=frozen_of_row w5 B 5 _ _ X5.out;have SH:=hZq (share_any U n w5 (by omega) hn (by omega))
 go_wp2_with fail
 refine SH.out.mono ?_;rintro en w6 ⟨rfl,rfl⟩;go_upto_region 4 with fail
 have X6:=hZq (heap_setCell_same w6 B 5 _ _ (.float .f64 (quW U (n*4092))) X5.out);have gg:=grown_cell w6 B 5 (.float .f64 (quW U (n*4092)));have G6:Hid (w.grownBy (w6.setCell ⟨B,5,none⟩ (.float .f64 (quW U (n*4092)))) none):=grown_new G5.out gg (by have:=HBL.out;have:=HR.out;omega);have XR6:=hZq ((gg.block R (Array.getElem?_eq_some_iff.1 XR5.out).1 (by have:=HRB.out;simpa using this)).trans XR5.out);clear gg c1 c2 c5 f5 SH X5 XR5 G5;generalize w6.setCell ⟨B,5,none⟩ (.float .f64 (quW U (n*4092)))=w7 at *;have c1:=cell_heap (i:=1) X6.out rfl;have c2:=cell_heap (i:=2) X6.out rfl;have c6:=cell_heap (i:=6) X6.out rfl;have f6:=frozen_of_row w7 B 6 _ _ X6.out;obtain ⟨md,hmd⟩:∃ md,U / n=md:=⟨_,rfl⟩;have hmid:md<=4092:=by rw [<- hmd];exact Nat.div_le_of_le_mul hu
 have hdv:((U:Nat):Int) / ((n:Nat):Int)=((md:Nat):Int):=by rw [<- hmd];exact (Int.natCast_ediv U n).symm
 have HMD:=hZq hmd;clear hmd;obtain ⟨sp,hsp⟩:∃ s,spW (sumT (sqN md) xs) n=s:=⟨_,rfl⟩;have SP0:=spread_any a n c xs md w7 (HL.out.cef (CeF.of G6.out)) hn hn2 HZ.out hmid;rw [hsp] at SP0;have SP:=hZq SP0;have HSP:=hZq hsp;clear hsp SP0
 have hq9:∀ W:World,(Op.intDiv .quo .i64 ((U:Nat):Int) ((n:Nat):Int)).run Tryz.prog W=.ok (.int .i64 ((md:Nat):Int)) W:=fun W=>by
  have h0:n≠0:=by omega
  have h1:IntKind.i64.wrap ((md:Nat):Int)=((md:Nat):Int):=wrap_id22 (by omega) (by omega);simp [Op.intDiv,h0,hdv,h1]
 have hw9:Hid (wrap64 (((U:Nat):Int) / ((n:Nat):Int))=((md:Nat):Int)):=by
  show _=_
  rw [hdv];unfold wrap64;omega
 clear hdv
 go_wp2_with fail
 rw [hw9.out];refine SP.out.mono ?_;rintro en w8 ⟨rfl,hg8⟩;have X8:=hZq (heap_kept X6.out hg8);have XR8:=hZq (heap_kept XR6.out hg8);have G8:=hZq (gZq G6.out hg8);clear hg8 c1 c2 c6 f6 SP X6 XR6 G6 hq9;have c6:=cell_heap (i:=6) X8.out rfl;have f6:=frozen_of_row w8 B 6 _ _ X8.out;go_upto_region 5 with fail
 have X9:=hZq (heap_setCell_same w8 B 6 _ _ (.float .f64 sp) X8.out);have gg:=grown_cell w8 B 6 (.float .f64 sp);have G9:Hid (w.grownBy (w8.setCell ⟨B,6,none⟩ (.float .f64 sp)) none):=grown_new G8.out gg (by have:=HBL.out;have:=HR.out;omega);have XR9:=hZq ((gg.block R (Array.getElem?_eq_some_iff.1 XR8.out).1 (by have:=HRB.out;simpa using this)).trans XR8.out);clear gg c6 f6 X8 XR8 G8;generalize w8.setCell ⟨B,6,none⟩ (.float .f64 sp)=w9 at *;have c0:=cell_heap (i:=0) X9.out rfl;have c1:=cell_heap (i:=1) X9.out rfl;have c2:=cell_heap (i:=2) X9.out rfl;have c3:=cell_heap (i:=3) X9.out rfl;have c4:=cell_heap (i:=4) X9.out rfl;have c5:=cell_heap (i:=5) X9.out rfl;have c6:=cell_heap (i:=6) X9.out rfl
 go_wp2_with (refine wpList_store_row22 rfl _ _ _ rfl R #[.int .i64 lv,.int .i64 (n:Nat),.int .i64 (U:Nat),.int .i64 (mn:Nat),.int .i64 (mx:Nat),.float .f64 (quW U (n*4092)),.float .f64 sp] _ rfl rfl 44 XR9.out (by rw [size_slevel];rfl) rfl (by simp [Value.oneCell']) ?_)
 have YR:=setRow_heap w9 R _ #[.int .i64 lv,.int .i64 (n:Nat),.int .i64 (U:Nat),.int .i64 (mn:Nat),.int .i64 (mx:Nat),.float .f64 (quW U (n*4092)),.float .f64 sp] _ _ XR9.out;refine bodyPost_ret (ret_slevel rfl _ _ R _ _ _ _ _ _ _ rfl YR) rfl ?_;refine ⟨?_,grown_new G9.out (grown_setRow22 w9 R _) (by have:=HR.out;omega)⟩;obtain ⟨h1,h2,h3⟩:=HE.out;unfold lvlV;rw [h1,h2,h3,HXL.out,HMD.out,HSP.out]
theorem atL_len (xs:List NoT)(i:Nat):(atL xs i).length<=xs.length:=List.length_filter_le _ _
theorem atLevel_any (a:Option Addr)(n c:Nat)(xs:List NoT)(lv:Nat)(w:World)(hl:SnL w a n c xs)(hn:n<=100000)(hv:lv<=1000000)(hz:∀ x∈xs,SzN x) :
  Calls Tryz.prog 43 #[.slice a n c,.int .i64 (lv:Nat)] w fun en w'=>(∃ a' c',en=.returned (.slice a' (atL xs lv).length c')/\SnL w' a' (atL xs lv).length c' (atL xs lv))/\w.grownBy w' none:=by
 have HL:=hZq hl;have HZ:=hZq hz;have HXL:Hid (xs.length=n):=hl.1;obtain ⟨q,hq⟩:∃ q,w.heap.size=q:=⟨_,rfl⟩;have HQ:=hZq hq;clear hl hz hq;go_enter Tryz.func43,Tryz.ntmps43
 go_wp2_with fail
 go_loopw [5,10] (fun sl si wr=>∃ (k:Nat),k<=n/\si=.int .i64 (k:Nat)/\SnO w wr q sl (atL (xs.take k) lv)/\w.grownBy wr none) (fun _ si _=>n - (intOf si).toNat)
 case atStart=>exact ⟨0,Nat.zero_le _,rfl,SnO.nil _ _ _,World.grownBy.refl _ _⟩
 case round =>
  obtain ⟨k,hk,rfl,hsn,hg⟩:=hrel;have HO:=hZq hsn;have HG:=hZq hg;obtain ⟨al,cl,rfl⟩:=hsn.shape;clear hsn hg
  by_cases hlt:k<n
  ·obtain ⟨x,hx⟩:∃ x,xs[k]?=some x:=⟨_,List.getElem?_eq_getElem (by have:=HXL.out;omega)⟩
   obtain ⟨b,off,pa,pc,ca,cn,cc,sa,sc,ka,kn,kc,rfl,x0,x1,x2,x3,x4,x5,x6,xv⟩:=HL.out.get hx;replace x0:=HG.out.cell x0 (by simp);replace x1:=HG.out.cell x1 (by simp);replace x2:=HG.out.cell x2 (by simp);replace x3:=HG.out.cell x3 (by simp);replace x4:=HG.out.cell x4 (by simp);replace x5:=HG.out.cell x5 (by simp);replace x6:=HG.out.cell x6 (by simp);have HEV:Hid (EvX w [.int .i64 x.no,.int .i64 (x.lv:Int),.slice pa x.ps.length pc,.slice ca cn cc,.slice sa x.ss.length sc,.slice ka kn kc,.int .i64 (nsz x:Nat)] x):=⟨pa,pc,ca,cn,cc,sa,sc,ka,kn,kc,rfl,xv⟩;have HT:=hZq (atL_take hx lv)
   have HTL:Hid ((atL (xs.take k) lv).length<=100000):=by
    have h1:=atL_len (xs.take k) lv;have h2:=HXL.out;rw [List.length_take] at h1
    show _<=_
    omega
   have hxl:=(HZ.out x (List.mem_of_getElem? hx)).lv;clear hx xv;obtain ⟨xl,hxl2⟩:∃ l,x.lv=l:=⟨_,rfl⟩;rw [hxl2] at x1 HEV HT hxl;clear hxl2;generalize x.ps.length=pn at *;generalize x.ss.length=sn at *;generalize x.no=no at *;generalize ((nsz x:Nat):Int)=sz at *;have g1:(0:Int)<=(k:Int):=by omega
   have g2:(k:Int)<(n:Int):=by omega
   have ga:=World.grownBy_alloc wr (.cells #[.int .i64 no,.int .i64 (xl:Nat),.slice pa pn pc,.slice ca cn cc,.slice sa sn sc,.slice ka kn kc,.int .i64 sz] 80) none;have X2:=hZq (heap_at0 wr #[.int .i64 no,.int .i64 (xl:Nat),.slice pa pn pc,.slice ca cn cc,.slice sa sn sc,.slice ka kn kc,.int .i64 sz] 80);have GA:=hZq ga;clear ga;go_upto_region 5 with fail
   generalize wr.alloc (.cells #[.int .i64 no,.int .i64 (xl:Nat),.slice pa pn pc,.slice ca cn cc,.slice sa sn sc,.slice ka kn kc,.int .i64 sz] 80)=w2 at *;obtain ⟨B,hB⟩:∃ B,wr.heap.size=B:=⟨_,rfl⟩;rw [hB] at X2 ⊢;clear hB x0 x1 x2 x3 x4 x5 x6;have HO2:=hZq (HO.out.kept GA.out);have HGA:=hZq (gZq HG.out GA.out);have d0:=cell_heap (i:=0) X2.out rfl;have d1:=cell_heap (i:=1) X2.out rfl;have d2:=cell_heap (i:=2) X2.out rfl;have d3:=cell_heap (i:=3) X2.out rfl;have d4:=cell_heap (i:=4) X2.out rfl;have d5:=cell_heap (i:=5) X2.out rfl;have d6:=cell_heap (i:=6) X2.out rfl
   by_cases he:xl=lv
   ·subst he
    rw [if_pos rfl] at HT;go_upto_region 6 with fail
    go_wp2_with (refine wpList_append_sn rfl (.tmp 19) (.tmp 21) (by rfl) w q _ _ (by rfl) (HO2.out.kept (World.grownBy_alloc w2 _ none)) x _ HEV.out w2.heap.size (heap_at0 w2 _ _) (by rfl) (by have:=HTL.out;omega) (by have h1:=HGA.out.size;rw [HQ.out] at h1;exact Nat.le_trans h1 (World.grownBy_alloc w2 _ none).size) ?_)
    intro v4 w4 ho4 hg4;have O4:=hZq ho4;have G4:Hid (w.grownBy w4 none):=grown_ownN (gZq HGA.out (World.grownBy_alloc w2 (.cells #[.int .i64 no,.int .i64 (xl:Nat),.slice pa pn pc,.slice ca cn cc,.slice sa sn sc,.slice ka kn kc,.int .i64 sz] 80) none)) hg4 (fun g e=>by rw [HQ.out];exact HO2.out.low g e);obtain ⟨a4,c4,hv4⟩:=ho4.shape;subst hv4;clear ho4 hg4;go_wp2;go_roundw
    case rel=>exact ⟨k+1,by omega,by go_num,by rw [HT.out];exact O4.out,G4.out⟩
    case measure=>simp [intOf];omega
   ·rw [if_neg he,List.append_nil] at HT
    have he2:((xl:Int)==(lv:Int))=false:=by simp;omega
    go_wp2;go_roundw
    case rel=>exact ⟨k+1,by omega,by go_num,by rw [HT.out];exact HO2.out,HGA.out⟩
    case measure=>simp [intOf];omega
  ·obtain rfl:k=n:=by omega
   have e:xs.take k=xs:=by rw [<- HXL.out,List.take_length]
   rw [e] at HO ⊢;obtain ⟨a',c',e1,e2⟩:=HO.out.fin (CeF.of HG.out);injection e1 with q1 _ q3
   subst q1 q3;have E2:=hZq e2;clear e2;go_wp2;go_ret;exact ⟨⟨_,_,rfl,E2.out⟩,HG.out⟩
structure TrS (t:Option TrT):Prop where
 ok:OkO t
 ck:ChkO t
 sz:∀ x∈tellO t,SzN x
 ln:(tellO t).length<=100000
 hi:highO t<=1000000
 lo:∀ i,i<highO t->atL (tellO t) i≠[]
 lv:∀ x∈tellO t,x.lv<highO t
def lfZ (t:Option TrT):List Int:=(atL (tellO t) 0).map fun x=>((nsz x:Nat):Int)
theorem lfz_len (t:Option TrT):(lfZ t).length=(atL (tellO t) 0).length:=List.length_map _
theorem leafSizes_any (t:Option TrT)(p:Nat)(w:World)(ht:TreeT w p t)(h:TrS t) :
  Calls Tryz.prog 46 #[.pointer (some ⟨p,0,none⟩)] w fun en w'=>∃ v b,en=.returned v/\w.heap.size<=b/\ChS w' b v (lfZ t)/\w.grownBy w' none:=by
 have HN:=hZq (nodesOf_any t p w ht h.ok h.ck h.sz h.ln h.hi);have HLN:=hZq h.ln;have HZ:=hZq h.sz;clear ht h;go_enter Tryz.func46,Tryz.ntmps46
 go_wp2_with fail
 refine HN.out.mono ?_;rintro en w1 ⟨⟨a1,c1,rfl,hl1⟩,hg1⟩;have AT:=hZq (atLevel_any a1 _ c1 (tellO t) 0 w1 hl1 HLN.out (by omega) HZ.out);have G1:=hZq hg1;clear hl1 hg1 HN
 go_wp2_with fail
 refine AT.out.mono ?_;rintro en w2 ⟨⟨a2,c2,rfl,hl2⟩,hg2⟩;have HL:=hZq hl2;have G2:=hZq (gZq G1.out hg2);have HM:Hid ((atL (tellO t) 0).length<=100000):=Nat.le_trans (atL_len _ _) HLN.out;clear hl2 hg2 AT G1;obtain ⟨q,hq⟩:∃ q,w2.heap.size=q:=⟨_,rfl⟩;have HQ:=hZq hq;clear hq;have HLF:Hid (lfZ t=(atL (tellO t) 0).map fun x=>((nsz x:Nat):Int)):=rfl;generalize atL (tellO t) 0=L at *;obtain ⟨m,hm⟩:∃ m,L.length=m:=⟨_,rfl⟩;have HLL:=hZq hm;rw [hm] at HL HM ⊢;clear hm;have hmb:=HM.out
 go_wp2_with fail
 go_loopw [3,10] (fun sl si wr=>∃ (k:Nat),k<=m/\si=.int .i64 (k:Nat)/\ChS wr q sl ((L.take k).map fun x=>((nsz x:Nat):Int))/\w2.grownBy wr none) (fun _ si _=>m - (intOf si).toNat)
 case atStart=>exact ⟨0,Nat.zero_le _,rfl,.inl ⟨rfl,none,rfl⟩,World.grownBy.refl _ _⟩
 case round =>
  obtain ⟨k,hk,rfl,hch,hg⟩:=hrel;have HC:=hZq hch;have HG:=hZq hg;obtain ⟨al,cl,rfl⟩:=hch.shape;clear hch hg
  by_cases hlt:k<m
  ·obtain ⟨x,hx⟩:∃ x,L[k]?=some x:=⟨_,List.getElem?_eq_getElem (by have:=HLL.out;omega)⟩
   obtain ⟨b,off,pa,pc,ca,cn,cc,sa,sc,ka,kn,kc,rfl,x0,x1,x2,x3,x4,x5,x6,xv⟩:=HL.out.get hx;replace x0:=HG.out.cell x0 (by simp);replace x1:=HG.out.cell x1 (by simp);replace x2:=HG.out.cell x2 (by simp);replace x3:=HG.out.cell x3 (by simp);replace x4:=HG.out.cell x4 (by simp);replace x5:=HG.out.cell x5 (by simp);replace x6:=HG.out.cell x6 (by simp);have HT:Hid ((L.take (k+1)).map (fun x=>((nsz x:Nat):Int))=(L.take k).map (fun x=>((nsz x:Nat):Int))++[((nsz x:Nat):Int)]):=by show _=_;rw [List.take_add_one,hx,List.map_append];rfl
   have HTL:Hid (((L.take k).map (fun x=>((nsz x:Nat):Int))).length<=100000):=by
    show _<=_
    rw [List.length_map,List.length_take];omega
   clear hx xv;generalize (L.take k).map (fun x=>((nsz x:Nat):Int))=zs at *;generalize x.ps.length=pn at *;generalize x.ss.length=sn at *;generalize x.no=no at *;generalize (x.lv:Int)=xl at *;generalize ((nsz x:Nat):Int)=sz at *;have g1:(0:Int)<=(k:Int):=by omega
   have g2:(k:Int)<(m:Int):=by omega
   have ga:=World.grownBy_alloc wr (.cells #[.int .i64 no,.int .i64 xl,.slice pa pn pc,.slice ca cn cc,.slice sa sn sc,.slice ka kn kc,.int .i64 sz] 80) none;have X2:=hZq (heap_at0 wr #[.int .i64 no,.int .i64 xl,.slice pa pn pc,.slice ca cn cc,.slice sa sn sc,.slice ka kn kc,.int .i64 sz] 80);have GA:=hZq ga;clear ga;go_upto_region 5 with fail
   generalize wr.alloc (.cells #[.int .i64 no,.int .i64 xl,.slice pa pn pc,.slice ca cn cc,.slice sa sn sc,.slice ka kn kc,.int .i64 sz] 80)=w3 at *;obtain ⟨B,hB⟩:∃ B,wr.heap.size=B:=⟨_,rfl⟩;rw [hB] at X2 ⊢;clear hB x0 x1 x2 x3 x4 x5 x6;have HGA:=hZq (gZq HG.out GA.out);have HC2:=hZq (HC.out.kept GA.out (fun g e=>by cases e));have HS3:Hid (q<=w3.heap.size):=by have h1:=HGA.out.size;rw [HQ.out] at h1;exact h1
   have d6:=cell_heap (i:=6) X2.out rfl
   go_wp2_with (refine wpList_more rfl (.tmp 14) (.tmp 17) (by rfl) (base:=q) (z:=sz) (N:=w3.heap.size) (by rfl) (by rfl) (HC2.out.kept (World.grownBy_alloc w3 (.cells #[.int .i64 sz] 3) none) (fun g e=>by cases e)) (cell_heap (i:=0) (heap_at0 w3 #[.int .i64 sz] 3) rfl) (by have:=HTL.out;omega) (Nat.le_trans HS3.out (World.grownBy_alloc w3 _ none).size) ?_)
   intro v4 w4 row ho4 hg4 hr4;have O4:=hZq ho4;have G4:Hid (w2.grownBy w4 none):=grown_ownN (gZq HGA.out (World.grownBy_alloc w3 (.cells #[.int .i64 sz] 3) none)) hg4 (fun g e=>by rw [HQ.out];exact (hr4 g e).1);obtain ⟨a4,c4,hv4⟩:=ho4.shape;subst hv4;clear ho4 hg4;go_wp2;go_roundw
   case rel=>exact ⟨k+1,by omega,by go_num,by rw [HT.out];exact O4.out,G4.out⟩
   case measure=>simp [intOf];omega
  ·obtain rfl:k=m:=by omega
   have e:L.take k=L:=by rw [<- HLL.out,List.take_length]
   rw [e,<- HLF.out] at HC ⊢;go_wp2;go_ret;exact ⟨_,q,rfl,by have:=HQ.out;have:=G2.out.size;omega,HC.out,gZq G2.out HG.out⟩
def kyN (x:NoT):Nat:=x.ps.length
theorem ch_le65 {n:Nat}(h:n<=262144):chN n<=65:=by
 unfold chN
 split <;> omega
theorem kb_le {x:NoT}(h:SzN x):kbN x<=521730:=by
 have h1:=sumT_bound22 (f:=fun p:PrT=>p.key.length) (c:=255) x.ps (fun p hp=>(h.pv p hp).1);have h2:=h.pn;unfold kbN;omega
theorem vb_le {x:NoT}(h:SzN x):vbN x<=536346624:=by
 have h1:=sumT_bound22 (f:=fun p:PrT=>p.val.length) (c:=262144) x.ps (fun p hp=>(h.pv p hp).2.1);have h2:=h.pn;unfold vbN;omega
theorem pg_le {x:NoT}(h:SzN x):pgN x<=132991:=by
 have h1:=sumT_bound22 (f:=fun p:PrT=>chN p.val.length) (c:=65) x.ps (fun p hp=>ch_le65 (h.pv p hp).2.1);have h2:=h.pn;unfold pgN;omega
theorem us_le {x:NoT}(h:SzN x):usN x<=536350716:=by
 have h1:=sumT_bound22 (f:=fun p:PrT=>if 512<p.val.length then p.val.length else 0) (c:=262144) x.ps (fun p hp=>Nat.le_trans (ite_le22 _) (h.pv p hp).2.1);have h2:=h.pn;have h3:=h.hi;unfold usN;omega
def gO:Nat->NoT->Nat
 | 0=>kyN
 | 1=>kbN
 | 2=>vbN
 | 3=>pgN
 | _=>usN
theorem gO_le {x:NoT}(h:SzN x):∀ i,gO i x<=536350716
 | 0=>Nat.le_trans h.pn (by decide)
 | 1=>Nat.le_trans (kb_le h) (by decide)
 | 2=>Nat.le_trans (vb_le h) (by decide)
 | 3=>Nat.le_trans (pg_le h) (by decide)
 | _+4=>us_le h
def sumV (xs:List NoT):Array Value:=#[.int .i64 (sumT kyN xs:Nat),.int .i64 (sumT kbN xs:Nat),.int .i64 (sumT vbN xs:Nat),.int .i64 (sumT pgN xs:Nat),.int .i64 (sumT usN xs:Nat),.float .f64 (if sumT pgN xs=0 then 0 else quW (sumT usN xs) (sumT pgN xs*4092))]
theorem size_ssum:(Tryz.prog.info? 28).map (fun i=>i.size)=some 6:=by kernel_rfl
theorem ret_ssum {fn:Func}{p:Tmp}(h:fn.results=#[.cell p 28])(tmps:Array Value)(w:World)(g:Nat)(x0 x1 x2 x3 x4 x5:Value)(hp:tmps.getD p undef=.pointer (some ⟨g,0,none⟩))(hr:w.heap[g]?=some (.cells #[x0,x1,x2,x3,x4,x5] 28 (0,0))) :
  (results fn tmps).run Tryz.prog w=.ok (.agg #[x0,x1,x2,x3,x4,x5]) w:=by
 have hp':tmps[p]?.getD undef=.pointer (some ⟨g,0,none⟩):=by simpa using hp
 simp [results,h,hp',asAddr,run_loadVar_row w g 28 28 #[x0,x1,x2,x3,x4,x5] (0,0) _ hr Tryz.underlying28 rfl (by rw [size_ssum];rfl)]
theorem of_any (t:Option TrT)(p:Nat)(w:World)(ht:TreeT w p t)(h:TrS t) :
  Calls Tryz.prog 11 #[.pointer (some ⟨p,0,none⟩)] w fun en w'=>en=.returned (.agg (sumV (tellO t)))/\w.grownBy w' none:=by
 have HN:=hZq (fun (W:World) (hW:w.grownBy W none)=>nodesOf_any t p W (ht.kept (FrT.of hW)) h.ok h.ck h.sz h.ln h.hi);have HZ:=hZq h.sz;have HLN:=hZq h.ln;clear ht h;generalize tellO t=xs at *;obtain ⟨n,hn⟩:∃ n,xs.length=n:=⟨_,rfl⟩;have HXL:=hZq hn;rw [hn] at HLN HN;have hn2:=HLN.out;clear hn;have hsf:=store_f22;go_enter Tryz.func11,Tryz.ntmps11;go_upto_region 2 with fail
 have ga1:=World.grownBy_alloc w (.cells #[.int .i64 0,.int .i64 0,.int .i64 0,.int .i64 0,.int .i64 0,.float .f64 0] 28) none;have ga2:=World.grownBy_alloc (w.alloc (.cells #[.int .i64 0,.int .i64 0,.int .i64 0,.int .i64 0,.int .i64 0,.float .f64 0] 28)) (.cells #[.int .i64 0,.int .i64 0,.int .i64 0,.int .i64 0,.int .i64 0,.float .f64 0] 28) none;have GA:=hZq (gZq ga1 ga2);have XRa:=hZq (heap_kept (heap_at0 w #[.int .i64 0,.int .i64 0,.int .i64 0,.int .i64 0,.int .i64 0,.float .f64 0] 28) ga2);have XBa:=hZq (heap_at0 (w.alloc (.cells #[.int .i64 0,.int .i64 0,.int .i64 0,.int .i64 0,.int .i64 0,.float .f64 0] 28)) #[.int .i64 0,.int .i64 0,.int .i64 0,.int .i64 0,.int .i64 0,.float .f64 0] 28);have HSZ:Hid ((w.alloc (.cells #[.int .i64 0,.int .i64 0,.int .i64 0,.int .i64 0,.int .i64 0,.float .f64 0] 28)).heap.size=w.heap.size+1):=by show _=_;simp
 rw [HSZ.out] at XBa;clear ga1 ga2;generalize (w.alloc (.cells #[.int .i64 0,.int .i64 0,.int .i64 0,.int .i64 0,.int .i64 0,.float .f64 0] 28)).alloc (.cells #[.int .i64 0,.int .i64 0,.int .i64 0,.int .i64 0,.int .i64 0,.float .f64 0] 28)=wa at *;obtain ⟨B,hB⟩:∃ B,w.heap.size+1=B:=⟨_,rfl⟩;have HRB:Hid (w.heap.size≠B):=by show _≠_;omega
 have HBL:Hid (w.heap.size<=B):=by show _<=_;omega
 rw [hB] at XBa ⊢;clear hB HSZ;generalize hR:w.heap.size=R at *;have HR:=hZq hR;clear hR
 go_wp2_with fail
 refine (HN.out wa GA.out).mono ?_;rintro en w0 ⟨⟨a0,c0,rfl,hl0⟩,hg0⟩;have HL0:=hZq hl0;have G0:=hZq (gZq GA.out hg0);have XR0:=hZq (heap_kept XRa.out hg0);have XB0:=hZq (heap_kept XBa.out hg0);clear hl0 hg0 HN GA XRa XBa
 go_wp2_with fail
 refine (added_any B 0 32 #[] w0).mono ?_;rintro en w1 ⟨b0,rfl,hb,hg⟩;have HB0:=hZq hb;have HL1:=hZq (HL0.out.cef (CeF.of hg));have G1:=hZq (gZq G0.out hg);have XR1:=hZq (heap_kept XR0.out hg);have XB1:=hZq (heap_kept XB0.out hg);clear hb hg HL0 G0 XR0 XB0
 go_wp2_with fail
 refine (added_any B 1 33 #[] w1).mono ?_;rintro en w2 ⟨b1,rfl,hb,hg⟩;have HB1:=hZq hb;replace HB0:=hZq (hg.cell HB0.out (by simp));have HL2:=hZq (HL1.out.cef (CeF.of hg));have G2:=hZq (gZq G1.out hg);have XR2:=hZq (heap_kept XR1.out hg);have XB2:=hZq (heap_kept XB1.out hg);clear hb hg HL1 G1 XR1 XB1
 go_wp2_with fail
 refine (added_any B 2 34 #[] w2).mono ?_;rintro en w3 ⟨b2,rfl,hb,hg⟩;have HB2:=hZq hb;replace HB0:=hZq (hg.cell HB0.out (by simp));replace HB1:=hZq (hg.cell HB1.out (by simp));have HL3:=hZq (HL2.out.cef (CeF.of hg));have G3:=hZq (gZq G2.out hg);have XR3:=hZq (heap_kept XR2.out hg);have XB3:=hZq (heap_kept XB2.out hg);clear hb hg HL2 G2 XR2 XB2
 go_wp2_with fail
 refine (added_any B 3 35 #[] w3).mono ?_;rintro en w4 ⟨b3,rfl,hb,hg⟩;have HB3:=hZq hb;replace HB0:=hZq (hg.cell HB0.out (by simp));replace HB1:=hZq (hg.cell HB1.out (by simp));replace HB2:=hZq (hg.cell HB2.out (by simp));have HL4:=hZq (HL3.out.cef (CeF.of hg));have G4:=hZq (gZq G3.out hg);have XR4:=hZq (heap_kept XR3.out hg);have XB4:=hZq (heap_kept XB3.out hg);clear hb hg HL3 G3 XR3 XB3
 go_wp2_with fail
 refine (added_any B 4 36 #[] w4).mono ?_;rintro en w5 ⟨b4,rfl,hb,hg⟩;have HB4:=hZq hb;replace HB0:=hZq (hg.cell HB0.out (by simp));replace HB1:=hZq (hg.cell HB1.out (by simp));replace HB2:=hZq (hg.cell HB2.out (by simp));replace HB3:=hZq (hg.cell HB3.out (by simp));have HL5:=hZq (HL4.out.cef (CeF.of hg));have G5:=hZq (gZq G4.out hg);have XR5:=hZq (heap_kept XR4.out hg);have XB5:=hZq (heap_kept XB4.out hg);clear hb hg HL4 G4 XR4 XB4
 go_wp2_with fail
 have ga:=World.grownBy_alloc w5 (.cells #[.pointer (some ⟨B,0,none⟩),.func (.func 60) #[] #[.pointer (some ⟨b0,0,none⟩)],.pointer (some ⟨B,1,none⟩),.func (.func 60) #[] #[.pointer (some ⟨b1,0,none⟩)],.pointer (some ⟨B,2,none⟩),.func (.func 60) #[] #[.pointer (some ⟨b2,0,none⟩)],.pointer (some ⟨B,3,none⟩),.func (.func 60) #[] #[.pointer (some ⟨b3,0,none⟩)],.pointer (some ⟨B,4,none⟩),.func (.func 60) #[] #[.pointer (some ⟨b4,0,none⟩)]] 76) none;have XD:=hZq (heap_at0 w5 #[.pointer (some ⟨B,0,none⟩),.func (.func 60) #[] #[.pointer (some ⟨b0,0,none⟩)],.pointer (some ⟨B,1,none⟩),.func (.func 60) #[] #[.pointer (some ⟨b1,0,none⟩)],.pointer (some ⟨B,2,none⟩),.func (.func 60) #[] #[.pointer (some ⟨b2,0,none⟩)],.pointer (some ⟨B,3,none⟩),.func (.func 60) #[] #[.pointer (some ⟨b3,0,none⟩)],.pointer (some ⟨B,4,none⟩),.func (.func 60) #[] #[.pointer (some ⟨b4,0,none⟩)]] 76);replace HB0:=hZq (ga.cell HB0.out (by simp));replace HB1:=hZq (ga.cell HB1.out (by simp));replace HB2:=hZq (ga.cell HB2.out (by simp));replace HB3:=hZq (ga.cell HB3.out (by simp));replace HB4:=hZq (ga.cell HB4.out (by simp));have HL6:=hZq (HL5.out.cef (CeF.of ga));have G6:=hZq (gZq G5.out ga);have XR6:=hZq (heap_kept XR5.out ga);have XB6:=hZq (heap_kept XB5.out ga);clear ga HL5 G5 XR5 XB5;generalize w5.alloc (.cells #[.pointer (some ⟨B,0,none⟩),.func (.func 60) #[] #[.pointer (some ⟨b0,0,none⟩)],.pointer (some ⟨B,1,none⟩),.func (.func 60) #[] #[.pointer (some ⟨b1,0,none⟩)],.pointer (some ⟨B,2,none⟩),.func (.func 60) #[] #[.pointer (some ⟨b2,0,none⟩)],.pointer (some ⟨B,3,none⟩),.func (.func 60) #[] #[.pointer (some ⟨b3,0,none⟩)],.pointer (some ⟨B,4,none⟩),.func (.func 60) #[] #[.pointer (some ⟨b4,0,none⟩)]] 76)=w6 at *;generalize w5.heap.size=D at *
 have hlim:∀ i,∀ x∈xs,(1152921504606846976:Int)+((gO i x:Nat):Int)<=4611686018427387904:=fun i x hx=>by
  have:=gO_le (HZ.out x hx) i;omega
 have ht:TlyL w6 (some ⟨D,0,none⟩) B 0 xs 1152921504606846976 (fun i x z=>z+((gO i x:Nat):Int)) 5:=fun i hi=>by
  match i,hi with
  | 0,_=>exact ⟨D,0,_,rfl,cell_heap (i:=0) XD.out rfl,cell_heap (i:=1) XD.out rfl,fn_added w6 B b0 32 #[] xs _ kyN HB0.out (enter22 Tryz.func32 (by kernel_rfl) rfl) (fun W x pa pc ca cn cc sa sc ka kn kc hx hg hv=>keys_any x pa pc ca cn cc sa sc ka kn kc W hv (HZ.out x hx)) (hlim 0)⟩
  | 1,_=>exact ⟨D,0,_,rfl,cell_heap (i:=2) XD.out rfl,cell_heap (i:=3) XD.out rfl,fn_added w6 B b1 33 #[] xs _ kbN HB1.out (enter22 Tryz.func33 (by kernel_rfl) rfl) (fun W x pa pc ca cn cc sa sc ka kn kc hx hg hv=>keyBytes_any x pa pc ca cn cc sa sc ka kn kc W hv (HZ.out x hx)) (hlim 1)⟩
  | 2,_=>exact ⟨D,0,_,rfl,cell_heap (i:=4) XD.out rfl,cell_heap (i:=5) XD.out rfl,fn_added w6 B b2 34 #[] xs _ vbN HB2.out (enter22 Tryz.func34 (by kernel_rfl) rfl) (fun W x pa pc ca cn cc sa sc ka kn kc hx hg hv=>valueBytes_any x pa pc ca cn cc sa sc ka kn kc W hv (HZ.out x hx)) (hlim 2)⟩
  | 3,_=>exact ⟨D,0,_,rfl,cell_heap (i:=6) XD.out rfl,cell_heap (i:=7) XD.out rfl,fn_added w6 B b3 35 #[] xs _ pgN HB3.out (enter22 Tryz.func35 (by kernel_rfl) rfl) (fun W x pa pc ca cn cc sa sc ka kn kc hx hg hv=>pages_any22 x pa pc ca cn cc sa sc ka kn kc W hv (HZ.out x hx)) (hlim 3)⟩
  | 4,_=>exact ⟨D,0,_,rfl,cell_heap (i:=8) XD.out rfl,cell_heap (i:=9) XD.out rfl,fn_added w6 B b4 36 #[] xs _ usN HB4.out (enter22 Tryz.func36 (by kernel_rfl) rfl) (fun W x pa pc ca cn cc sa sc ka kn kc hx hg hv=>used_any22 x pa pc ca cn cc sa sc ka kn kc W hv (HZ.out x hx)) (hlim 4)⟩
 have hzz:StZ w6 B 28 6 0 5 (fun _=>0) #[.int .i64 0,.int .i64 0,.int .i64 0,.int .i64 0,.int .i64 0,.float .f64 0]:=by
  refine ⟨⟨#[.int .i64 0,.int .i64 0,.int .i64 0,.int .i64 0,.int .i64 0,.float .f64 0],XB6.out,rfl,?_,fun j _=>rfl,?_⟩,by omega⟩
  ·intro i hi
   match i,hi with
   | 0,_=>rfl
   | 1,_=>rfl
   | 2,_=>rfl
   | 3,_=>rfl
   | 4,_=>rfl
  ·intro v hv
   simp only [List.mem_toArray,List.mem_cons,List.not_mem_nil,or_false] at hv;rcases hv with rfl | rfl | rfl | rfl | rfl | rfl <;> rfl
 have HSM:Hid (∀ i k,sumT (gO i) (xs.take k)<=53635071600000):=fun i k=>by
  have h1:=sumT_lim (g:=gO i) (c:=536350716) (fun x hx=>gO_le (HZ.out x hx) i) k;have h2:=HXL.out;rw [h2] at h1;have h3:=Nat.mul_le_mul_right 536350716 hn2;exact Nat.le_trans h1 h3
 have hb:∀ i,i<5->∀ k,k<=n->0<=fdN (fun x z=>z+((gO i x:Nat):Int)) (xs.take k) 0/\fdN (fun x z=>z+((gO i x:Nat):Int)) (xs.take k) 0<=1152921504606846976:=fun i _ k _=>by
  rw [fdN_add];have h1:=HSM.out i k;omega
 refine (count_any a0 n c0 xs (some ⟨D,0,none⟩) 5 5 B 28 6 0 (fun _=>0) #[.int .i64 0,.int .i64 0,.int .i64 0,.int .i64 0,.int .i64 0,.float .f64 0] (fun i x z=>z+((gO i x:Nat):Int)) 1152921504606846976 w6 HL6.out ht hzz (by decide) (by omega) (by omega) hb).mono ?_;rintro en w7 ⟨rfl,hz7,hg7⟩
 have X7:Hid (w7.heap[B]?=some (.cells #[.int .i64 (sumT kyN xs:Nat),.int .i64 (sumT kbN xs:Nat),.int .i64 (sumT vbN xs:Nat),.int .i64 (sumT pgN xs:Nat),.int .i64 (sumT usN xs:Nat),.float .f64 0] 28 (0,0))):=by
  obtain ⟨cs,h1,h2,h3,h4,_⟩:=hz7.ex;have e:∀ i,fdN (fun x z=>z+((gO i x:Nat):Int)) xs 0=((sumT (gO i) xs:Nat):Int):=fun i=>by rw [fdN_add];omega
  have a0:=h3 0 (by omega);have a1:=h3 1 (by omega);have a2:=h3 2 (by omega);have a3:=h3 3 (by omega);have a4:=h3 4 (by omega);rw [e] at a0 a1 a2 a3 a4;have:=arr6 h2 a0 a1 a2 a3 a4 (h4 5 (.inr (by omega)))
  show _=_
  rw [h1,this]
  rfl
 have G7:Hid (w.grownBy w7 none):=grown_new G6.out hg7 (by have:=HBL.out;have:=HR.out;omega);have XR7:Hid (w7.heap[R]?=some (.cells #[.int .i64 0,.int .i64 0,.int .i64 0,.int .i64 0,.int .i64 0,.float .f64 0] 28 (0,0))):=(hg7.block R (Array.getElem?_eq_some_iff.1 XR6.out).1 (by have:=HRB.out;simpa using this)).trans XR6.out;clear ht hzz hb hz7 hg7 XB6 XR6 G6 XD HB0 HB1 HB2 HB3 HB4 HL6 hlim
 have HPB:Hid (sumT pgN xs<=13299100000):=by
  have h1:=sumT_bound22 (f:=pgN) (c:=132991) xs (fun x hx=>pg_le (HZ.out x hx));have h2:=HXL.out;rw [h2] at h1;exact Nat.le_trans h1 (Nat.mul_le_mul_right 132991 hn2)
 have HUB:Hid (sumT usN xs<=53635071600000):=by
  have:=HSM.out 4 n;rw [<- HXL.out,List.take_length] at this;exact this
 clear HSM;obtain ⟨s0,h0⟩:∃ s,sumT kyN xs=s:=⟨_,rfl⟩;obtain ⟨s1,h1⟩:∃ s,sumT kbN xs=s:=⟨_,rfl⟩;obtain ⟨s2,h2⟩:∃ s,sumT vbN xs=s:=⟨_,rfl⟩;obtain ⟨s3,h3⟩:∃ s,sumT pgN xs=s:=⟨_,rfl⟩;obtain ⟨s4,h4⟩:∃ s,sumT usN xs=s:=⟨_,rfl⟩;rw [h0,h1,h2,h3,h4] at X7;rw [h3] at HPB;rw [h4] at HUB
 have HE:Hid (sumV xs=#[.int .i64 (s0:Nat),.int .i64 (s1:Nat),.int .i64 (s2:Nat),.int .i64 (s3:Nat),.int .i64 (s4:Nat),.float .f64 (if s3=0 then 0 else quW s4 (s3*4092))]):=by
  show _=_
  unfold sumV;rw [h0,h1,h2,h3,h4]
 clear h0 h1 h2 h3 h4;have hpb:=HPB.out;have hub:=HUB.out;have c3:=cell_heap (i:=3) X7.out rfl
 by_cases hs3:0<s3
 ·have g3:(0:Int)<(s3:Int):=by omega
  have c4:=cell_heap (i:=4) X7.out rfl;have c5:=cell_heap (i:=5) X7.out rfl;have f5:=frozen_of_row w7 B 5 _ _ X7.out;have SH:=hZq (share_any s4 s3 w7 (by omega) hs3 (by omega));rw [if_neg (by omega)] at HE
  go_wp2_with fail
  refine SH.out.mono ?_;rintro en w8 ⟨rfl,rfl⟩;obtain ⟨qv,hqv⟩:∃ v,quW s4 (s3*4092)=v:=⟨_,rfl⟩;rw [hqv] at HE ⊢;clear hqv SH;go_upto_region 5 with fail
  have X8:=hZq (heap_setCell_same w8 B 5 _ _ (.float .f64 qv) X7.out);have gg:=grown_cell w8 B 5 (.float .f64 qv);have G8:Hid (w.grownBy (w8.setCell ⟨B,5,none⟩ (.float .f64 qv)) none):=grown_new G7.out gg (by have:=HBL.out;have:=HR.out;omega);have XR8:=hZq ((gg.block R (Array.getElem?_eq_some_iff.1 XR7.out).1 (by have:=HRB.out;simpa using this)).trans XR7.out);clear gg c3 c4 c5 f5 X7 XR7 G7;generalize w8.setCell ⟨B,5,none⟩ (.float .f64 qv)=w9 at *;have c0:=cell_heap (i:=0) X8.out rfl;have c1:=cell_heap (i:=1) X8.out rfl;have c2:=cell_heap (i:=2) X8.out rfl;have c3:=cell_heap (i:=3) X8.out rfl;have c4:=cell_heap (i:=4) X8.out rfl;have c5:=cell_heap (i:=5) X8.out rfl
  go_wp2_with (refine wpList_store_row22 rfl _ _ _ rfl R #[.int .i64 (s0:Nat),.int .i64 (s1:Nat),.int .i64 (s2:Nat),.int .i64 (s3:Nat),.int .i64 (s4:Nat),.float .f64 qv] _ rfl rfl 28 XR8.out (by rw [size_ssum];rfl) rfl (by simp [Value.oneCell']) ?_)
  have YR:=setRow_heap w9 R _ #[.int .i64 (s0:Nat),.int .i64 (s1:Nat),.int .i64 (s2:Nat),.int .i64 (s3:Nat),.int .i64 (s4:Nat),.float .f64 qv] _ _ XR8.out;refine bodyPost_ret (ret_ssum rfl _ _ R _ _ _ _ _ _ rfl YR) rfl ?_;exact ⟨by rw [HE.out],grown_new G8.out (grown_setRow22 w9 R _) (by have:=HR.out;omega)⟩
 ·obtain rfl:s3=0:=by omega
  rw [if_pos rfl] at HE;go_upto_region 5 with fail
  have X8:=X7;have G8:=G7;have XR8:=XR7;clear X7 XR7 G7 c3;generalize w7=w9 at *;have c0:=cell_heap (i:=0) X8.out rfl;have c1:=cell_heap (i:=1) X8.out rfl;have c2:=cell_heap (i:=2) X8.out rfl;have c3:=cell_heap (i:=3) X8.out rfl;have c4:=cell_heap (i:=4) X8.out rfl;have c5:=cell_heap (i:=5) X8.out rfl
  go_wp2_with (refine wpList_store_row22 rfl _ _ _ rfl R #[.int .i64 (s0:Nat),.int .i64 (s1:Nat),.int .i64 (s2:Nat),.int .i64 ((0:Nat):Int),.int .i64 (s4:Nat),.float .f64 0] _ rfl rfl 28 XR8.out (by rw [size_ssum];rfl) rfl (by simp [Value.oneCell']) ?_)
  have YR:=setRow_heap w9 R _ #[.int .i64 (s0:Nat),.int .i64 (s1:Nat),.int .i64 (s2:Nat),.int .i64 ((0:Nat):Int),.int .i64 (s4:Nat),.float .f64 0] _ _ XR8.out;refine bodyPost_ret (ret_ssum rfl _ _ R _ _ _ _ _ _ rfl YR) rfl ?_;exact ⟨by rw [HE.out],grown_new G8.out (grown_setRow22 w9 R _) (by have:=HR.out;omega)⟩
theorem info_slevel:(Tryz.prog.info? 44).map (fun i=>(i.zero,i.size,i.bytes))=some (some (.agg #[.int .i64 0,.int .i64 0,.int .i64 0,.int .i64 0,.int .i64 0,.float .f64 0,.float .f64 0]),7,56):=by kernel_rfl
def lvlE (xs:List NoT)(i:Nat):List Value:=[.int .i64 (i:Nat),.int .i64 ((atL xs i).length:Nat),.int .i64 (sumT nsz (atL xs i):Nat),.int .i64 (mnF (atL xs i) 4092:Nat),.int .i64 (mxF (atL xs i) 0:Nat),.float .f64 (quW (sumT nsz (atL xs i)) ((atL xs i).length*4092)),.float .f64 (spW (sumT (sqN (sumT nsz (atL xs i) / (atL xs i).length)) (atL xs i)) (atL xs i).length)]
def lvlsE (xs:List NoT)(h:Nat):List (List Value):=(List.range h).map (lvlE xs)
theorem lvls_step (xs:List NoT)(k:Nat):lvlsE xs (k+1)=lvlsE xs k++[lvlE xs k]:=by
 unfold lvlsE;rw [List.range_succ,List.map_append]
 rfl
theorem lvls_len (xs:List NoT)(k:Nat):(lvlsE xs k).length=k:=by
 unfold lvlsE;rw [List.length_map,List.length_range]
theorem levels_any (t:Option TrT)(p:Nat)(w:World)(ht:TreeT w p t)(h:TrS t) :
  Calls Tryz.prog 16 #[.pointer (some ⟨p,0,none⟩)] w fun en w'=>∃ g,en=.returned (.slice (some ⟨g,0,none⟩) (highO t) (highO t))/\w.heap.size<=g/\FlT w' g (highO t) 7 44 (lvlsE (tellO t) (highO t))/\w.grownBy w' none:=by
 obtain ⟨i0,hi,hz0,hz1,hz2⟩:=info_parts info_slevel;have HN:=hZq (nodesOf_any t p w ht h.ok h.ck h.sz h.ln h.hi);have HH:=hZq (fun (W:World) (hW:w.grownBy W none)=>height_any t p W (ht.kept (FrT.of hW)) h.ok h.hi);have HLN:=hZq h.ln;have HZ:=hZq h.sz;have HLO:=hZq h.lo;have hhi:=h.hi;clear ht h;generalize highO t=m at *;generalize tellO t=xs at *;have hsf:=store_f22;go_enter Tryz.func16,Tryz.ntmps16
 go_wp2_with fail
 refine HN.out.mono ?_;rintro en w1 ⟨⟨a1,c1,rfl,hl1⟩,hg1⟩;have HL1:=hZq hl1;have G1:=hZq hg1;clear hl1 hg1 HN
 go_wp2_with fail
 refine (HH.out _ G1.out).mono ?_;rintro en w2 ⟨rfl,hg2⟩;have HL2:=hZq (HL1.out.cef (CeF.of hg2));have G2:=hZq (gZq G1.out hg2);clear hg2 HL1 G1 HH
 go_wp2_with (at_make;refine wpList_make_full _ rfl _ _ 37 rfl w2.heap.size 44 i0 (.agg #[.int .i64 0,.int .i64 0,.int .i64 0,.int .i64 0,.int .i64 0,.float .f64 0,.float .f64 0]) 7 Tryz.underlying37 hi hz0 hz1 _ _ _ _ m rfl rfl rfl rfl ?b2 ?b3 (Nat.le_refl _) ?_)
 case b2=>rw [hz2];omega
 case b3=>unfold maxLen;omega
 intro w0 hown0 hgrow0;have F0:=hZq (FlT.start hown0);have G0:=hZq hgrow0;obtain ⟨g,hg0⟩:∃ g,w2.heap.size=g:=⟨_,rfl⟩;rw [hg0] at F0 ⊢;have HGS:=hZq hg0;clear hown0 hgrow0 hg0
 go_wp2_with fail
 go_loopw [13] (fun si wr=>∃ k:Nat,k<=m/\si=.int .i64 (k:Nat)/\FlT wr g m 7 44 (lvlsE xs k)/\w2.grownBy wr none) (fun si _=>m - (intOf si).toNat)
 case atStart=>exact ⟨0,Nat.zero_le _,rfl,F0.out,G0.out⟩
 case round =>
  obtain ⟨k,hk,rfl,hfl,hg⟩:=hrel;have HF:=hZq hfl;have HG:=hZq hg;have HS:=hZq (HL2.out.cef (CeF.of hg));clear hfl hg F0 G0
  by_cases hlt:k<m
  ·have i1:(k:Int)<(m:Int):=by omega
   have i0:(0:Int)<=(k:Int):=by omega
   go_wp2_with fail
   refine (atLevel_any a1 _ c1 xs k wr HS.out HLN.out (by omega) HZ.out).mono ?_;rintro en w3 ⟨⟨a3,c3,rfl,hl3⟩,hg3⟩;have HL3:=hZq hl3;have HF3:=hZq (HF.out.keptN hg3);have HS3:=hZq (HS.out.cef (CeF.of hg3));have G3:=hZq (gZq HG.out hg3);clear hl3 hg3 HF HS HG;have hne:0<(atL xs k).length:=List.length_pos_iff.2 (HLO.out k hlt);have hlen:(atL xs k).length<=100000:=Nat.le_trans (atL_len _ _) HLN.out;have HST:=hZq (lvls_step xs k);have HSE:Hid (lvlV (k:Int) (atL xs k)=(lvlE xs k).toArray):=rfl;have HLE:Hid (∃ v1 v2 v3 v4:Nat,∃ v5 v6:Nat,lvlE xs k=[.int .i64 (k:Nat),.int .i64 (v1:Nat),.int .i64 (v2:Nat),.int .i64 (v3:Nat),.int .i64 (v4:Nat),.float .f64 v5,.float .f64 v6]):=⟨_,_,_,_,_,_,rfl⟩;have LV:=hZq (levelOf_any a3 _ c3 (atL xs k) (k:Int) w3 HL3.out hne hlen (fun x hx=>HZ.out x (atL_mem hx)));obtain ⟨v1,v2,v3,v4,v5,v6,hle⟩:=HLE.out;have LV2:=LV.out;rw [HSE.out,hle] at LV2;have LV3:=hZq LV2;rw [hle] at HST;clear LV LV2 HSE HLE hle hne hlen HL3;have hll:=lvls_len xs k
   go_wp2_with fail
   refine LV3.out.mono ?_;rintro en w4 ⟨rfl,hg4⟩;have HF4:=hZq (HF3.out.keptN hg4);have HS4:=hZq (HS3.out.cef (CeF.of hg4));have G4:=hZq (gZq G3.out hg4);clear hg4 HF3 HS3 G3 LV3;have hfl:=HF4.out;obtain ⟨⟨y0,f0⟩,z0⟩:=hfl.cell (j:=k*7) (by omega);obtain ⟨⟨y1,f1⟩,z1⟩:=hfl.cell (j:=k*7+1) (by omega);obtain ⟨⟨y2,f2⟩,z2⟩:=hfl.cell (j:=k*7+2) (by omega);obtain ⟨⟨y3,f3⟩,z3⟩:=hfl.cell (j:=k*7+3) (by omega);obtain ⟨⟨y4,f4⟩,z4⟩:=hfl.cell (j:=k*7+4) (by omega);obtain ⟨⟨y5,f5⟩,z5⟩:=hfl.cell (j:=k*7+5) (by omega);obtain ⟨⟨y6,f6⟩,z6⟩:=hfl.cell (j:=k*7+6) (by omega);clear hfl;have HNX:=hZq (HF4.out.next (by rw [hll];exact hlt) [.int .i64 (k:Nat),.int .i64 (v1:Nat),.int .i64 (v2:Nat),.int .i64 (v3:Nat),.int .i64 (v4:Nat),.float .f64 v5,.float .f64 v6] rfl (by simp [Value.oneCell']));have GNX:=hZq (setL_grown (g:=g) [.int .i64 (k:Nat),.int .i64 (v1:Nat),.int .i64 (v2:Nat),.int .i64 (v3:Nat),.int .i64 (v4:Nat),.float .f64 v5,.float .f64 v6] w4 (k*7));rw [hll] at HNX;clear hll;go_wp2;go_roundw
   case rel=>exact ⟨k+1,by omega,by go_num,by rw [HST.out];exact HNX.out,grown_new G4.out GNX.out (Nat.le_of_eq HGS.out)⟩
   case measure=>simp [intOf];omega
  ·obtain rfl:k=m:=by omega
   go_wp2;go_ret;exact ⟨g,rfl,by have:=HGS.out;have:=G2.out.size;omega,HF.out,gZq G2.out HG.out⟩
end Go.Proofs.YteaahinjcfjngaaGreat
