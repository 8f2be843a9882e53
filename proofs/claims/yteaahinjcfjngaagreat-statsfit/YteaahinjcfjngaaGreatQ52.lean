import Derived.Test.YteaahinjcfjngaaGreatQ23
set_option maxRecDepth 100000
set_option maxHeartbeats 8000000
namespace Go.Proofs.YteaahinjcfjngaaGreat
open Go.RowKit
theorem mB_count0 (b:Nat)(w:World):(method 330 161 (.pointer (some ⟨b,0,none⟩)) "coppice/tree.count").run Tryz.prog w=(do let v <- loadVar 89 ⟨b,1,none⟩;pure (51,v):Sem (FuncId × Value)).run Tryz.prog w:=by kernel_rfl
theorem mB_count {b:Nat}{w:World}{a:Option Addr}{m c:Nat}{sa:Option Addr}{sm sc:Nat}(h1:w.cell? ⟨b,1,none⟩=some (.slice a m c))(h2:w.cell? ⟨b,2,none⟩=some (.slice sa sm sc)):(method 330 161 (.pointer (some ⟨b,0,none⟩)) "coppice/tree.count").run Tryz.prog w=.ok (51,.agg #[.slice a m c,.slice sa sm sc]) w:=by
 rw [mB_count0];simp [go_sem,h1,h2]
theorem lcount_any (b:Nat)(x:LfT)(w:World)(hx:NodeT 0 w (.iface 133 (.pointer (some ⟨b,0,none⟩))) x) :
  Calls Tryz.prog 166 #[.pointer (some ⟨b,0,none⟩)] w fun en w'=>en=.returned (.int .i64 x.ps.length)/\w=w':=by
 obtain ⟨b',a,m,c,e,hb,hp⟩:=hx;simp only [Value.iface.injEq,Value.pointer.injEq,Option.some.injEq,Addr.mk.injEq,true_and,and_true] at e;subst e;have k1:=cell_heap (i:=1) hb rfl;have hl:x.ps.length=m:=hp.len;rw [hl];clear hb hp hl;go_enter Tryz.func166,Tryz.ntmps166;go_wp2;go_ret;exact ⟨rfl,rfl⟩
def cntR (n:Nat)(L:List (NdT n)):Nat:=(L.flatMap (flatT n)).length
theorem cntR_take {n:Nat}{L:List (NdT n)}{k:Nat}{x:NdT n}(h:L[k]?=some x):cntR n (L.take (k+1))=cntR n (L.take k)+(flatT n x).length:=by
 unfold cntR;rw [List.take_add_one,h];simp
theorem cntR_le {n:Nat}(L:List (NdT n))(k:Nat):cntR n (L.take k)<=cntR n L:=by
 unfold cntR
 conv=>rhs;rw [<- List.take_append_drop k L]
 rw [List.flatMap_append,List.length_append];omega
def RcC (n:Nat):Prop:=∀ (L:List (NdT n)) (a:Option Addr) (m c:Nat) (sa:Option Addr) (sm sc:Nat) (w:World),NsT n w a m c L->m<=100000->cntR n L<=4611686018427387904->(∀ x∈L,OkT n x) ->
  Calls Tryz.prog 51 #[.agg #[.slice a m c,.slice sa sm sc]] w fun en w'=>en=.returned (.int .i64 (cntR n L))/\w.grownBy w' none
theorem rcount_L:RcC 0:=by
 intro L a m c sa sm sc w hr hm hq ox;have ln:=hr.len;have HR:=hZq hr;have OX:=hZq ox;have e0:=cell_heap (i:=0) (heap_at0 w #[.slice a m c,.slice sa sm sc] 89) rfl;have G1:=hZq (World.grownBy_alloc w (.cells #[.slice a m c,.slice sa sm sc] 89) none);clear hr ox;go_enter Tryz.func51,Tryz.ntmps51
 go_wp2_with fail
 go_loopw [3,9] (fun sn si wr=>∃ k:Nat,k<=m/\si=.int .i64 k/\sn=.int .i64 ((cntR 0 (L.take k):Nat):Int)/\w.grownBy wr none) (fun _ si _=>m - (intOf si).toNat)
 case atStart=>exact ⟨0,by omega,rfl,rfl,G1.out⟩
 case round =>
  obtain ⟨k,hk,rfl,rfl,hg⟩:=hrel;have HG:=hZq hg;clear hg
  by_cases hlt:k<m
  ·have hx:L[k]?=some (L[k]'(by omega)):=List.getElem?_eq_getElem (by omega)
   revert hx
   generalize L[k]'(by omega)=x;intro hx;obtain ⟨g,off,u,rfl,c1,hu⟩:=HR.out.node hx;obtain ⟨b1,rfl⟩:=hu.atL;have d1:=HG.out.cell c1 (by simp);have HU:=hZq hu;have HX:=hZq hx;have t1:=cntR_take hx;have t2:=cntR_le L (k+1);clear hx hu c1;have hme:=mL_count
   go_wp2_with fail
   refine (lcount_any b1 x wr (NodeT.kept 0 HU.out (FrT.of HG.out))).mono ?_;rintro en w5 ⟨rfl,rfl⟩;have G6:=HG;have hln:x.ps.length=(flatT 0 x).length:=rfl;rw [hln];have T12:=hZq (And.intro t1 t2)
   have wq:wrap64 (((cntR 0 (L.take k):Nat):Int)+((flatT 0 x).length:Int))=((cntR 0 (L.take (k+1)):Nat):Int):=by
    unfold wrap64;omega
   have HW:=hZq wq;clear t1 t2 wq;go_wp2;refine ⟨⟨k+1,by omega,by go_num,?_,G6.out⟩,?_⟩
   rotate_left
   ·simp only [intOf];omega
   first
    | (rw [<- HW.out];done)
    | exact congrArg (Value.int .i64) HW.out
  ·have hk2:k=m:=by omega
   subst hk2;have ht:L.take k=L:=List.take_of_length_le (by omega);rw [ht];go_wp2;go_ret;exact ⟨rfl,HG.out⟩
theorem rcount_B {n:Nat}(hR:RcC n):RcC (n+1):=by
 intro L a m c sa sm sc w hr hm hq ox;have ln:=hr.len;have HR:=hZq hr;have OX:=hZq ox;have e0:=cell_heap (i:=0) (heap_at0 w #[.slice a m c,.slice sa sm sc] 89) rfl;have G1:=hZq (World.grownBy_alloc w (.cells #[.slice a m c,.slice sa sm sc] 89) none);clear hr ox;go_enter Tryz.func51,Tryz.ntmps51
 go_wp2_with fail
 go_loopw [3,9] (fun sn si wr=>∃ k:Nat,k<=m/\si=.int .i64 k/\sn=.int .i64 ((cntR (n+1) (L.take k):Nat):Int)/\w.grownBy wr none) (fun _ si _=>m - (intOf si).toNat)
 case atStart=>exact ⟨0,by omega,rfl,rfl,G1.out⟩
 case round =>
  obtain ⟨k,hk,rfl,rfl,hg⟩:=hrel;have HG:=hZq hg;clear hg
  by_cases hlt:k<m
  ·have hx:L[k]?=some (L[k]'(by omega)):=List.getElem?_eq_getElem (by omega)
   revert hx
   generalize L[k]'(by omega)=x;intro hx;obtain ⟨g,off,u,rfl,c1,hu⟩:=HR.out.node hx;obtain ⟨b1,rfl⟩:=hu.atB;have d1:=HG.out.cell c1 (by simp);have HU:=hZq hu;have HX:=hZq hx;have t1:=cntR_take hx;have t2:=cntR_le L (k+1);clear hx hu c1;obtain ⟨b',a3,m3,c3,sa3,sm3,sc3,e3,hb3,hn3,hs3⟩:=NodeT.kept (n+1) HU.out (FrT.of HG.out);simp only [Value.iface.injEq,Value.pointer.injEq,Option.some.injEq,Addr.mk.injEq,true_and,and_true] at e3;subst e3;have hme:=mB_count (cell_heap (i:=1) hb3 rfl) (cell_heap (i:=2) hb3 rfl);have ox:=OX.out x (List.mem_of_getElem? HX.out);have fw:=seps_few ox.2.2.2.1;have ln3:(BnT.row (T:=NdT n) x).ns.length=m3:=hn3.len;have sl3:=ox.2.2.1.len;have p3:=List.length_pos_iff.2 ox.1;have RC:=hZq (hR (BnT.row (T:=NdT n) x).ns a3 m3 c3 sa3 sm3 sc3 wr hn3 (by omega) (by have:(flatT (n+1) x).length=cntR n (BnT.row (T:=NdT n) x).ns:=rfl;omega) ox.2.1);clear hb3 hn3 hs3 ox fw ln3 sl3 p3
   go_wp2_with fail
   refine RC.out.mono ?_;rintro en w5 ⟨rfl,hg5⟩;have G6:=hZq (gZq HG.out hg5);clear hg5;have hln:cntR n (BnT.row (T:=NdT n) x).ns=(flatT (n+1) x).length:=rfl;rw [hln];have T12:=hZq (And.intro t1 t2)
   have wq:wrap64 (((cntR (n+1) (L.take k):Nat):Int)+((flatT (n+1) x).length:Int))=((cntR (n+1) (L.take (k+1)):Nat):Int):=by
    unfold wrap64;omega
   have HW:=hZq wq;clear t1 t2 wq;go_wp2;refine ⟨⟨k+1,by omega,by go_num,?_,G6.out⟩,?_⟩
   rotate_left
   ·simp only [intOf];omega
   first
    | (rw [<- HW.out];done)
    | exact congrArg (Value.int .i64) HW.out
  ·have hk2:k=m:=by omega
   subst hk2;have ht:L.take k=L:=List.take_of_length_le (by omega);rw [ht];go_wp2;go_ret;exact ⟨rfl,HG.out⟩
theorem row0_any (a:Option Addr)(c:Nat)(sa:Option Addr)(sm sc:Nat)(w:World) :
  Calls Tryz.prog 51 #[.agg #[.slice a 0 c,.slice sa sm sc]] w fun en w'=>en=.returned (.int .i64 0)/\w.grownBy w' none:=by
 have e0:=cell_heap (i:=0) (heap_at0 w #[.slice a 0 c,.slice sa sm sc] 89) rfl;have G1:=hZq (World.grownBy_alloc w (.cells #[.slice a 0 c,.slice sa sm sc] 89) none);go_enter Tryz.func51,Tryz.ntmps51
 go_wp2_with fail
 go_loopw [3,9] (fun sn si wr=>si=.int .i64 0/\sn=.int .i64 0/\w.grownBy wr none) (fun _ _ _=>0)
 case atStart=>exact ⟨rfl,rfl,G1.out⟩
 case round =>
  obtain ⟨rfl,rfl,hg⟩:=hrel;have HG:=hZq hg;clear hg;go_wp2;go_ret;exact ⟨rfl,HG.out⟩
theorem rcount:∀ n,RcC n
 | 0=>rcount_L
 | n+1=>rcount_B (rcount n)
theorem len_any (t:Option TrT)(p:Nat)(w:World)(ht:TreeT w p t)(ox:OkO t)(hs:(flatO t).length<=4611686018427387904) :
  Calls Tryz.prog 25 #[.pointer (some ⟨p,0,none⟩)] w fun en w'=>en=.returned (.int .i64 ((flatO t).length:Nat))/\w.grownBy w' none:=by
 obtain ⟨a,m,c,sa,sm,sc,hp,htop⟩:=ht;have k1:=cell_heap (i:=0) hp rfl;have k2:=cell_heap (i:=1) hp rfl
 have RC:Hid (Calls Tryz.prog 51 #[.agg #[.slice a m c,.slice sa sm sc]] w fun en w'=>en=.returned (.int .i64 ((flatO t).length:Nat))/\w.grownBy w' none):=by
  match t,htop,ox,hs with
  | none,htop,_,_ =>
   have hm:m=0:=htop;subst hm;refine (row0_any a c sa sm sc w).mono ?_;rintro en w1 ⟨rfl,hg⟩;exact ⟨rfl,hg⟩
  | some ⟨n,x⟩,htop,ox,hs =>
   have hns:NsT n w a m c [x]:=htop;have hm:m=1:=by simpa using hns.len.symm
   subst hm;have hf:cntR n [x]=(flatO (some ⟨n,x⟩)).length:=by simp [cntR,flatO]
   rw [<- hf];refine (rcount n [x] a 1 c sa sm sc w hns (by omega) (by rw [hf];exact hs) (fun y hy=>?_)).mono (fun en w' h=>h);rw [List.mem_singleton.1 hy];exact ox
 clear hp htop;go_enter Tryz.func25,Tryz.ntmps25
 go_wp2_with fail
 refine RC.out.mono ?_;rintro en w1 ⟨rfl,hg⟩;have G1:=hZq hg;clear hg;go_wp2;go_ret;exact ⟨rfl,G1.out⟩
end Go.Proofs.YteaahinjcfjngaaGreat
