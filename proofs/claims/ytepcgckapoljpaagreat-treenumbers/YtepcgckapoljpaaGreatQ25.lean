import Derived.Test.YtepcgckapoljpaaGreatQ24
import Derived.Test.YtepcgckapoljpaaGreatQ21
set_option maxRecDepth 100000
set_option maxHeartbeats 8000000
namespace Go.Proofs.YtepcgckapoljpaaGreat
open Go.RowKit
theorem mL_fresh (v:Value)(w:World):(method 312 118 v "coppice/tree.fresh").run Tryz.prog w=.ok (144,v) w:=by kernel_rfl
theorem mB_fresh (v:Value)(w:World):(method 312 134 v "coppice/tree.fresh").run Tryz.prog w=.ok (156,v) w:=by kernel_rfl
theorem frP_int {p:PrT}{cn vn:Nat}(h1:p.chain.length=cn)(h2:p.val.length=vn):(if 0<cn then (0:Int) else pgB vn)=((frP p:Nat):Int):=by
 unfold frP;rw [h1,h2];have:=pgB_le (vn:Int)
 by_cases h:0<cn
 ·rw [if_pos h,if_neg (by omega)]
  rfl
 ·rw [if_neg h,if_pos (by omega)]
  omega
theorem NmT.num {w:World}{a:Option Addr}{n c:Nat}{zs:List Int}(h:NmT w a n c zs):zs.length=n:=by
 have:=h.len;simpa using this
theorem IpxT.lens {w:World}{ka:Option Addr}{kn kc:Nat}{va:Option Addr}{vn vc:Nat}{ca:Option Addr}{cn cc:Nat}{p:PrT}(h:IpxT w ka kn kc va vn vc ca cn cc p):p.key.length=kn/\p.val.length=vn/\p.chain.length=cn:=⟨h.k.b.len,h.v.b.len,h.c.num⟩
theorem lfresh_any (b:Nat)(x:LfT)(w:World)(hx:NodeT 0 w (.iface 118 (.pointer (some ⟨b,0,none⟩))) x)(hq:frT 0 x<=4611686018427387904) :
  Calls Tryz.prog 144 #[.pointer (some ⟨b,0,none⟩)] w fun en w'=>en=.returned (.int .i64 ((frT 0 x:Nat):Int))/\w.grownBy w' none:=by
 obtain ⟨b',a,m,c,e,hb,hp⟩:=hx;simp only [Value.iface.injEq,Value.pointer.injEq,Option.some.injEq,Addr.mk.injEq,true_and,and_true] at e;subst e;have k0:=cell_heap (i:=0) hb rfl;have k1:=cell_heap (i:=1) hb rfl;have hl:x.ps.length=m:=hp.len;obtain ⟨hm1,hm2,_⟩:=hp.cap;have HP:=hZq hp;have HL:=hZq hl;clear hb hp hl
 by_cases h0:x.no=0
 ·have ef:frT 0 x=1+sumT frP x.ps:=by rw [frT,if_pos h0]
  rw [ef] at hq ⊢;rw [h0] at k0;clear ef h0;go_enter Tryz.func144,Tryz.ntmps144
  go_wp2_with fail
  go_loopw [3,5,16] (fun sn _ si wr=>∃ k:Nat,k<=m/\si=.int .i64 k/\sn=.int .i64 ((1+sumT frP (x.ps.take k):Nat):Int)/\w.grownBy wr none) (fun _ _ si _=>m - (intOf si).toNat)
  case atStart=>exact ⟨0,by omega,rfl,rfl,World.grownBy.refl _ _⟩
  case round =>
   obtain ⟨k,hk,rfl,rfl,hg⟩:=hrel;have HG:=hZq hg;clear hg
   by_cases hlt:k<m
   ·obtain ⟨p,hx⟩:∃ p,x.ps[k]?=some p:=⟨_,List.getElem?_eq_getElem (by have:=HL.out;omega)⟩
    obtain ⟨g,off,ka,kn,kc,va,vn,vc,ca,cn,cc,rfl,c0,c1,c2,hpx⟩:=HP.out.pair hx;have d0:=HG.out.cell c0 (by simp);have d1:=HG.out.cell c1 (by simp);have d2:=HG.out.cell c2 (by simp);have t1:=sumT_takeS frP hx;have t2:=sumT_take frP (L:=x.ps) (k+1);have e1:=frP_int hpx.lens.2.2 hpx.lens.2.1;have FC:=hZq (fun W=>fresh_any ka kn kc va vn vc ca cn cc W);rw [e1] at FC
    have wq:wrap64 (((1+sumT frP (x.ps.take k):Nat):Int)+((frP p:Nat):Int))=((1+sumT frP (x.ps.take (k+1)):Nat):Int):=by
     unfold wrap64;omega
    have HW:=hZq wq;have G1:=hZq (World.grownBy_alloc wr (.cells #[.slice ka kn kc,.slice va vn vc,.slice ca cn cc] 108) none);generalize 1+sumT frP (x.ps.take k)=A at *;generalize frP p=C at *;clear hx hpx t1 t2 e1 wq c0 c1 c2
    go_wp2_with fail
    refine (FC.out _).mono ?_;rintro en w5 ⟨rfl,hg5⟩;have G6:=hZq (gZq HG.out (gZq G1.out hg5));clear hg5;go_wp2;refine ⟨⟨k+1,by omega,by go_num,?_,G6.out⟩,?_⟩
    rotate_left
    ·simp only [intOf];omega
    first
     | (rw [<- HW.out];done)
     | exact congrArg (Value.int .i64) HW.out
   ·have hk2:k=m:=by omega
    subst hk2;have ht:x.ps.take k=x.ps:=List.take_of_length_le (by have:=HL.out;omega);rw [ht];go_wp2;go_ret;exact ⟨rfl,HG.out⟩
 ·have ef:frT 0 x=0:=by rw [frT,if_neg h0]
  rw [ef];have hn:(x.no != 0)=true:=by simp [h0]
  go_enter Tryz.func144,Tryz.ntmps144;go_wp2;go_ret;exact ⟨rfl,World.grownBy.refl _ _⟩
def RfC (n:Nat):Prop:=∀ (L:List (NdT n)) (a:Option Addr) (m c:Nat) (sa:Option Addr) (sm sc:Nat) (w:World),NsT n w a m c L->m<=100000->sumT (frT n) L<=4611686018427387904->(∀ x∈L,OkT n x) ->
  Calls Tryz.prog 41 #[.agg #[.slice a m c,.slice sa sm sc]] w fun en w'=>en=.returned (.int .i64 ((sumT (frT n) L:Nat):Int))/\w.grownBy w' none
def BfC (n:Nat):Prop:=∀ (b:Nat) (x:NdT (n+1)) (w:World),NodeT (n+1) w (.iface 134 (.pointer (some ⟨b,0,none⟩))) x->OkT (n+1) x->frT (n+1) x<=4611686018427387904 ->
  Calls Tryz.prog 156 #[.pointer (some ⟨b,0,none⟩)] w fun en w'=>en=.returned (.int .i64 ((frT (n+1) x:Nat):Int))/\w.grownBy w' none
theorem bfresh_any {n:Nat}(hR:RfC n):BfC n:=by
 intro b x w hx ox hq;obtain ⟨b',a,m,c,sa,sm,sc,e,hb,hns,hss⟩:=hx;simp only [Value.iface.injEq,Value.pointer.injEq,Option.some.injEq,Addr.mk.injEq,true_and,and_true] at e;subst e;have k0:=cell_heap (i:=0) hb rfl;have k1:=cell_heap (i:=1) hb rfl;have k2:=cell_heap (i:=2) hb rfl;have fw:=seps_few ox.2.2.2.1;have ln3:(BnT.row (T:=NdT n) x).ns.length=m:=hns.len;have sl3:(BnT.row (T:=NdT n) x).ns.length=(BnT.row (T:=NdT n) x).ss.length+1:=lens_ok ox
 by_cases h0:BnT.no (T:=NdT n) x=0
 ·have ef:frT (n+1) x=1+sumT (frT n) (BnT.row (T:=NdT n) x).ns:=by rw [frT,if_pos h0]
  rw [ef] at hq ⊢;rw [h0] at k0;have RC:=hZq (hR (BnT.row (T:=NdT n) x).ns a m c sa sm sc w hns (by omega) (by omega) ox.2.1)
  have wq:wrap64 (1+((sumT (frT n) (BnT.row (T:=NdT n) x).ns:Nat):Int))=((1+sumT (frT n) (BnT.row (T:=NdT n) x).ns:Nat):Int):=by
   unfold wrap64;omega
  have HW:=hZq wq;clear hb hns hss ox wq ef h0 fw ln3 sl3;generalize sumT (frT n) (BnT.row (T:=NdT n) x).ns=A at *;go_enter Tryz.func156,Tryz.ntmps156
  go_wp2_with fail
  refine RC.out.mono ?_;rintro en w1 ⟨rfl,hg⟩;have G1:=hZq hg;clear hg;go_wp2;go_ret;exact ⟨by first | rw [HW.out] | (rw [<- HW.out];done) | (congr 2),G1.out⟩
 ·have ef:frT (n+1) x=0:=by rw [frT,if_neg h0]
  rw [ef];have hn:(BnT.no (T:=NdT n) x != 0)=true:=by simp [h0]
  clear hb hns hss ox hq ef;go_enter Tryz.func156,Tryz.ntmps156;go_wp2;go_ret;exact ⟨rfl,World.grownBy.refl _ _⟩
theorem rfresh_L :RfC 0:=by
 intro L a m c sa sm sc w hr hm hq ox;have ln:=hr.len;have HR:=hZq hr;have OX:=hZq ox;have e0:=cell_heap (i:=0) (heap_at0 w #[.slice a m c,.slice sa sm sc] 77) rfl;have G1:=hZq (World.grownBy_alloc w (.cells #[.slice a m c,.slice sa sm sc] 77) none);clear hr ox;go_enter Tryz.func41,Tryz.ntmps41
 go_wp2_with fail
 go_loopw [3,9] (fun sn si wr=>∃ k:Nat,k<=m/\si=.int .i64 k/\sn=.int .i64 ((sumT (frT 0) (L.take k):Nat):Int)/\w.grownBy wr none) (fun _ si _=>m - (intOf si).toNat)
 case atStart=>exact ⟨0,by omega,rfl,rfl,G1.out⟩
 case round =>
  obtain ⟨k,hk,rfl,rfl,hg⟩:=hrel;have HG:=hZq hg;clear hg
  by_cases hlt:k<m
  ·have hx:L[k]?=some (L[k]'(by omega)):=List.getElem?_eq_getElem (by omega)
   revert hx
   generalize L[k]'(by omega)=x;intro hx;obtain ⟨g,off,u,rfl,c1,hu⟩:=HR.out.node hx;obtain ⟨b1,rfl⟩:=hu.atL;have d1:=HG.out.cell c1 (by simp);have t1:=sumT_takeS (frT 0) hx;have t2:=sumT_take (frT 0) (L:=L) (k+1);have FC:=hZq (lfresh_any b1 x wr (NodeT.kept 0 hu (FrT.of HG.out)) (by have:=t2;omega))
   have wq:wrap64 (((sumT (frT 0) (L.take k):Nat):Int)+((frT 0 x:Nat):Int))=((sumT (frT 0) (L.take (k+1)):Nat):Int):=by
    unfold wrap64;omega
   have HW:=hZq wq;clear hx hu c1 t1 t2 wq;have hme:=mL_fresh;generalize sumT (frT 0) (L.take k)=A at *;generalize frT 0 x=C at *
   go_wp2_with fail
   refine FC.out.mono ?_;rintro en w5 ⟨rfl,hg5⟩;have G6:=hZq (gZq HG.out hg5);clear hg5;go_wp2;refine ⟨⟨k+1,by omega,by go_num,?_,G6.out⟩,?_⟩
   rotate_left
   ·simp only [intOf];omega
   first
    | (rw [<- HW.out];done)
    | exact congrArg (Value.int .i64) HW.out
  ·have hk2:k=m:=by omega
   subst hk2;have ht:L.take k=L:=List.take_of_length_le (by omega);rw [ht];go_wp2;go_ret;exact ⟨rfl,HG.out⟩
theorem rfresh_B {n:Nat}(hB:BfC n):RfC (n+1):=by
 intro L a m c sa sm sc w hr hm hq ox;have ln:=hr.len;have HR:=hZq hr;have OX:=hZq ox;have e0:=cell_heap (i:=0) (heap_at0 w #[.slice a m c,.slice sa sm sc] 77) rfl;have G1:=hZq (World.grownBy_alloc w (.cells #[.slice a m c,.slice sa sm sc] 77) none);clear hr ox;go_enter Tryz.func41,Tryz.ntmps41
 go_wp2_with fail
 go_loopw [3,9] (fun sn si wr=>∃ k:Nat,k<=m/\si=.int .i64 k/\sn=.int .i64 ((sumT (frT (n+1)) (L.take k):Nat):Int)/\w.grownBy wr none) (fun _ si _=>m - (intOf si).toNat)
 case atStart=>exact ⟨0,by omega,rfl,rfl,G1.out⟩
 case round =>
  obtain ⟨k,hk,rfl,rfl,hg⟩:=hrel;have HG:=hZq hg;clear hg
  by_cases hlt:k<m
  ·have hx:L[k]?=some (L[k]'(by omega)):=List.getElem?_eq_getElem (by omega)
   revert hx
   generalize L[k]'(by omega)=x;intro hx;obtain ⟨g,off,u,rfl,c1,hu⟩:=HR.out.node hx;obtain ⟨b1,rfl⟩:=hu.atB;have d1:=HG.out.cell c1 (by simp);have t1:=sumT_takeS (frT (n+1)) hx;have t2:=sumT_take (frT (n+1)) (L:=L) (k+1);have FC:=hZq (hB b1 x wr (NodeT.kept (n+1) hu (FrT.of HG.out)) (OX.out x (List.mem_of_getElem? hx)) (by omega))
   have wq:wrap64 (((sumT (frT (n+1)) (L.take k):Nat):Int)+((frT (n+1) x:Nat):Int))=((sumT (frT (n+1)) (L.take (k+1)):Nat):Int):=by
    unfold wrap64;omega
   have HW:=hZq wq;clear hx hu c1 t1 t2 wq;have hme:=mB_fresh;generalize sumT (frT (n+1)) (L.take k)=A at *;generalize frT (n+1) x=C at *
   go_wp2_with fail
   refine FC.out.mono ?_;rintro en w5 ⟨rfl,hg5⟩;have G6:=hZq (gZq HG.out hg5);clear hg5;go_wp2;refine ⟨⟨k+1,by omega,by go_num,?_,G6.out⟩,?_⟩
   rotate_left
   ·simp only [intOf];omega
   first
    | (rw [<- HW.out];done)
    | exact congrArg (Value.int .i64) HW.out
  ·have hk2:k=m:=by omega
   subst hk2;have ht:L.take k=L:=List.take_of_length_le (by omega);rw [ht];go_wp2;go_ret;exact ⟨rfl,HG.out⟩
theorem rfresh:∀ n,RfC n
 | 0=>rfresh_L
 | n+1=>rfresh_B (bfresh_any (rfresh n))
theorem row0_fresh (a:Option Addr)(c:Nat)(sa:Option Addr)(sm sc:Nat)(w:World) :
  Calls Tryz.prog 41 #[.agg #[.slice a 0 c,.slice sa sm sc]] w fun en w'=>en=.returned (.int .i64 0)/\w.grownBy w' none:=by
 have e0:=cell_heap (i:=0) (heap_at0 w #[.slice a 0 c,.slice sa sm sc] 77) rfl;have G1:=hZq (World.grownBy_alloc w (.cells #[.slice a 0 c,.slice sa sm sc] 77) none);go_enter Tryz.func41,Tryz.ntmps41
 go_wp2_with fail
 go_loopw [3,9] (fun sn si wr=>si=.int .i64 0/\sn=.int .i64 0/\w.grownBy wr none) (fun _ _ _=>0)
 case atStart=>exact ⟨rfl,rfl,G1.out⟩
 case round =>
  obtain ⟨rfl,rfl,hg⟩:=hrel;have HG:=hZq hg;clear hg;go_wp2;go_ret;exact ⟨rfl,HG.out⟩
def frO:Option TrT->Nat
 | none=>0
 | some t=>frT t.lv t.root
theorem tfresh_any (t:Option TrT)(p:Nat)(w:World)(ht:TreeT w p t)(ox:OkO t)(hs:frO t<=4611686018427387904) :
  Calls Tryz.prog 17 #[.pointer (some ⟨p,0,none⟩)] w fun en w'=>en=.returned (.int .i64 ((frO t:Nat):Int))/\w.grownBy w' none:=by
 obtain ⟨a,m,c,sa,sm,sc,hp,htop⟩:=ht;have k1:=cell_heap (i:=0) hp rfl;have k2:=cell_heap (i:=1) hp rfl
 have RC:Hid (Calls Tryz.prog 41 #[.agg #[.slice a m c,.slice sa sm sc]] w fun en w'=>en=.returned (.int .i64 ((frO t:Nat):Int))/\w.grownBy w' none):=by
  match t,htop,ox,hs with
  | none,htop,_,_ =>
   have hm:m=0:=htop;subst hm;refine (row0_fresh a c sa sm sc w).mono ?_;rintro en w1 ⟨rfl,hg⟩;exact ⟨rfl,hg⟩
  | some ⟨n,x⟩,htop,ox,hs =>
   have hns:NsT n w a m c [x]:=htop;have hm:m=1:=by simpa using hns.len.symm
   subst hm;have hf:sumT (frT n) [x]=frO (some ⟨n,x⟩):=by simp [sumT,frO]
   rw [<- hf];refine (rfresh n [x] a 1 c sa sm sc w hns (by omega) (by rw [hf];exact hs) (fun y hy=>?_)).mono (fun en w' h=>h);rw [List.mem_singleton.1 hy];exact ox
 clear hp htop;go_enter Tryz.func17,Tryz.ntmps17
 go_wp2_with fail
 refine RC.out.mono ?_;rintro en w1 ⟨rfl,hg⟩;have G1:=hZq hg;clear hg;go_wp2;go_ret;exact ⟨rfl,G1.out⟩
def ScN (t:TypeId):Bool:=ScT t || t==52
structure FrX (S:TypeId->Bool)(w w':World):Prop where
 keep:∀ (b:Nat) (t:TypeId) (cur:Array Value) (z:Nat × Nat),S t=false->w.heap[b]?=some (Obj.cells cur t z)->w'.heap[b]?=some (Obj.cells cur t z)
abbrev FrN (w w':World):Prop:=FrX ScN w w'
theorem FrX.refl (S:TypeId->Bool)(w:World):FrX S w w:=⟨fun _ _ _ _ _ h=>h⟩
theorem FrX.trans {S:TypeId->Bool}{a b c:World}(h:FrX S a b)(k:FrX S b c):FrX S a c:=⟨fun b t cur z ht e=>k.keep b t cur z ht (h.keep b t cur z ht e)⟩
theorem FrX.of {S:TypeId->Bool}{w w':World}(hg:w.grownBy w' none):FrX S w w':=⟨fun b t cur z _ e=>by
 rw [hg.block b (Array.getElem?_eq_some_iff.1 e).1 (by simp)];exact e⟩
theorem FrX.row {S:TypeId->Bool}{w0 w w':World}{row:Option Nat}(h:FrX S w0 w)(hg:w.grownBy w' row)(hr:∀ g,row=some g->w0.heap.size<=g∨∃ t,TgT w g t/\S t=true):FrX S w0 w':=⟨fun b t cur z ht e=>by
 have e2:=h.keep b t cur z ht e;have hlt:=(Array.getElem?_eq_some_iff.1 e).1
 have hne:some b≠row:=fun e3=>by
  rcases hr b e3.symm with k | ⟨t',⟨cur',z',k1⟩,k2⟩
  ·omega
  ·rw [e2] at k1
   simp only [Option.some.injEq,Obj.cells.injEq] at k1;rw [<- k1.2.1,ht] at k2;cases k2
 rw [hg.block b (Array.getElem?_eq_some_iff.1 e2).1 hne];exact e2⟩
theorem FrN.box {w w':World}{q:Nat}{cs:Array Value}{y:Nat × Nat}(hq:w.heap[q]?=some (.cells cs 52 y))(hg:w.grownBy w' (some q)):FrN w w':=(FrX.refl ScN w).row hg (fun g e=>.inr ⟨52,by cases e;exact ⟨_,_,hq⟩,by decide⟩)
theorem FrX.tg {S:TypeId->Bool}{w w':World}(h:FrX S w w'){b:Nat}{t:TypeId}(ht:S t=false)(k:TgT w b t):TgT w' b t:=by
 obtain ⟨cur,z,e⟩:=k;exact ⟨cur,z,h.keep b t cur z ht e⟩
theorem FrX.cell {S:TypeId->Bool}{w w':World}(h:FrX S w w'){b i:Nat}{t:TypeId}{v:Value}(ht:S t=false)(k:TgT w b t)(hc:w.cell? ⟨b,i,none⟩=some v):w'.cell? ⟨b,i,none⟩=some v:=by
 obtain ⟨cur,z,e⟩:=k;rw [<- hc];exact World.cell?_of_block (by show w'.heap[b]?=w.heap[b]?;rw [h.keep b t cur z ht e,e])
theorem EsT.keptX {S:TypeId->Bool}{w w':World}{t:TypeId}{a:Option Addr}{n c k:Nat}{es:List (List Value)}(h:EsT w t a n c k es)(ht:S t=false)(hg:FrX S w w'):EsT w' t a n c k es :=
 ⟨h.len,h.cap,h.c2,h.nil,h.pl,h.sz,h.one,fun i e he=>by
  obtain ⟨b,off,h1,h2,h3⟩:=h.cell i e he;exact ⟨b,off,h1,hg.tg ht h2,fun f v hv=>hg.cell ht h2 (h3 f v hv)⟩⟩
theorem SlT.monoX {T:Type}{S:TypeId->Bool}{w w':World}{t:TypeId}{k:Nat}{I J:List Value->T->Prop}{a:Option Addr}{n c:Nat}{L:List T}(h:SlT w t k I a n c L)(ht:S t=false)(hg:FrX S w w')(hI:∀ e x,I e x->J e x):SlT w' t k J a n c L:=by
 obtain ⟨es,h1,h2⟩:=h.ex;exact ⟨es,h1.keptX ht hg,h2.mono hI⟩
theorem BtyT.keptX {S:TypeId->Bool}{w w':World}{ao:Option Addr}{n c:Nat}{s:List Int}(h:BtyT w ao n c s)(h8:S 5=false)(hg:FrX S w w'):BtyT w' ao n c s:=by
 refine ⟨⟨h.b.len,h.b.nil,fun ad had j u hu=>?_⟩,fun ad h1 h2=>hg.tg h8 (h.t ad h1 h2),h.l1,h.l2⟩;have hj:j<s.length:=by have:=(List.getElem?_eq_some_iff.1 hu).1;simpa using this
 have hl:=h.b.len;have h1:=h.b.cells ad had j u hu;obtain ⟨b,off,rfl,_,_⟩:=h.b.at (by omega);cases had;rw [Addr.add_lit] at h1 ⊢;exact hg.cell (t:=5) h8 (h.t _ rfl (by omega)) h1
theorem IbT.keptX {w w':World}{e:List Value}{s:List Int}(h:IbT w e s)(hg:FrN w w'):IbT w' e s:=by
 obtain ⟨ao,n,c,h1,h2⟩:=h;exact ⟨ao,n,c,h1,h2.keptX (by decide) hg⟩
theorem IpxT.keptX {S:TypeId->Bool}{w w':World}{ka:Option Addr}{kn kc:Nat}{va:Option Addr}{vn vc:Nat}{ca:Option Addr}{cn cc:Nat}{p:PrT}(h:IpxT w ka kn kc va vn vc ca cn cc p)(h8:S 5=false)(hi:S 3=false)(hg:FrX S w w'):IpxT w' ka kn kc va vn vc ca cn cc p :=
 ⟨h.k.keptX h8 hg,h.v.keptX h8 hg,EsT.keptX h.c hi hg,h.z⟩
theorem IpT.keptX {S:TypeId->Bool}{w w':World}{e:List Value}{p:PrT}(h:IpT w e p)(h8:S 5=false)(hi:S 3=false)(hg:FrX S w w'):IpT w' e p:=by
 obtain ⟨ka,kn,kc,va,vn,vc,ca,cn,cc,h1,h2⟩:=h;exact ⟨ka,kn,kc,va,vn,vc,ca,cn,cc,h1,h2.keptX h8 hi hg⟩
theorem PsT.keptX {w w':World}{a:Option Addr}{n c:Nat}{L:List PrT}(h:PsT w a n c L)(hg:FrN w w'):PsT w' a n c L:=SlT.monoX h (by decide) hg (fun _ _ k=>k.keptX (by decide) (by decide) hg)
theorem SsT.keptX {w w':World}{a:Option Addr}{n c:Nat}{L:List (List Int)}(h:SsT w a n c L)(hg:FrN w w'):SsT w' a n c L:=SlT.monoX h (by decide) hg (fun _ _ k=>k.keptX hg)
theorem NodeT.keptX:∀ (n:Nat) {w w':World} {v:Value} {x:NdT n},NodeT n w v x->FrN w w'->NodeT n w' v x
 | 0,w,w',v,x,h,hg=>by
  obtain ⟨b,a,m,c,h1,h2,h3⟩:=h;exact ⟨b,a,m,c,h1,hg.keep _ _ _ _ (by decide) h2,h3.keptX hg⟩
 | n+1,w,w',v,x,h,hg=>by
  obtain ⟨b,a,m,c,sa,sm,sc,h1,h2,h3,h4⟩:=h;exact ⟨b,a,m,c,sa,sm,sc,h1,hg.keep _ _ _ _ (by decide) h2,h3.monoX (by decide) hg (fun _ _ ⟨u,k1,k2⟩=>⟨u,k1,NodeT.keptX n k2 hg⟩),h4.keptX hg⟩
theorem InT.keptX {n:Nat}{w w':World}{e:List Value}{x:NdT n}(h:InT n w e x)(hg:FrN w w'):InT n w' e x:=by
 obtain ⟨u,h1,h2⟩:=h;exact ⟨u,h1,NodeT.keptX n h2 hg⟩
theorem NsT.keptX {n:Nat}{w w':World}{a:Option Addr}{m c:Nat}{L:List (NdT n)}(h:NsT n w a m c L)(hg:FrN w w'):NsT n w' a m c L:=SlT.monoX h (by decide) hg (fun _ _ k=>k.keptX hg)
structure NxL (w0 w:World)(q:Nat)(l:List Int):Prop where
 bx:∃ v,w0.heap[q]?=some (.cells #[v] 52 (0,0))
 gr:w0.grownBy w (some q)
 ex:∃ a n c,w.heap[q]?=some (.cells #[.slice a n c] 52 (0,0))/\NmT w0 a n c l
theorem NxL.kept {w0 w w':World}{q:Nat}{l:List Int}{row:Option Nat}(h:NxL w0 w q l)(hg:w.grownBy w' row)(hr:∀ g,row=some g->w0.heap.size<=g):NxL w0 w' q l:=by
 obtain ⟨⟨v,hv⟩,gr,a,n,c,h1,h2⟩:=h;have hql:=(Array.getElem?_eq_some_iff.1 hv).1;have hne:some q≠row:=fun e=>by have:=hr q e.symm;omega
 refine ⟨⟨v,hv⟩,?_,a,n,c,?_,h2⟩
 ·cases row with
  | none=>exact gZq gr (grown_any hg)
  | some g=>exact grown_newR gr hg (hr g rfl)
 ·rw [hg.block q (Array.getElem?_eq_some_iff.1 h1).1 hne]
  exact h1
theorem NxL.fr {w0 w w':World}{q:Nat}{l:List Int}(h:NxL w0 w q l)(hg:w.grownBy w' (some q)):FrN w w':=by
 obtain ⟨_,_,a,n,c,h1,h2⟩:=h;exact FrN.box h1 hg
theorem NxL.tg {w0 w:World}{q:Nat}{l:List Int}(h:NxL w0 w q l):TgT w q 52:=by
 obtain ⟨_,_,a,n,c,h1,h2⟩:=h;exact ⟨_,_,h1⟩
theorem NxL.lt {w0 w:World}{q:Nat}{l:List Int}(h:NxL w0 w q l):q<w0.heap.size/\w0.heap.size<=w.heap.size:=by
 obtain ⟨⟨v,hv⟩,gr,_⟩:=h;exact ⟨(Array.getElem?_eq_some_iff.1 hv).1,gr.size⟩
theorem next_any (q:Nat)(z:Int)(l:List Int)(w0 w:World)(h:NxL w0 w q (z::l)) :
  Calls Tryz.prog 49 #[.pointer (some ⟨q,0,none⟩)] w fun en w'=>en=.returned (.int .i64 z)/\NxL w0 w' q l/\w.grownBy w' (some q):=by
 obtain ⟨⟨v0,hv0⟩,hgr,a,n,c,hq,hl⟩:=h;have hn:=hl.num;have hn1:n=l.length+1:=by simpa using hn.symm
 obtain ⟨hc1,hc2⟩:n<=c/\c<=9223372036854775807:=⟨hl.cap,hl.c2⟩;have hlw:=EsT.keptX hl (S:=ScN) (by decide) (FrN.box hv0 hgr);obtain ⟨g,off,rfl,ht,hcl⟩:=hlw.cell 0 [.int .i64 z] rfl;have c0:=hcl 0 _ rfl;rw [show off+0*1+0=off by omega] at c0;have k0:w.cell? ⟨q,0,none⟩=some (.slice (some ⟨g,off,none⟩) n c):=cell_heap (i:=0) hq rfl;have hq2:w.frozen? ⟨q,0,none⟩=false:=frozen_of_row w q 0 _ _ hq;have HQ:=hZq hq;have GS:=hZq (fun v=>grown_cell w q 0 v);have HV:Hid ((∃ v,w0.heap[q]?=some (.cells #[v] 52 (0,0)))/\w0.grownBy w (some q)):=⟨⟨v0,hv0⟩,hgr⟩;have hn0:(0:Int)<(n:Int):=by omega
 have hn1':(1:Int)<=(n:Int):=by omega
 have hc1':(1:Int)<=(c:Int):=by omega
 have hnc':(n:Int)<=(c:Int):=by omega
 by_cases hc:c=1
 ·have l0:l=[]:=List.length_eq_zero_iff.1 (by omega)
  have n1:n=1:=by omega
  subst hc n1 l0;clear hl hn ht hcl hq hn1 hc1 hc2 hn0 hn1' hc1' hnc' hlw hgr hv0;go_enter Tryz.func49,Tryz.ntmps49;go_wp2;go_ret;refine ⟨rfl,⟨HV.out.1,gZq HV.out.2 (GS.out _),_,_,_,heap_setCell_same w q 0 _ _ _ HQ.out,EsT.zero _ _ _ _ _ (by omega) (fun e=>by first | rfl | cases e) (fun x hx=>by cases hx;exact ⟨_,_,rfl⟩)⟩,GS.out _⟩
 ·have HT:Hid (NmT w0 (some ⟨g,off+1,none⟩) (n - 1) (c - 1) l):=by
   have h1:=EsT.drop hl (i:=1) (by omega);have e:((z::l).map fun z=>[Value.int .i64 z]).drop 1=l.map fun z=>[Value.int .i64 z]:=rfl
   rw [e] at h1;exact h1
  have hcc:¬ c=1:=hc;clear hl hn ht hcl hq hn1 hlw hgr hv0;go_enter Tryz.func49,Tryz.ntmps49;go_wp2;go_ret;refine ⟨rfl,⟨HV.out.1,gZq HV.out.2 (GS.out _),_,_,_,heap_setCell_same w q 0 _ _ _ HQ.out,HT.out⟩,GS.out _⟩
def gatT:(n:Nat)->NdT n->List Int
 | 0,x=>nzT [LfT.no x]++(LfT.ps x).flatMap fun p=>nzT p.chain
 | n+1,x=>nzT [BnT.no (T:=NdT n) x]++(BnT.row (T:=NdT n) x).ns.flatMap (gatT n)
structure NqT (n:Nat)(x:NdT n):Prop where
 no:NvT NoQ n x
 ch:∀ p∈flatT n x,∀ z∈p.chain,NoQ z
theorem NqT.kid {n:Nat}{x:NdT (n+1)}(h:NqT (n+1) x){y:NdT n}(hy:y∈(BnT.row (T:=NdT n) x).ns):NqT n y:=⟨h.no.2 y hy,fun p hp=>h.ch p (List.mem_flatMap.2 ⟨y,hy,hp⟩)⟩
theorem mL_gather (v:Value)(w:World):(method 312 118 v "coppice/tree.gather").run Tryz.prog w=.ok (145,v) w:=by kernel_rfl
theorem mB_gather (v:Value)(w:World):(method 312 134 v "coppice/tree.gather").run Tryz.prog w=.ok (157,v) w:=by kernel_rfl
theorem one_num (w:World)(z:Int):NmT (w.alloc (.cells #[.int .i64 z] 3)) (some ⟨w.heap.size,0,none⟩) 1 1 [z]:=EsT.lit w 3 1 [[.int .i64 z]] _ rfl (by simp) (by intro e he v hv;simp at he;subst he;simp at hv;subst hv;rfl) (by simp)
theorem flatTakeS {T U:Type}{f:T->List U}{L:List T}{i:Nat}{x:T}(h:L[i]?=some x):(L.take (i+1)).flatMap f=(L.take i).flatMap f++f x:=by
 rw [takeS h,List.flatMap_append];simp
theorem lgather_any (b q:Nat)(S:List Int)(x:LfT)(w:World)(hx:NodeT 0 w (.iface 118 (.pointer (some ⟨b,0,none⟩))) x)(hS:SeT w q S)(hv:NqT 0 x) :
  Calls Tryz.prog 145 #[.pointer (some ⟨b,0,none⟩),.map (some q)] w fun en w'=>en=.returned (.tuple #[])/\SeT w' q (S++gatT 0 x)/\w.grownBy w' (some q):=by
 obtain ⟨b',a,m,c,e,hb,hp⟩:=hx;simp only [Value.iface.injEq,Value.pointer.injEq,Option.some.injEq,Addr.mk.injEq,true_and,and_true] at e;subst e;have k0:=cell_heap (i:=0) hb rfl;have k1:=cell_heap (i:=1) hb rfl;have hne:=hS.not k1;have hl:x.ps.length=m:=hp.len;obtain ⟨hm1,hm2,_⟩:=hp.cap;have HP:=hZq hp;have HL:=hZq hl;have HS:=hZq hS;have HV:=hZq hv;have K1:=hZq k1;have NE:=hZq hne;have ga:=World.grownBy_alloc w (.cells #[.int .i64 x.no] 3) none;have AC:=hZq (addS_any (some ⟨w.heap.size,0,none⟩) 1 1 [x.no] (hS.keptN ga) (one_num w x.no) (fun y hy=>by rw [List.mem_singleton.1 hy];exact hv.no));have GA:=hZq ga;have eg:gatT 0 x=nzT [x.no]++x.ps.flatMap fun p=>nzT p.chain:=rfl
 rw [eg];clear hb hp hl hS hv k1 hne ga eg;go_enter Tryz.func145,Tryz.ntmps145
 go_wp2_with fail
 refine AC.out.mono ?_;rintro en w2 ⟨rfl,hs2,hg2⟩;have S2:=hZq hs2;have G2:=hZq (gZq (grown_any (row:=some q) GA.out) hg2);have k2:=G2.out.cell K1.out NE.out;clear hs2 hg2 AC k0
 go_wp2_with fail
 go_loopw [5,18] (fun _ si wr=>∃ k:Nat,k<=m/\si=.int .i64 k/\SeT wr q (S++(nzT [x.no]++(x.ps.take k).flatMap fun p=>nzT p.chain))/\w.grownBy wr (some q)) (fun _ si _=>m - (intOf si).toNat)
 case atStart=>exact ⟨0,by omega,rfl,by simpa using S2.out,G2.out⟩
 case round =>
  obtain ⟨k,hk,rfl,hs,hg⟩:=hrel;have HK:=hZq hs;have HG:=hZq hg;clear hs hg
  by_cases hlt:k<m
  ·obtain ⟨p,hx⟩:∃ p,x.ps[k]?=some p:=⟨_,List.getElem?_eq_getElem (by have:=HL.out;omega)⟩
   obtain ⟨g,off,ka,kn,kc,va,vn,vc,ca,cn,cc,rfl,c0,c1,c2,hpx⟩:=HP.out.pair hx;have d0:=HG.out.cell c0 (HS.out.not c0);have d1:=HG.out.cell c1 (HS.out.not c1);have d2:=HG.out.cell c2 (HS.out.not c2);have ga:=World.grownBy_alloc wr (.cells #[.slice ka kn kc,.slice va vn vc,.slice ca cn cc] 108) none;have AC:=hZq (addS_any ca cn cc p.chain (HK.out.keptN ga) (EsT.kept hpx.c (by decide) ((FrT.mapS HS.out HG.out).trans (FrT.of ga))) (HV.out.ch p (List.mem_of_getElem? hx)));have GA:=hZq ga;have HF:=hZq (flatTakeS (f:=fun p:PrT=>nzT p.chain) hx);clear hx hpx c0 c1 c2 ga
   go_wp2_with fail
   refine AC.out.mono ?_;rintro en w5 ⟨rfl,hs5,hg5⟩;have S5:=hZq hs5;have G6:=hZq (gZq HG.out (gZq (grown_any (row:=some q) GA.out) hg5));clear hg5 hs5 AC;go_wp2;refine ⟨⟨k+1,by omega,by go_num,?_,G6.out⟩,?_⟩
   ·rw [HF.out]
    simpa [List.append_assoc] using S5.out
   ·simp only [intOf];omega
  ·have hk2:k=m:=by omega
   subst hk2;have ht:x.ps.take k=x.ps:=List.take_of_length_le (by have:=HL.out;omega);rw [ht] at HK;go_wp2;refine bodyPost_end (results_none rfl _ _ _) rfl ?_;exact ⟨rfl,HK.out,HG.out⟩
def RgC (n:Nat):Prop:=∀ (L:List (NdT n)) (a:Option Addr) (m c:Nat) (sa:Option Addr) (sm sc:Nat) (q:Nat) (S:List Int) (w:World),NsT n w a m c L->SeT w q S->(∀ x∈L,NqT n x) ->
  Calls Tryz.prog 65 #[.agg #[.slice a m c,.slice sa sm sc],.map (some q)] w fun en w'=>en=.returned (.tuple #[])/\SeT w' q (S++L.flatMap (gatT n))/\w.grownBy w' (some q)
def BgC (n:Nat):Prop:=∀ (b q:Nat) (S:List Int) (x:NdT (n+1)) (w:World),NodeT (n+1) w (.iface 134 (.pointer (some ⟨b,0,none⟩))) x->SeT w q S->NqT (n+1) x ->
  Calls Tryz.prog 157 #[.pointer (some ⟨b,0,none⟩),.map (some q)] w fun en w'=>en=.returned (.tuple #[])/\SeT w' q (S++gatT (n+1) x)/\w.grownBy w' (some q)
theorem bgather_any {n:Nat}(hR:RgC n):BgC n:=by
 intro b q S x w hx hS hv;obtain ⟨b',a,m,c,sa,sm,sc,e,hb,hns,hss⟩:=hx;simp only [Value.iface.injEq,Value.pointer.injEq,Option.some.injEq,Addr.mk.injEq,true_and,and_true] at e;subst e;have k0:=cell_heap (i:=0) hb rfl;have k1:=cell_heap (i:=1) hb rfl;have k2:=cell_heap (i:=2) hb rfl;have hne:=hS.not k1;have hns':NsT n w a m c (BnT.row (T:=NdT n) x).ns:=hns;have HN:=hZq hns';have HS:=hZq hS;have HV:=hZq hv;have K1:=hZq k1;have K2:=hZq k2;have NE:=hZq hne;have ga:=World.grownBy_alloc w (.cells #[.int .i64 (BnT.no (T:=NdT n) x)] 3) none;have AC:=hZq (addS_any (some ⟨w.heap.size,0,none⟩) 1 1 [BnT.no (T:=NdT n) x] (hS.keptN ga) (one_num w _) (fun y hy=>by rw [List.mem_singleton.1 hy];exact hv.no.1));have GA:=hZq ga;have eg:gatT (n+1) x=nzT [BnT.no (T:=NdT n) x]++(BnT.row (T:=NdT n) x).ns.flatMap (gatT n):=rfl;rw [eg];clear hb hns hns' hss hS hv k1 k2 hne ga eg;go_enter Tryz.func157,Tryz.ntmps157
 go_wp2_with fail
 refine AC.out.mono ?_;rintro en w2 ⟨rfl,hs2,hg2⟩;have G2:=hZq (gZq (grown_any (row:=some q) GA.out) hg2);have k1:=G2.out.cell K1.out NE.out;have k2:=G2.out.cell K2.out NE.out;have RC:=hZq (hR (BnT.row (T:=NdT n) x).ns a m c sa sm sc q _ w2 (HN.out.kept (FrT.mapS HS.out G2.out)) hs2 (fun y hy=>HV.out.kid hy));clear hs2 hg2 AC k0
 go_wp2_with fail
 refine RC.out.mono ?_;rintro en w3 ⟨rfl,hs3,hg3⟩;have S3:=hZq hs3;have G3:=hZq (gZq G2.out hg3);clear hs3 hg3 RC;go_wp2;refine bodyPost_end (results_none rfl _ _ _) rfl ?_;exact ⟨rfl,by simpa [List.append_assoc] using S3.out,G3.out⟩
theorem rgather_L :RgC 0:=by
 intro L a m c sa sm sc q S w hr hS hv;have ln:=hr.len;obtain ⟨hm1,hm2,_⟩:=hr.cap;have HR:=hZq hr;have HV:=hZq hv;have HS:=hZq hS;have e0:=cell_heap (i:=0) (heap_at0 w #[.slice a m c,.slice sa sm sc] 77) rfl;have G1:=hZq (World.grownBy_alloc w (.cells #[.slice a m c,.slice sa sm sc] 77) none);clear hr hv hS;go_enter Tryz.func65,Tryz.ntmps65
 go_wp2_with fail
 go_loopw [5,9] (fun _ si wr=>∃ k:Nat,k<=m/\si=.int .i64 k/\SeT wr q (S++(L.take k).flatMap (gatT 0))/\w.grownBy wr (some q)) (fun _ si _=>m - (intOf si).toNat)
 case atStart=>exact ⟨0,by omega,rfl,by simpa using HS.out.keptN G1.out,grown_any G1.out⟩
 case round =>
  obtain ⟨k,hk,rfl,hs,hg⟩:=hrel;have HK:=hZq hs;have HG:=hZq hg;clear hs hg
  by_cases hlt:k<m
  ·have hx:L[k]?=some (L[k]'(by omega)):=List.getElem?_eq_getElem (by omega)
   revert hx
   generalize L[k]'(by omega)=x;intro hx;obtain ⟨g,off,u,rfl,c1,hu⟩:=HR.out.node hx;obtain ⟨b1,rfl⟩:=hu.atL;have d1:=HG.out.cell c1 (HS.out.not c1);have FC:=hZq (lgather_any b1 q _ x wr (NodeT.kept 0 hu (FrT.mapS HS.out HG.out)) HK.out (HV.out x (List.mem_of_getElem? hx)));have HF:=hZq (flatTakeS (f:=gatT 0) hx);clear hx hu c1;have hme:=mL_gather
   go_wp2_with fail
   refine FC.out.mono ?_;rintro en w5 ⟨rfl,hs5,hg5⟩;have S5:=hZq hs5;have G6:=hZq (gZq HG.out hg5);clear hg5 hs5 FC;go_wp2;refine ⟨⟨k+1,by omega,by go_num,?_,G6.out⟩,?_⟩
   ·rw [HF.out]
    simpa [List.append_assoc] using S5.out
   ·simp only [intOf];omega
  ·have hk2:k=m:=by omega
   subst hk2;have ht:L.take k=L:=List.take_of_length_le (by omega);rw [ht] at HK;go_wp2;refine bodyPost_end (results_none rfl _ _ _) rfl ?_;exact ⟨rfl,HK.out,HG.out⟩
theorem rgather_B {n:Nat}(hB:BgC n):RgC (n+1):=by
 intro L a m c sa sm sc q S w hr hS hv;have ln:=hr.len;obtain ⟨hm1,hm2,_⟩:=hr.cap;have HR:=hZq hr;have HV:=hZq hv;have HS:=hZq hS;have e0:=cell_heap (i:=0) (heap_at0 w #[.slice a m c,.slice sa sm sc] 77) rfl;have G1:=hZq (World.grownBy_alloc w (.cells #[.slice a m c,.slice sa sm sc] 77) none);clear hr hv hS;go_enter Tryz.func65,Tryz.ntmps65
 go_wp2_with fail
 go_loopw [5,9] (fun _ si wr=>∃ k:Nat,k<=m/\si=.int .i64 k/\SeT wr q (S++(L.take k).flatMap (gatT (n+1)))/\w.grownBy wr (some q)) (fun _ si _=>m - (intOf si).toNat)
 case atStart=>exact ⟨0,by omega,rfl,by simpa using HS.out.keptN G1.out,grown_any G1.out⟩
 case round =>
  obtain ⟨k,hk,rfl,hs,hg⟩:=hrel;have HK:=hZq hs;have HG:=hZq hg;clear hs hg
  by_cases hlt:k<m
  ·have hx:L[k]?=some (L[k]'(by omega)):=List.getElem?_eq_getElem (by omega)
   revert hx
   generalize L[k]'(by omega)=x;intro hx;obtain ⟨g,off,u,rfl,c1,hu⟩:=HR.out.node hx;obtain ⟨b1,rfl⟩:=hu.atB;have d1:=HG.out.cell c1 (HS.out.not c1);have FC:=hZq (hB b1 q _ x wr (NodeT.kept (n+1) hu (FrT.mapS HS.out HG.out)) HK.out (HV.out x (List.mem_of_getElem? hx)));have HF:=hZq (flatTakeS (f:=gatT (n+1)) hx);clear hx hu c1;have hme:=mB_gather
   go_wp2_with fail
   refine FC.out.mono ?_;rintro en w5 ⟨rfl,hs5,hg5⟩;have S5:=hZq hs5;have G6:=hZq (gZq HG.out hg5);clear hg5 hs5 FC;go_wp2;refine ⟨⟨k+1,by omega,by go_num,?_,G6.out⟩,?_⟩
   ·rw [HF.out]
    simpa [List.append_assoc] using S5.out
   ·simp only [intOf];omega
  ·have hk2:k=m:=by omega
   subst hk2;have ht:L.take k=L:=List.take_of_length_le (by omega);rw [ht] at HK;go_wp2;refine bodyPost_end (results_none rfl _ _ _) rfl ?_;exact ⟨rfl,HK.out,HG.out⟩
theorem rgather:∀ n,RgC n
 | 0=>rgather_L
 | n+1=>rgather_B (bgather_any (rgather n))
def gatO:Option TrT->List Int
 | none=>[]
 | some t=>gatT t.lv t.root
def NqO:Option TrT->Prop
 | none=>True
 | some t=>NqT t.lv t.root
def NbsP (w:World)(S:List Int)(en:Ending)(w':World):Prop:=∃ q,en=.returned (.map (some q))/\w.heap.size<=q/\SeT w' q S/\w.grownBy w' none
theorem row0_gather (a:Option Addr)(c:Nat)(sa:Option Addr)(sm sc:Nat)(q:Nat)(S:List Int)(w:World)(hS:SeT w q S) :
  Calls Tryz.prog 65 #[.agg #[.slice a 0 c,.slice sa sm sc],.map (some q)] w fun en w'=>en=.returned (.tuple #[])/\SeT w' q S/\w.grownBy w' (some q):=by
 have HS:=hZq hS;have e0:=cell_heap (i:=0) (heap_at0 w #[.slice a 0 c,.slice sa sm sc] 77) rfl;have G1:=hZq (World.grownBy_alloc w (.cells #[.slice a 0 c,.slice sa sm sc] 77) none);clear hS;go_enter Tryz.func65,Tryz.ntmps65
 go_wp2_with fail
 go_loopw [5,9] (fun _ si wr=>si=.int .i64 0/\SeT wr q S/\w.grownBy wr (some q)) (fun _ _ _=>0)
 case atStart=>exact ⟨rfl,HS.out.keptN G1.out,grown_any G1.out⟩
 case round =>
  obtain ⟨rfl,hs,hg⟩:=hrel;have HK:=hZq hs;have HG:=hZq hg;clear hs hg;go_wp2;refine bodyPost_end (results_none rfl _ _ _) rfl ?_;exact ⟨rfl,HK.out,HG.out⟩
theorem numbers_any (t:Option TrT)(p:Nat)(w:World)(ht:TreeT w p t)(hv:NqO t) :
  Calls Tryz.prog 47 #[.pointer (some ⟨p,0,none⟩)] w fun en w'=>NbsP w (gatO t) en w':=by
 have ga:=World.grownBy_alloc w (.map #[] 0) none;obtain ⟨a,m,c,sa,sm,sc,hp,htop⟩:=ht.kept (FrT.of ga);have k1:=cell_heap (i:=0) hp rfl;have k2:=cell_heap (i:=1) hp rfl
 have RC:Hid (Calls Tryz.prog 65 #[.agg #[.slice a m c,.slice sa sm sc],.map (some w.heap.size)] (w.alloc (.map #[] 0)) fun en w'=>en=.returned (.tuple #[])/\SeT w' w.heap.size (gatO t)/\(w.alloc (.map #[] 0)).grownBy w' (some w.heap.size)):=by
  match t,htop,hv with
  | none,htop,_ =>
   have hm:m=0:=htop;subst hm;exact row0_gather a c sa sm sc _ [] _ (SeT.made w)
  | some ⟨n,x⟩,htop,hv =>
   have hns:NsT n (w.alloc (.map #[] 0)) a m c [x]:=htop;refine (rgather n [x] a m c sa sm sc w.heap.size [] _ hns (SeT.made w) (fun y hy=>?_)).mono ?_
   ·rw [List.mem_singleton.1 hy]
    exact hv
   ·rintro en w' ⟨h1,h2,h3⟩
    exact ⟨h1,by simpa [gatO] using h2,h3⟩
 have GA:=hZq ga;have hmm:=@run_makeMap Tryz.prog;clear hp htop ga;go_enter Tryz.func47,Tryz.ntmps47
 go_wp2_with fail
 refine RC.out.mono ?_;rintro en w1 ⟨rfl,hs,hg⟩;have S1:=hZq hs;have G1:=hZq hg;clear hg hs;go_wp2;go_ret;exact ⟨_,rfl,Nat.le_refl _,S1.out,grown_new GA.out G1.out (Nat.le_refl _)⟩
theorem pgB_ref (n:Nat)(h1:¬ (n:Int)<=512)(h2:¬ (262144:Int)<n):((n:Int) - 1) / 4085+1=pgB n:=by
 unfold pgB;simp only [h1,h2,or_self,if_false];omega
theorem refPages10 (n:Nat)(w:World)(hn:n<=100000000):Calls Tryz.prog 29 #[.int .i64 (n:Nat)] w fun en w'=>en=.returned (.int .i64 (pgB n))/\w'=w:=by
 by_cases h1:(n:Int)<=512
 ·have e:pgB n=0:=by unfold pgB;simp [h1]
  rw [e];go_enter Tryz.func29,Tryz.ntmps29;go_wp2;go_ret;exact ⟨rfl,rfl⟩
 ·by_cases h2:(262144:Int)<n
  ·have e:pgB n=0:=by unfold pgB;simp [h2]
   rw [e];go_enter Tryz.func29,Tryz.ntmps29;go_wp2;go_ret;exact ⟨rfl,rfl⟩
  ·have e:=pgB_ref n h1 h2
   rw [<- e];have hq:((n:Int) - 1).tdiv 4085=((n:Int) - 1) / 4085:=Int.tdiv_eq_ediv_of_nonneg (by omega);go_enter Tryz.func29,Tryz.ntmps29;go_wp2;go_ret;exact ⟨by first | rfl | (rw [hq]) | simp [hq],rfl⟩
end Go.Proofs.YtepcgckapoljpaaGreat
