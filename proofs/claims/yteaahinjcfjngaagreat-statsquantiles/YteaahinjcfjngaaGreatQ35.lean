import Derived.Test.YteaahinjcfjngaaGreatQ24
import Derived.Test.YteaahinjcfjngaaGreatQ33
import Derived.Deep.RegionHeld3
namespace Go.Proofs.YteaahinjcfjngaaGreat
open Go.RowKit
def ChS (w:World)(base:Nat)(v:Value)(zs:List Int):Prop:=(zs=[]/\∃ ca,v=.slice ca 0 0)∨(0<zs.length/\w.ownsRow base 3 1 v zs.length (zs.map (Value.int .i64)))
theorem ChS.shape {w:World}{base:Nat}{v:Value}{zs:List Int}(h:ChS w base v zs):∃ a c,v=.slice a zs.length c:=by
 rcases h with ⟨rfl,ca,rfl⟩ | ⟨_,h⟩
 ·exact ⟨ca,0,rfl⟩
 ·exact own_shape10 h
theorem ChS.kept {w w':World}{base:Nat}{v:Value}{zs:List Int}{row:Option Nat}(h:ChS w base v zs)(hg:w.grownBy w' row)(hr:∀ g,row=some g->∃ t,TgT w g t/\t≠3):ChS w' base v zs:=by
 rcases h with h | ⟨h0,h⟩
 ·exact .inl h
 ·refine .inr ⟨h0,h.kept hg ?_⟩
  cases e:v.ownBlock with
  | none=>exact .inl rfl
  | some g =>
   refine .inr (fun e2=>?_);obtain ⟨_,_,cur,z,k⟩:=own_lt10 h e;obtain ⟨t,⟨cur',z',k'⟩,ht⟩:=hr g e2.symm;rw [k] at k';simp only [Option.some.injEq,Obj.cells.injEq] at k';exact ht k'.2.1.symm
theorem own_base {w:World}{b b' e sz n:Nat}{v:Value}{xs:List Value}(h:w.ownsRow b e sz v n xs)(hb:b'<=b):w.ownsRow b' e sz v n xs:=by
 refine ⟨h.1,?_⟩;rcases h.2 with h2 | ⟨g,cap,cur,h1,h2,h3⟩
 ·exact .inl h2
 ·exact .inr ⟨g,cap,cur,h1,by omega,h3⟩
theorem run_more {w:World}{base:Nat}{v:Value}{zs:List Int}{z:Int}{N:Nat}(h:ChS w base v zs)(hN:w.cell? ⟨N,0,none⟩=some (.int .i64 z))(hl:zs.length<=1000000000)(hb:base<=w.heap.size)(ty:TypeId) :
  ∃ v' w',(Builtin.append_ #[30,30] ty #[v,.slice (some ⟨N,0,none⟩) 1 1]).run Tryz.prog w=.ok v' w'/\ChS w' base v' (zs++[z])/\∃ row,w.grownBy w' row/\∀ g,row=some g->base<=g/\TgT w g 3:=by
 obtain ⟨i0,hi,hz0,hz1,hz2⟩:=info_parts info_i10
 have hnews:∀ j u,[Value.int .i64 z][j]?=some u->w.cell? ((⟨N,0,none⟩:Addr).add j)=some u:=by
  intro j u hu
  match j,hu with
  | 0,hu =>
   simp only [List.getElem?_cons_zero,Option.some.injEq] at hu;subst hu;rw [Addr.add_lit];exact hN
  | j+1,hu=>simp at hu
 have h1:∀ u∈[Value.int .i64 z],u.oneCell'=true:=by
  intro u hu;simp at hu;subst hu
  rfl
 rcases h with ⟨rfl,ca,rfl⟩ | ⟨h0,h⟩
 ·cases ca with
  | none =>
   obtain ⟨v',w',r,r1,r2,_⟩:=run_append_own (P:=Tryz.prog) w base 30 ty 3 i0 (.int .i64 0) 1 8 Tryz.underlying30 hi hz0 hz1 hz2 rfl (by decide) (.slice none 0 0) 0 [] ⟨rfl,.inl ⟨rfl,rfl⟩⟩ ⟨N,0,none⟩ 1 1 [.int .i64 z] rfl hnews h1 (by unfold maxLen;omega) (by omega) hb;exact ⟨v',w',r,.inr ⟨by simp,by simpa using r1⟩,_,r2,fun g e=>by simp [Value.ownBlock] at e⟩
  | some b =>
   obtain ⟨v',w',r,r1,r2⟩:=run_append_arg_grows (P:=Tryz.prog) w 30 ty 3 i0 (.int .i64 0) 1 8 Tryz.underlying30 hi hz0 hz1 hz2 rfl (by decide) b 0 0 [] rfl (fun j u hu=>by simp at hu) ⟨N,0,none⟩ 1 1 [.int .i64 z] rfl hnews (by omega) (by unfold maxLen;omega) (by omega);exact ⟨v',w',r,.inr ⟨by simp,by simpa using own_base r1 hb⟩,_,r2,fun g e=>by cases e⟩
 ·obtain ⟨v',w',r,r1,r2,_⟩:=run_append_own (P:=Tryz.prog) w base 30 ty 3 i0 (.int .i64 0) 1 8 Tryz.underlying30 hi hz0 hz1 hz2 rfl (by decide) v zs.length _ h ⟨N,0,none⟩ 1 1 [.int .i64 z] rfl hnews h1 (by unfold maxLen;omega) (by omega) hb
  refine ⟨v',w',r,.inr ⟨by simp,by simpa using r1⟩,_,r2,fun g e=>?_⟩;obtain ⟨k1,_,k2⟩:=own_lt10 h e;exact ⟨k1,k2⟩
theorem wpList_more {w:World}{ops:Array Oper}{rest:List Oper}{o:Oper}{a:Act}{Q:Exit->Act->World->Prop}(hgd:o.guard=none)(s x:Operand)
  (ho:o.op=.call { callee:=.builtin .append,args:=#[s,x],argTypes:=#[30,30] })
  {base:Nat} {v:Value} {zs:List Int} {z:Int} {N:Nat} (hs:a.eval s=v) (hx:a.eval x=.slice (some ⟨N,0,none⟩) 1 1) (h:ChS w base v zs) (hN:w.cell? ⟨N,0,none⟩=some (.int .i64 z)) (hl:zs.length<=1000000000) (hb:base<=w.heap.size)
  (hk:∀ v' w' row,ChS w' base v' (zs++[z])->w.grownBy w' row->(∀ g,row=some g->base<=g/\TgT w g 3)->wpList Tryz.prog ops Q rest (a.put o.dst v') w'):wpList Tryz.prog ops Q (o::rest) a w:=by
 refine wpList_plain hgd fun K hK=>?_
 obtain ⟨v',w',hrun,r1,row,r2,r3⟩:=run_more h hN hl hb o.type;unfold Oper.wp;simp [execOp,ho,resolve,invoke,builtin,hs,hx,hrun,Result.andThen];exact hK _ _ (hk v' w' row r1 r2 r3)
theorem flat_set3 {T:Type}:∀ (es:List (List T)) (i:Nat) (x y z u:T),(∀ e∈es,e.length=3)->es[i]?=some [x,y,z]->es.flatten.set (i*3+2) u=(es.set i [x,y,u]).flatten
 | [],_,_,_,_,_,_,h=>by simp at h
 | e::es,0,x,y,z,u,_,h=>by
  simp only [List.getElem?_cons_zero,Option.some.injEq] at h;subst h
  rfl
 | e::es,i+1,x,y,z,u,hs,h=>by
  have he:=hs e List.mem_cons_self;rw [List.flatten_cons,List.set_cons_succ,List.flatten_cons,<- flat_set3 es i x y z u (fun e h=>hs e (List.mem_cons_of_mem _ h)) (by simpa using h),List.set_append,if_neg (by omega)]
  congr 2
  omega
structure PrW (w:World)(base G m c:Nat)(es:List (List Value)):Prop where
 own:w.ownsRow base 106 3 (.slice (some ⟨G,0,none⟩) m c) m es.flatten
 sz:∀ e∈es,e.length=3
 len:es.length=m
theorem PrW.tg {w:World}{base G m c:Nat}{es:List (List Value)}(h:PrW w base G m c es):TgT w G 106:=(own_lt10 h.own rfl).2.2
theorem PrW.kept {w w':World}{base G m c:Nat}{es:List (List Value)}{row:Option Nat}(h:PrW w base G m c es)(hg:w.grownBy w' row)(hr:∀ g,row=some g->∃ t,TgT w g t/\t≠106):PrW w' base G m c es:=by
 refine ⟨h.own.kept hg (.inr (fun e=>?_)),h.sz,h.len⟩;obtain ⟨cur,z,k⟩:=h.tg;obtain ⟨t,⟨cur',z',k'⟩,ht⟩:=hr G e.symm;rw [k] at k';simp only [Option.some.injEq,Obj.cells.injEq] at k';exact ht k'.2.1.symm
theorem PrW.cell {w:World}{base G m c:Nat}{es:List (List Value)}(h:PrW w base G m c es){i f:Nat}{e:List Value}{u:Value}(he:es[i]?=some e)(hu:e[f]?=some u):w.cell? ⟨G,i*3+f,none⟩=some u:=by
 have h2:=flat_out h.sz he hu;rw [h.own.cellAt _ (by have:=(List.getElem?_eq_some_iff.1 h2).1;have:=h.own.1;omega)];exact h2
theorem PrW.set {w:World}{base G m c:Nat}{es:List (List Value)}(h:PrW w base G m c es){i:Nat}{x y z:Value}(he:es[i]?=some [x,y,z])(u:Value):PrW (w.setCell ⟨G,i*3+2,none⟩ u) base G m c (es.set i [x,y,u])/\w.grownBy (w.setCell ⟨G,i*3+2,none⟩ u) (some G):=by
 obtain ⟨h1,h2⟩:=h.own.stored (i*3+2) u;rw [flat_set3 es i x y z u h.sz he] at h1;refine ⟨⟨h1,fun e hm=>?_,by rw [List.length_set];exact h.len⟩,h2⟩;rcases List.mem_or_eq_of_mem_set hm with hm | rfl
 ·exact h.sz e hm
 ·rfl
theorem ElyT.set {T:Type}{I:List Value->T->Prop}{es:List (List Value)}{L:List T}(h:ElyT I es L)(i:Nat){e:List Value}{x:T}(k:I e x):ElyT I (es.set i e) (L.set i x):=by
 refine ⟨by rw [List.length_set,List.length_set,h.len],fun j e' x' h1 h2=>?_⟩;rw [List.getElem?_set] at h1 h2
 by_cases hj:i=j
 ·rw [if_pos hj] at h1 h2
  split at h1
  ·split at h2
   ·cases h1
    cases h2;exact k
   ·cases h2
  ·cases h1
 ·rw [if_neg hj] at h1 h2
  exact h.el j e' x' h1 h2
theorem PrW.ps {w:World}{base G m c:Nat}{es:List (List Value)}{L:List PrT}(h:PrW w base G m c es)(he:ElyT (IpT w) es L):PsT w (some ⟨G,0,none⟩) m c L:=by
 obtain ⟨a,c',e,k⟩:=EsT.of_owns h.own (by decide) h.sz (fun e hm v hv=>by
  obtain ⟨i,hi⟩:=List.getElem?_of_mem hm;have hil:i<L.length:=by have:=(List.getElem?_eq_some_iff.1 hi).1;have:=he.len;omega
  obtain ⟨ka,kn,kc,va,vn,vc,ca,cn,cc,rfl,_⟩:=he.el i e _ hi (List.getElem?_eq_getElem hil);simp only [List.mem_cons,List.not_mem_nil,or_false] at hv;rcases hv with rfl | rfl | rfl <;> rfl)
 simp only [Value.slice.injEq,true_and] at e;obtain ⟨rfl,rfl⟩:=e;exact ⟨es,k,he⟩
theorem PsT.keptS {S:TypeId->Bool}{w w':World}{a:Option Addr}{n c:Nat}{L:List PrT}(h:PsT w a n c L)(hp:S 106=false)(h8:S 5=false)(hi:S 3=false)(hg:FrX S w w'):PsT w' a n c L:=SlT.monoX h hp hg (fun _ _ k=>k.keptX h8 hi hg)
theorem IbT.keptS {S:TypeId->Bool}{w w':World}{e:List Value}{s:List Int}(h:IbT w e s)(h8:S 5=false)(hg:FrX S w w'):IbT w' e s:=by
 obtain ⟨ao,n,c,h1,h2⟩:=h;exact ⟨ao,n,c,h1,h2.keptX h8 hg⟩
theorem SsT.keptS {S:TypeId->Bool}{w w':World}{a:Option Addr}{n c:Nat}{L:List (List Int)}(h:SsT w a n c L)(hb:S 62=false)(h8:S 5=false)(hg:FrX S w w'):SsT w' a n c L:=SlT.monoX h hb hg (fun _ _ k=>k.keptS h8 hg)
theorem node_uniq:∀ (n m:Nat) {w:World} {v:Value} {x:NdT n} {y:NdT m},NodeT n w v x->NodeT m w v y->OkT n x->OkT m y->n=m
 | 0,0,_,_,_,_,_,_,_,_=>rfl
 | 0,m+1,w,v,x,y,hx,hy,_,_=>by
  obtain ⟨b,a,k,c,h1,_⟩:=hx;obtain ⟨b',a',k',c',sa,sm,sc,h2,_⟩:=hy;rw [h1] at h2;simp at h2
 | n+1,0,w,v,x,y,hx,hy,_,_=>by
  obtain ⟨b,a,k,c,sa,sm,sc,h1,_⟩:=hx;obtain ⟨b',a',k',c',h2,_⟩:=hy;rw [h1] at h2;simp at h2
 | n+1,m+1,w,v,x,y,hx,hy,ox,oy=>by
  obtain ⟨b,a,k,c,sa,sm,sc,h1,hb,hn,_⟩:=hx;obtain ⟨b',a',k',c',sa',sm',sc',h2,hb',hn',_⟩:=hy;rw [h1] at h2;simp only [Value.iface.injEq,Value.pointer.injEq,Option.some.injEq,Addr.mk.injEq,true_and,and_true] at h2;subst h2;rw [hb] at hb';simp only [Option.some.injEq,Obj.cells.injEq,Array.mk.injEq,List.cons.injEq,Value.slice.injEq,and_true,Value.int.injEq,true_and] at hb';obtain ⟨_,⟨rfl,rfl,rfl⟩,_⟩:=hb';have p1:0<(BnT.row (T:=NdT n) x).ns.length:=List.length_pos_iff.2 ox.1;have p2:0<(BnT.row (T:=NdT m) y).ns.length:=List.length_pos_iff.2 oy.1;have e1:(BnT.row (T:=NdT n) x).ns[0]?=some ((BnT.row (T:=NdT n) x).ns[0]'p1):=List.getElem?_eq_getElem p1;have e2:(BnT.row (T:=NdT m) y).ns[0]?=some ((BnT.row (T:=NdT m) y).ns[0]'p2):=List.getElem?_eq_getElem p2;have hn1:NsT n w a k c (BnT.row (T:=NdT n) x).ns:=hn;have hn2:NsT m w a k c (BnT.row (T:=NdT m) y).ns:=hn';obtain ⟨g,off,u,ea,c1,k1⟩:=hn1.node e1;obtain ⟨g',off',u',ea',c2,k2⟩:=hn2.node e2;rw [ea] at ea';simp only [Option.some.injEq,Addr.mk.injEq,and_true] at ea';obtain ⟨rfl,rfl⟩:=ea';rw [c1] at c2;cases c2;rw [node_uniq n m k1 k2 (ox.2.1 _ (List.mem_of_getElem? e1)) (oy.2.1 _ (List.mem_of_getElem? e2))]
def ScQ (t:TypeId):Bool:=t==116
theorem own_list {w:World}{base g m:Nat}{t:TypeId}{xs:List Value}(h:w.ownsRow base t 1 (.slice (some ⟨g,0,none⟩) m m) m xs):w.heap[g]?=some (.cells xs.toArray t (0,0)):=by
 rcases h.2 with ⟨h0,_⟩ | ⟨g',cap,cur,hv,_,hg,_,_,hs,ht⟩
 ·cases h0
 ·injection hv with e1 e2 e3
  injection e1 with e1
  injection e1 with e4
  subst e4 e3;rw [hg,<- ht,List.take_of_length_le (by simp [hs])]
theorem node_put {n:Nat}{base g m:Nat}{xs:List Value}{w:World}(ho:w.ownsRow base 116 1 (.slice (some ⟨g,0,none⟩) m m) m xs)(hx:∀ u∈xs,u=.nilIface∨∃ y,OkT n y/\NodeT n w u y)(i:Nat)(u':Value) :
  ∀ (j:Nat),j<=n->∀ {v:Value} {x:NdT j},NodeT j w v x->OkT j x->NodeT j (w.setCell ⟨g,i,none⟩ u') v x:=by
 have hgw:=own_list ho;have hgr:=grown_cell w g i u';have hfr:FrX ScQ w (w.setCell ⟨g,i,none⟩ u'):=(FrX.refl ScQ w).row hgr (fun b e=>.inr ⟨116,by cases e;exact ⟨_,_,hgw⟩,by decide⟩);intro j
 induction j with
 | zero =>
  intro _ v x h _;obtain ⟨b,a,k,c,h1,h2,h3⟩:=h;exact ⟨b,a,k,c,h1,hfr.keep _ _ _ _ (by decide) h2,h3.keptS (by decide) (by decide) (by decide) hfr⟩
 | succ j ih =>
  intro hj v x h ok;obtain ⟨b,a,k,c,sa,sm,sc,h1,h2,h3,h4⟩:=h;refine ⟨b,a,k,c,sa,sm,sc,h1,hfr.keep _ _ _ _ (by decide) h2,?_,h4.keptS (by decide) (by decide) hfr⟩;have p1:0<(BnT.row (T:=NdT j) x).ns.length:=List.length_pos_iff.2 ok.1;have e1:(BnT.row (T:=NdT j) x).ns[0]?=some ((BnT.row (T:=NdT j) x).ns[0]'p1):=List.getElem?_eq_getElem p1;have hn1:NsT j w a k c (BnT.row (T:=NdT j) x).ns:=h3;obtain ⟨g',off,u,ea,c1,k1⟩:=hn1.node e1
  have hne:g'≠g:=fun e=>by
   subst e
   have hu:u∈xs:=by
    rw [cell_of_row w g' (off+0) _ _ (0,0) hgw] at c1;have:xs[off+0]?=some u:=by simpa using c1
    exact List.mem_of_getElem? this
   rcases hx u hu with rfl | ⟨y,oy,hy⟩
   ·obtain ⟨T,b',e⟩:=k1.one
    cases e
   ·have:=node_uniq j n k1 hy (ok.2.1 _ (List.mem_of_getElem? e1)) oy
    omega
  obtain ⟨es,he1,he2⟩:=h3.ex;refine ⟨es,⟨he1.len,he1.cap,he1.c2,he1.nil,he1.pl,he1.sz,he1.one,fun r e he=>?_⟩,⟨he2.len,fun r e y q1 q2=>?_⟩⟩
  ·obtain ⟨b',off',e5,t5,c5⟩:=he1.cell r e he
   rw [ea] at e5;simp only [Option.some.injEq,Addr.mk.injEq,and_true] at e5;obtain ⟨rfl,rfl⟩:=e5;have hkb:(w.setCell ⟨g,i,none⟩ u').heap[g']?=w.heap[g']?:=heap_setCell_other w ⟨g,i,none⟩ g' u' (fun e=>hne e);obtain ⟨cur,z,t6⟩:=t5;exact ⟨g',off,ea,⟨cur,z,by rw [hkb];exact t6⟩,fun f v hv=>by rw [World.cell?_of_block hkb];exact c5 f v hv⟩
  ·obtain ⟨u1,e6,k6⟩:=he2.el r e y q1 q2
   exact ⟨u1,e6,ih (by omega) k6 (ok.2.1 y (List.mem_of_getElem? q2))⟩
structure RnR (n:Nat)(w0 w wr:World)(q g m k:Nat)(L:List (NdT n))(l:List Int)(us:List Value):Prop where
 own:wr.ownsRow w.heap.size 116 1 (.slice (some ⟨g,0,none⟩) m m) m (us++List.replicate (m - k) .nilIface)
 len:us.length=k
 el:∀ (i:Nat) (u:Value) (y:NdT n),us[i]?=some u->(numL (numT n) (frT n) L l)[i]?=some y->NodeT n wr u y
 nx:NxL w0 wr q (l.drop (sumT (frT n) (L.take k)))
 gr:w.grownBy wr (some q)
theorem set_rep {us:List Value}{m k:Nat}(u:Value)(hl:us.length=k)(hk:k<m):(us++List.replicate (m - k) Value.nilIface).set k u=(us++[u])++List.replicate (m - (k+1)) Value.nilIface:=by
 rw [List.set_append,if_neg (by omega),hl,Nat.sub_self,show m - k=(m - (k+1))+1 by omega,List.replicate_succ,List.set_cons_zero,List.append_assoc]
 rfl
theorem RnR.put {n:Nat}{w0 w wr w5:World}{q g m k:Nat}{L:List (NdT n)}{l:List Int}{us:List Value}(h:RnR n w0 w wr q g m k L l us)(hk:k<m)(hL:L.length=m)(ok:∀ x∈L,OkT n x){x:NdT n}(hx:L[k]?=some x){u:Value} (hu:NodeT n w5 u (numT n x (l.drop (sumT (frT n) (L.take k))))) (hX:NxL w0 w5 q ((l.drop (sumT (frT n) (L.take k))).drop (frT n x))) (hg:wr.grownBy w5 (some q)) (hw:w0.heap.size<=w.heap.size) (hq:∃ t,TgT wr q t/\t≠116) :
  RnR n w0 w (w5.setCell ⟨g,k,none⟩ u) q g m (k+1) L l (us++[u])/\w5.grownBy (w5.setCell ⟨g,k,none⟩ u) (some g):=by
 have hfr:=h.nx.fr hg
 have o5:w5.ownsRow w.heap.size 116 1 (.slice (some ⟨g,0,none⟩) m m) m (us++List.replicate (m - k) .nilIface):=h.own.kept hg (.inr (fun e=>by
  simp only [Value.ownBlock,Option.some.injEq] at e;subst e;obtain ⟨t,⟨cur,z,h1⟩,h2⟩:=hq;rw [own_list h.own] at h1;simp only [Option.some.injEq,Obj.cells.injEq] at h1;exact h2 h1.2.1.symm))
 have hgl:=(o5.lt g rfl);obtain ⟨o6,g6⟩:=o5.stored k u;rw [set_rep u h.len hk] at o6
 have hnum:∀ (i:Nat) (y:NdT n),(numL (numT n) (frT n) L l)[i]?=some y->OkT n y:=fun i y hy=>by
  obtain ⟨z,m',hz,rfl⟩:=numL_mem (List.mem_of_getElem? hy);exact ok_num _ (ok z hz)
 have e5:∀ (i:Nat) (v:Value) (y:NdT n),us[i]?=some v->(numL (numT n) (frT n) L l)[i]?=some y->NodeT n w5 v y:=fun i v y h1 h2=>NodeT.keptX n (h.el i v y h1 h2) hfr
 have hall:∀ v∈us++List.replicate (m - k) Value.nilIface,v=.nilIface∨∃ y,OkT n y/\NodeT n w5 v y:=fun v hv=>by
  rcases List.mem_append.1 hv with hv | hv
  ·obtain ⟨i,hi⟩:=List.getElem?_of_mem hv
   have hil:=(List.getElem?_eq_some_iff.1 hi).1;have hyl:i<(numL (numT n) (frT n) L l).length:=by rw [numL_len];have:=h.len;omega
   exact .inr ⟨_,hnum i _ (List.getElem?_eq_getElem hyl),e5 i v _ hi (List.getElem?_eq_getElem hyl)⟩
  ·exact .inl (List.eq_of_mem_replicate hv)
 refine ⟨⟨o6,by rw [List.length_append,h.len];rfl,fun i v y h1 h2=>?_,?_,?_⟩,g6⟩
 ·by_cases hi:i<us.length
  ·rw [List.getElem?_append_left hi] at h1
   exact node_put o5 hall k u n (Nat.le_refl _) (e5 i v y h1 h2) (hnum i y h2)
  ·have hj:=(List.getElem?_eq_some_iff.1 h1).1
   rw [List.length_append,List.length_singleton] at hj;obtain rfl:i=us.length:=by omega
   simp at h1;subst h1;rw [h.len,numL_get (numT n) (frT n) L l k x hx] at h2;cases h2;exact node_put o5 hall k u n (Nat.le_refl _) hu (ok_num _ (ok x (List.mem_of_getElem? hx)))
 ·rw [sumT_takeS (frT n) hx,<- List.drop_drop]
  exact hX.kept g6 (fun b e=>by cases e;omega)
 ·exact grown_newR (gZq h.gr hg) g6 hgl.1
theorem RnR.ns {n:Nat}{w0 w wr:World}{q g m:Nat}{L:List (NdT n)}{l:List Int}{us:List Value}(h:RnR n w0 w wr q g m m L l us)(hL:L.length=m):NsT n wr (some ⟨g,0,none⟩) m m (numL (numT n) (frT n) L l):=by
 have ho:=h.own;rw [Nat.sub_self,List.replicate_zero,List.append_nil] at ho;have hlen:(us.map fun u=>[u]).length=(numL (numT n) (frT n) L l).length:=by rw [List.length_map,numL_len,h.len,hL]
 have hf:(us.map fun u=>[u]).flatten=us:=by
  clear h ho hlen
  induction us with
  | nil=>rfl
  | cons u us ih=>rw [List.map_cons,List.flatten_cons,ih];rfl
 rw [<- hf] at ho
 have hel:ElyT (InT n wr) (us.map fun u=>[u]) (numL (numT n) (frT n) L l):=⟨hlen,fun i e y h1 h2=>by
  rw [List.getElem?_map,Option.map_eq_some_iff] at h1;obtain ⟨u,h3,rfl⟩:=h1;exact ⟨u,rfl,h.el i u y h3 h2⟩⟩
 obtain ⟨a,c,e,k⟩:=EsT.of_owns ho (by decide) (fun e he=>by obtain ⟨u,_,rfl⟩:=List.mem_map.1 he;rfl) (fun e he v hv=>by
  obtain ⟨i,hi⟩:=List.getElem?_of_mem he;have hil:i<(numL (numT n) (frT n) L l).length:=by have:=(List.getElem?_eq_some_iff.1 hi).1;omega
  obtain ⟨u,rfl,k⟩:=hel.el i e _ hi (List.getElem?_eq_getElem hil);obtain ⟨T,b',rfl⟩:=k.one;rw [List.mem_singleton.1 hv]
  rfl)
 simp only [Value.slice.injEq,true_and] at e;obtain ⟨rfl,rfl⟩:=e;exact ⟨_,k,hel⟩
def numO:Option TrT->List Int->Option TrT
 | none,_=>none
 | some t,l=>some ⟨t.lv,numT t.lv t.root l⟩
def tkL (S:List Int):List Int->Bool
 | []=>true
 | z::zs=>decide (2<=z/\z<524287/\z ∉ S) && tkL (S++[z]) zs
theorem tkL_snoc {zs:List Int}{z:Int}:∀ (S l:List Int),tkL S (l++z::zs)=(tkL S l && (decide (2<=z/\z<524287/\z ∉ S++l) && tkL (S++l++[z]) zs))
 | S,[]=>by simp [tkL]
 | S,y::l=>by
  rw [List.cons_append,tkL,tkL_snoc (S++[y]) l,tkL,Bool.and_assoc];simp
structure UnP (has:List Int)(lo:Int)(count:Nat)(l:List Int):Prop where
 ris:RisN l
 el:∀ z∈l,lo<=z/\2<=z/\z<524287/\z ∉ has
 le:l.length<=count
 all:l.length=count∨∀ z,lo<=z->2<=z->z<524287->z∈l∨z∈has
structure UnI (has:List Int)(lo:Int)(count:Nat)(m:Int)(l:List Int):Prop where
 ris:RisN l
 el:∀ z∈l,lo<=z/\2<=z/\z<m/\z<524287/\z ∉ has
 le:l.length<=count
 all:∀ z,lo<=z->2<=z->z<m->z<524287->z∈l∨z∈has
theorem ris_snoc {l:List Int}{m:Int}(h:RisN l)(hm:∀ z∈l,z<m):RisN (l++[m]):=by
 unfold RisN at *;rw [List.pairwise_append];exact ⟨h,by simp,fun a ha b hb=>by rw [List.mem_singleton.1 hb];exact hm a ha⟩
theorem UnI.out {has:List Int}{lo m:Int}{count:Nat}{l:List Int}(h:UnI has lo count m l)(he:¬ (l.length<count/\m<524287)):UnP has lo count l:=by
 refine ⟨h.ris,fun z hz=>?_,h.le,?_⟩
 ·obtain ⟨h1,h2,h3,h4,h5⟩:=h.el z hz
  exact ⟨h1,h2,h4,h5⟩
 ·by_cases hl:l.length<count
  ·exact .inr (fun z h1 h2 h3=>h.all z h1 h2 (by omega) h3)
  ·exact .inl (by have:=h.le;omega)
theorem UnI.more {has:List Int}{lo m:Int}{count:Nat}{l:List Int}(h:UnI has lo count m l)(hl:l.length<count)(hm:m<524287)(h1:lo<=m)(h2:2<=m)(hn:m ∉ has):UnI has lo count (m+1) (l++[m]):=by
 refine ⟨ris_snoc h.ris (fun z hz=>(h.el z hz).2.2.1),fun z hz=>?_,by rw [List.length_append,List.length_singleton];omega,fun z k1 k2 k3 k4=>?_⟩
 ·rcases List.mem_append.1 hz with hz | hz
  ·obtain ⟨h1,h2,h3,h4,h5⟩:=h.el z hz
   exact ⟨h1,h2,by omega,h4,h5⟩
  ·rw [List.mem_singleton.1 hz]
   exact ⟨h1,h2,by omega,hm,hn⟩
 ·by_cases e:z=m
  ·exact .inl (by rw [e];simp)
  ·rcases h.all z k1 k2 (by omega) k4 with k | k
   ·exact .inl (List.mem_append_left _ k)
   ·exact .inr k
theorem UnI.skip {has:List Int}{lo m:Int}{count:Nat}{l:List Int}(h:UnI has lo count m l)(hn:m∈has):UnI has lo count (m+1) l:=by
 refine ⟨h.ris,fun z hz=>?_,h.le,fun z k1 k2 k3 k4=>?_⟩
 ·obtain ⟨h1,h2,h3,h4,h5⟩:=h.el z hz
  exact ⟨h1,h2,by omega,h4,h5⟩
 ·by_cases e:z=m
  ·exact .inr (by rw [e];exact hn)
  ·exact h.all z k1 k2 (by omega) k4
end Go.Proofs.YteaahinjcfjngaaGreat
