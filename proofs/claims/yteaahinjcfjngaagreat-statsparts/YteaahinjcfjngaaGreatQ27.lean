import Derived.Test.YteaahinjcfjngaaGreatQ26
import Derived.Deep.RegionHeld3
import Derived.Deep.CutBlock
import Derived.Deep.DeepCutAuto
import Derived.Deep.CutRange
import Derived.Deep.QuietTactic
import Derived.Laws.AppendOwnNone
import Derived.Laws.OwnMore
namespace Go.Proofs.YteaahinjcfjngaaGreat
open Go.RowKit
theorem flat_at {T:Type}{k:Nat}:∀ {es:List (List T)} {i f:Nat} {e:List T} {u:T},(∀ e∈es,e.length=k)->es[i]?=some e->e[f]?=some u->es.flatten[i*k+f]?=some u
 | [],i,f,e,u,_,h,_=>by simp at h
 | x::es,0,f,e,u,hl,h,hf=>by
  simp only [List.getElem?_cons_zero,Option.some.injEq] at h;subst h;have:=(List.getElem?_eq_some_iff.1 hf).1;rw [List.flatten_cons,Nat.zero_mul,Nat.zero_add,List.getElem?_append_left this];exact hf
 | x::es,i+1,f,e,u,hl,h,hf=>by
  simp only [List.getElem?_cons_succ] at h;have hx:=hl x List.mem_cons_self;have h1:(i+1)*k+f=x.length+(i*k+f):=by rw [hx,Nat.add_mul];omega
  rw [List.flatten_cons,h1,List.getElem?_append_right (by omega),Nat.add_sub_cancel_left];exact flat_at (fun e he=>hl e (List.mem_cons_of_mem _ he)) h hf
theorem PvL.app {w:World}:∀ {e1:List (List Value)} {p1:List PrT} {lo m hi:Nat} {e2:List (List Value)} {p2:List PrT},PvL w e1 p1 lo m->PvL w e2 p2 m hi->PvL w (e1++e2) (p1++p2) lo hi
 | [],[],lo,m,hi,e2,p2,h,k=>k.low h
 | _::es,_::ps,_,_,_,_,_,h,k=>by
  obtain ⟨q,h1,h2,h3,h4⟩:=h;have:=k.le;exact ⟨q,h1,by omega,h3,h4.app k⟩
 | [],_::_,_,_,_,_,_,h,_=>h.elim
 | _::_,[],_,_,_,_,_,h,_=>h.elim
theorem PvL.up {w:World}{es:List (List Value)}{ps:List PrT}{lo hi hi':Nat}(h:PvL w es ps lo hi)(hh:hi<=hi'):PvL w es ps lo hi':=by
 have:=PvL.app h (show PvL w [] [] hi hi' from hh)
 rwa [List.append_nil,List.append_nil] at this
theorem PvL.one {w:World}:∀ {es:List (List Value)} {ps:List PrT} {lo hi:Nat},PvL w es ps lo hi->∀ u∈es.flatten,u.oneCell'=true
 | [],[],_,_,_,u,h=>by simp at h
 | e::es,_::ps,_,_,h,u,hu=>by
  obtain ⟨m,_,_,⟨kv,vv,_,h3,_,_,h6,h7⟩,h4⟩:=h;rw [List.flatten_cons,List.mem_append] at hu;rcases hu with hu | hu
  ·obtain ⟨a,c,e1⟩:=own_shape10 h6.1
   obtain ⟨a',c',e2⟩:=own_shape10 h7.1;rw [h3,e1,e2] at hu;simp only [List.mem_cons,List.not_mem_nil,or_false] at hu;rcases hu with rfl | rfl <;> rfl
  ·exact h4.one u hu
 | [],_::_,_,_,h,_,_=>h.elim
 | _::_,[],_,_,h,_,_=>h.elim
theorem ToM.sz {w:World}{Lb:Nat}:∀ {es:List (List Value)} {xs:List NoT} {lo hi:Nat},ToM w Lb es xs lo hi->∀ e∈es,e.length=6
 | [],[],_,_,_,e,h=>by cases h
 | x::es,_::ps,_,_,h,e,he=>by
  obtain ⟨m,_,_,⟨vp,_,ca,cn,cc,sa,sn,sc,ka,kn,kc,h3,_⟩,h4⟩:=h;rcases List.mem_cons.1 he with rfl | he
  ·rw [h3];rfl
  ·exact h4.sz e he
 | [],_::_,_,_,h,_,_=>h.elim
 | _::_,[],_,_,h,_,_=>h.elim
theorem PvL.at {w:World}:∀ {es:List (List Value)} {ps:List PrT} {lo hi i:Nat} {p:PrT},PvL w es ps lo hi->ps[i]?=some p->∃ e lo' hi',es[i]?=some e/\lo<=lo'/\hi'<=hi/\PvT w lo' hi' e p
 | [],[],_,_,i,p,_,h=>by simp at h
 | e::es,q::ps,lo,hi,0,p,h,hp=>by
  obtain ⟨m,h1,h2,h3,h4⟩:=h;simp only [List.getElem?_cons_zero,Option.some.injEq] at hp;subst hp;exact ⟨e,lo,m,rfl,Nat.le_refl _,h2,h3⟩
 | e::es,q::ps,lo,hi,i+1,p,h,hp=>by
  obtain ⟨m,h1,h2,h3,h4⟩:=h;obtain ⟨e',lo',hi',k1,k2,k3,k4⟩:=h4.at (i:=i) (p:=p) (by simpa using hp);exact ⟨e',lo',hi',by simpa using k1,by omega,k3,k4⟩
 | [],_::_,_,_,_,_,h,_=>h.elim
 | _::_,[],_,_,_,_,h,_=>h.elim
theorem own_bytT {w:World}{base n cap:Nat}{ao:Option Addr}{zs:List Int}(h:w.ownsRow base 5 1 (.slice ao n cap) n (zs.map (Value.int .u8))):Byt w ao n cap zs:=by
 have hl:=h.1;rw [List.length_map,Nat.mul_one] at hl;refine ⟨hl,fun e=>?_,fun ad e j u hu=>?_⟩
 ·rcases h.2 with ⟨h1,h0⟩ | ⟨g,cap',cur,h1,_⟩
  ·injection h1 with _ _ h3
   exact ⟨h0,h3⟩
  ·injection h1 with h2
   rw [e] at h2;cases h2
 ·rcases h.2 with ⟨h1,h0⟩ | ⟨g,cap',cur,h1,_⟩
  ·injection h1 with h2
   rw [e] at h2;cases h2
  ·have h1':=h1
   injection h1 with h2
   rw [e] at h2;have h3:=Option.some.inj h2;rw [h3];exact h.cells (by rw [h1'];rfl) j u hu
structure PwT (w:World)(a:Option Addr)(n c:Nat)(es:List (List Value))(ps:List PrT)(lo hi:Nat):Prop where
 e:EsT w 64 a n c 2 es
 p:PvL w es ps lo hi
theorem PwT.len {w:World}{a:Option Addr}{n c:Nat}{es:List (List Value)}{ps:List PrT}{lo hi:Nat}(h:PwT w a n c es ps lo hi):ps.length=n:=by
 rw [<- h.p.len,h.e.len]
theorem PwT.kept {w w':World}{a:Option Addr}{n c:Nat}{es:List (List Value)}{ps:List PrT}{lo hi:Nat}(h:PwT w a n c es ps lo hi)(hg:FrT w w'):PwT w' a n c es ps lo hi:=⟨h.e.kept (by decide) hg,h.p.kept hg⟩
theorem PwT.pair {w:World}{a:Option Addr}{n c:Nat}{es:List (List Value)}{ps:List PrT}{lo hi:Nat}(h:PwT w a n c es ps lo hi){i:Nat}{p:PrT}(hp:ps[i]?=some p) :
  ∃ b off ka kc va vc,a=some ⟨b,off,none⟩/\w.cell? ⟨b,off+i*2,none⟩=some (.slice ka p.key.length kc)/\w.cell? ⟨b,off+i*2+1,none⟩=some (.slice va p.val.length vc)/\es[i]?=some [.slice ka p.key.length kc,.slice va p.val.length vc]/\Byt w ka p.key.length kc p.key/\Byt w va p.val.length vc p.val:=by
 obtain ⟨e,lo',hi',h1,_,_,⟨kv,vv,m,rfl,_,_,h6,h7⟩⟩:=h.p.at hp;obtain ⟨ka,kc,rfl⟩:=own_shape10 h6.1;obtain ⟨va,vc,rfl⟩:=own_shape10 h7.1;obtain ⟨b,off,rfl,_,q⟩:=h.e.cell i _ h1;exact ⟨b,off,ka,kc,va,vc,rfl,q 0 _ rfl,q 1 _ rfl,h1,own_bytT h6.1,own_bytT h7.1⟩
theorem PvL.take {w:World}:∀ {es:List (List Value)} {ps:List PrT} {lo hi:Nat} (i:Nat),PvL w es ps lo hi->PvL w (es.take i) (ps.take i) lo hi
 | _,_,_,_,0,h=>by rw [List.take_zero,List.take_zero];exact h.le
 | [],[],_,_,i+1,h=>by simpa using h
 | e::es,p::ps,lo,hi,i+1,h=>by
  obtain ⟨m,h1,h2,h3,h4⟩:=h;rw [List.take_succ_cons,List.take_succ_cons];exact ⟨m,h1,h2,h3,h4.take i⟩
 | [],_::_,_,_,_+1,h=>h.elim
 | _::_,[],_,_,_+1,h=>h.elim
theorem PvL.drop {w:World}:∀ {es:List (List Value)} {ps:List PrT} {lo hi:Nat} (i:Nat),PvL w es ps lo hi->PvL w (es.drop i) (ps.drop i) lo hi
 | _,_,_,_,0,h=>by rw [List.drop_zero,List.drop_zero];exact h
 | [],[],_,_,i+1,h=>by simpa using h
 | e::es,p::ps,lo,hi,i+1,h=>by
  obtain ⟨m,h1,h2,h3,h4⟩:=h;rw [List.drop_succ_cons,List.drop_succ_cons];exact (h4.drop i).low h1
 | [],_::_,_,_,_+1,h=>h.elim
 | _::_,[],_,_,_+1,h=>h.elim
theorem PwT.take {w:World}{a:Option Addr}{n c:Nat}{es:List (List Value)}{ps:List PrT}{lo hi:Nat}(h:PwT w a n c es ps lo hi){i:Nat}(hi':i<=n):PwT w a i c (es.take i) (ps.take i) lo hi:=⟨h.e.take hi',h.p.take i⟩
theorem PwT.drop {w:World}{b off n c:Nat}{es:List (List Value)}{ps:List PrT}{lo hi:Nat}(h:PwT w (some ⟨b,off,none⟩) n c es ps lo hi){i:Nat}(hi':i<=n):PwT w (some ⟨b,off+i*2,none⟩) (n - i) (c - i) (es.drop i) (ps.drop i) lo hi:=⟨h.e.drop hi',h.p.drop i⟩
theorem PwT.end {w:World}{b off n c:Nat}{es:List (List Value)}{ps:List PrT}{lo hi:Nat}(h:PwT w (some ⟨b,off,none⟩) n c es ps lo hi){i:Nat}(hi':n<=i):PwT w (some ⟨b,off,none⟩) 0 0 (es.drop i) (ps.drop i) lo hi:=by
 have h1:=h.e.len;have h2:=h.len;rw [List.drop_of_length_le (by omega),List.drop_of_length_le (by omega)];exact ⟨EsT.zero _ _ _ _ _ (by omega) (fun e=>by cases e) (fun x hx=>by cases hx;exact ⟨_,_,rfl⟩),h.p.le⟩
theorem PwT.tail {w:World}{a:Option Addr}{n c:Nat}{es:List (List Value)}{ps:List PrT}{lo hi hi' base k:Nat}(h:PwT w a n c es ps lo hi)(hk:k<=n)(hh:hi<=hi')(hF:(a=none/\c=0)∨∃ g,a=some ⟨g,0,none⟩/\base<=g) :
  (c=k->(∃ x,PwT w a (n - k) 0 x (ps.drop k) lo hi')/\∀ ad,a=some ad->base<=ad.block)/\((∃ x,PwT w (a.map fun x=>x.add (k*2)) (n - k) (c - k) x (ps.drop k) lo hi')/\∀ ad,(a.map fun x=>x.add (k*2))=some ad->base<=ad.block):=by
 have hc:=h.e.cap;have h1:=h.e.len;have h2:=h.len;have hp:=(h.p.drop k).up hh;rcases hF with ⟨rfl,rfl⟩ | ⟨g,rfl,hb⟩
 ·have e0:n - k=0:=by omega
  rw [e0];have e1:es.drop k=[]:=List.drop_of_length_le (by omega);have e2:0 - k=0:=by omega
  rw [e1] at hp;exact ⟨fun _=>⟨⟨_,EsT.nul _ _ _,hp⟩,fun ad e=>by cases e⟩,⟨_,by rw [e2];exact EsT.nul _ _ _,hp⟩,fun ad e=>by cases e⟩
 ·refine ⟨fun e=>⟨⟨_,?_,hp⟩,fun ad e=>by cases e;exact hb⟩,⟨_,?_,hp⟩,fun ad e=>?_⟩
  ·have e0:n - k=0:=by omega
   rw [e0,List.drop_of_length_le (by omega)];exact EsT.zero _ _ _ _ _ (by omega) (fun e=>by cases e) (fun x hx=>by cases hx;exact ⟨_,_,rfl⟩)
  ·rw [Option.map_some,Addr.add_lit]
   exact h.e.drop hk
  ·rw [Option.map_some,Addr.add_lit] at e
   cases e;exact hb
end Go.Proofs.YteaahinjcfjngaaGreat
namespace Go.Proofs.YteaahinjcfjngaaGreat
theorem down_lv:∀ (n:Nat) (x:NdT n),(downT n x).lv<=n
 | 0,_=>Nat.le_refl _
 | n+1,x=>by
  rw [downT]
  split
  ·have:=down_lv n ‹NdT n›
   omega
  ·exact Nat.le_refl _
theorem rooted_high (n:Nat)(r:RwT (NdT n)):highO (rootedT n r)<=n+2:=by
 unfold rootedT
 split
 ·simp [highO]
 ·rename_i x _
  have:=down_lv n x;simp only [highO];omega
 ·simp [highO]
theorem tree_high {t u:Option TrT}{key:List Int}{now:List PrT}(h:treeT t key now=some u):highO u<=highO t+2:=by
 cases t with
 | none =>
  simp only [treeT,Option.map_eq_some_iff] at h;obtain ⟨r,_,rfl⟩:=h;have:=rooted_high 0 r;have e:highO none=0:=rfl;omega
 | some t =>
  obtain ⟨n,x⟩:=t;simp only [treeT,Option.map_eq_some_iff] at h;obtain ⟨r,_,rfl⟩:=h;have:=rooted_high n r;have e:highO (some ⟨n,x⟩)=n+1:=rfl;omega
structure GwT (k:Nat)(t:Option TrT)(L:List PrT):Prop where
 ok:OkO t
 fl:flatO t=L
 hi:highO t<=2*k
 le:L.length<=k
 ch:∀ p∈L,p.chain=[]
theorem flatO_srt {t:Option TrT}(h:OkO t):Srt (flatO t):=by
 cases t with
 | none=>exact List.Pairwise.nil
 | some t=>exact flat_srt _ _ h
theorem flatO_vp {t:Option TrT}(h:OkO t):∀ p∈flatO t,Vp p:=by
 cases t with
 | none=>intro p hp;cases hp
 | some t=>exact flat_vp _ _ h
theorem GwT.srt {k:Nat}{t:Option TrT}{L:List PrT}(h:GwT k t L):Srt L:=by rw [<- h.fl];exact flatO_srt h.ok
theorem GwT.vp {k:Nat}{t:Option TrT}{L:List PrT}(h:GwT k t L):∀ p∈L,Vp p:=by rw [<- h.fl];exact flatO_vp h.ok
theorem GwT.start:GwT 0 none []:=⟨trivial,rfl,by simp [highO],Nat.le_refl _,fun p hp=>by cases hp⟩
theorem GwT.more {k:Nat}{t:Option TrT}{L:List PrT}(h:GwT k t L):GwT (k+1) t L:=⟨h.ok,h.fl,by have:=h.hi;omega,by have:=h.le;omega,h.ch⟩
theorem upd_same {L:List PrT}{key:List Int}(h:Srt L):updT L key (midT L key)=L:=by
 obtain ⟨_,_,e3⟩:=leaf_cut (key:=key) h;have e:=upd_leaf (key:=key) (now:=midT L key) h;rw [<- e,<- e3];have hfe:=find_end L key
 have h4:(L.take (endT L key)).drop (findT L key)++L.drop (endT L key)=L.drop (findT L key):=by
  have h5:=congrArg (List.drop (findT L key)) (List.take_append_drop (endT L key) L);rw [List.drop_append] at h5
  have h6:findT L key - (L.take (endT L key)).length=0:=by
   rw [List.length_take];have:=find_le L key;omega
  rw [h6,List.drop_zero] at h5;exact h5
 rw [h4,List.take_append_drop]
theorem upd_len2 {L:List PrT}{key:List Int}{now:List PrT}(h:Srt L)(h1:now.length<=1):(updT L key now).length<=L.length+1:=by
 rw [<- upd_leaf h,List.length_append,List.length_append,List.length_take,List.length_drop];have:=find_end L key;have:=find_le L key;omega
theorem GwT.step {k:Nat}{t u:Option TrT}{L:List PrT}{key:List Int}{now:List PrT}(h:GwT k t L)(hn:NowT key now)(hc:∀ p∈now,p.chain=[])(e:treeT t key now=some u):GwT (k+1) u (updT L key now):=by
 obtain ⟨k1,k2⟩:=tree_all h.ok hn e;have h1:=tree_high e;have h2:=h.hi;have h3:=upd_len2 (key:=key) h.srt hn.one;have h4:=h.le;refine ⟨k1,by rw [k2,h.fl],by omega,by omega,fun p hp=>?_⟩;rcases upd_mem hp with h | h'
 ·exact hc p h
 ·exact h.ch p h'
theorem GwT.same {k:Nat}{t:Option TrT}{L:List PrT}{key:List Int}{now:List PrT}(h:GwT k t L)(hn:NowT key now)(hc:∀ p∈now,p.chain=[])(e:treeT t key now=none):GwT (k+1) t (updT L key now):=by
 have e2:=(tree_none h.ok).1 e;rw [h.fl] at e2
 have e3:midT L key=now:=by
  have hm:∀ p∈midT L key,p.key=key/\p.chain=[]:=fun p hp=>by
   obtain ⟨p1,p2⟩:=List.mem_filter.1 hp;exact ⟨cmp_zero (by simpa using p2),h.ch p p1⟩
  have hk:∀ p∈now,p.key=key/\p.chain=[]:=fun p hp=>⟨hn.key p hp,hc p hp⟩
  revert e2 hm hk
  generalize midT L key=A;clear h hn hc e
  induction A generalizing now with
  | nil =>
   intro e2 _ _;cases now with
   | nil=>rfl
   | cons p ps=>simp at e2
  | cons x A ih =>
   intro e2 hm hk;cases now with
   | nil=>simp at e2
   | cons p ps =>
    simp only [List.map_cons,List.cons.injEq] at e2;have a1:=hm x List.mem_cons_self;have a2:=hk p List.mem_cons_self;rw [ih e2.2 (fun q hq=>hm q (List.mem_cons_of_mem _ hq)) (fun q hq=>hk q (List.mem_cons_of_mem _ hq))];obtain ⟨xk,xv,xc⟩:=x;obtain ⟨pk,pv,pc⟩:=p;simp only at a1 a2 e2;rw [a1.1,a1.2,a2.1,a2.2,e2.1]
 rw [<- e3,upd_same h.srt];exact h.more
end Go.Proofs.YteaahinjcfjngaaGreat
