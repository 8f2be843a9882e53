import Derived.Test.YteaahinjcfjngaaGreatQ26
import Derived.Test.YteaahinjcfjngaaGreatQ35
namespace Go.Proofs.YteaahinjcfjngaaGreat
theorem nz_le (l:List Int):(nzT l).length<=l.length:=List.length_filter_le _ _
theorem frP_le (p:PrT):frP p<=65/\(0<frP p->p.chain=[]):=by
 have h1:=pgB_le ((p.val.length:Nat):Int);refine ⟨?_,fun h=>?_⟩
 ·unfold frP
  split <;> omega
 ·unfold frP at h
  split at h
  ·rename_i h2
   exact List.length_eq_zero_iff.1 h2
  ·omega
theorem flatMap_len {T U:Type}(f:T->List U):∀ (L:List T),(L.flatMap f).length=sumT (fun x=>(f x).length) L
 | []=>rfl
 | x::L=>by rw [List.flatMap_cons,List.length_append,flatMap_len f L,sumT]
theorem sumT_two_le {T:Type}{f g h:T->Nat}:∀ (L:List T),(∀ x∈L,f x+g x<=h x)->sumT f L+sumT g L<=sumT h L
 | [],_=>Nat.le_refl _
 | x::L,k=>by
  have h1:=sumT_two_le L (fun y hy=>k y (List.mem_cons_of_mem _ hy));have h2:=k x List.mem_cons_self;rw [sumT,sumT,sumT];omega
theorem sumT_mul {T:Type}(c:Nat):∀ (L:List T),sumT (fun _=>c) L=c*L.length
 | []=>rfl
 | x::L=>by rw [sumT,sumT_mul c L,List.length_cons,Nat.mul_add];omega
theorem sumT_sum {T:Type}(f g:T->Nat):∀ (L:List T),sumT (fun x=>f x+g x) L=sumT f L+sumT g L
 | []=>rfl
 | x::L=>by rw [sumT,sumT_sum f g L,sumT,sumT];omega
theorem sumT_scale {T:Type}(c:Nat)(g:T->Nat):∀ (L:List T),sumT (fun x=>c*g x) L=c*sumT g L
 | []=>rfl
 | x::L=>by rw [sumT,sumT_scale c g L,sumT,Nat.mul_add]
def ChL (n:Nat)(x:NdT n):Prop:=∀ p∈flatT n x,p.chain.length<=65
theorem pages_le:∀ (n:Nat) (x:NdT n),ChL n x->(gatT n x).length+frT n x<=sizeT n x+65*(flatT n x).length
 | 0,x,h=>by
  rw [gatT,frT,sizeT,flatT,List.length_append,flatMap_len];have h1:=nz_le [LfT.no x]
  have h2:=sumT_two_le (f:=fun p:PrT=>(nzT p.chain).length) (g:=frP) (h:=fun _=>65) (LfT.ps x) (fun p hp=>by
   have k1:=nz_le p.chain;have k2:p.chain.length<=65:=h p hp;obtain ⟨k3,k4⟩:=frP_le p
   by_cases e:0<frP p
   ·rw [k4 e]
    simp [nzT];exact k3
   ·show (nzT p.chain).length+frP p<=65
    omega)
  rw [sumT_mul] at h2
  split
  ·rename_i h0
   rw [h0];simp [nzT] at h1 ⊢;simp only [nzT] at h2;omega
  ·simp only [List.length_cons,List.length_nil] at h1
   omega
 | n+1,x,h=>by
  rw [gatT,frT,sizeT,flatT,List.length_append,flatMap_len,flatMap_len];have h1:=nz_le [BnT.no (T:=NdT n) x];have h2:=sumT_two_le (f:=fun y=>(gatT n y).length) (g:=frT n) (h:=fun y=>sizeT n y+65*(flatT n y).length) (BnT.row (T:=NdT n) x).ns (fun y hy=>pages_le n y (fun p hp=>h p (List.mem_flatMap.2 ⟨y,hy,hp⟩)));rw [sumT_sum,sumT_scale] at h2
  split
  ·rename_i h0
   rw [h0];simp [nzT] at h1 ⊢;omega
  ·simp only [List.length_cons,List.length_nil] at h1
   omega
structure SdT (t:Option TrT):Prop where
 ok:OkO t
 nj:NjO t
 rk:RkO t
 nq:NqO t
 ch:∀ p∈flatO t,p.chain.length<=65
theorem SdT.start:SdT none:=⟨trivial,trivial,trivial,trivial,fun p h=>by simp [flatO] at h⟩
theorem SdT.pages {t:Option TrT}(h:SdT t)(hf:(flatO t).length<=2000):(gatO t).length+frO t<=144000:=by
 have h1:=size_tree h.ok h.nj h.rk hf
 match t,h,h1,hf with
 | none,_,_,_=>exact Nat.zero_le _
 | some ⟨n,x⟩,h,h1,hf =>
  have h2:=pages_le n x h.ch;have h3:(flatT n x).length<=2000:=hf;have h4:sizeT n x<=14000:=h1
  show (gatT n x).length+frT n x<=144000
  omega
theorem SdT.change {t u:Option TrT}{key:List Int}{now:List PrT}(h:SdT t)(hn:NowT key now)(hc:∀ p∈now,p.chain=[])(e:treeT t key now=some u):SdT u/\flatO u=updT (flatO t) key now:=by
 obtain ⟨h1,h2⟩:=tree_all h.ok hn e
 have hch:∀ p∈flatO u,p∈now∨p∈flatO t:=fun p hp=>by
  rw [h2] at hp;exact upd_mem hp
 have hnv:NvO NoQ u:=by
  refine tree_nv (.inl rfl) ?_ e
  match t,h.nq with
  | none,_=>trivial
  | some t,hq=>exact hq.no
 refine ⟨⟨h1,tree_nj h.ok h.nj hn e,tree_rk h.ok hn e,?_,fun p hp=>?_⟩,h2⟩
 ·match u,hnv,hch with
  | none,_,_=>trivial
  | some u,hnv,hch =>
   refine ⟨hnv,fun p hp z hz=>?_⟩;rcases hch p hp with k | k
   ·rw [hc p k] at hz
    simp at hz
   ·match t,h.nq,k with
    | some t,hq,k=>exact hq.ch p k z hz
    | none,_,k=>simp [flatO] at k
 ·rcases hch p hp with k | k
  ·rw [hc p k]
   simp
  ·exact h.ch p k
theorem getD_q {l:List Int}(h:∀ z∈l,NoQ z)(i:Nat):NoQ (l.getD i 0):=by
 rw [List.getD_eq_getElem?_getD];cases e:l[i]? with
 | none=>exact .inl rfl
 | some z=>exact h z (List.mem_of_getElem? e)
theorem nv_num:∀ (n:Nat) (x:NdT n) (l:List Int),(∀ z∈l,NoQ z)->NvT NoQ n x->NvT NoQ n (numT n x l)
 | 0,x,l,hl,hx=>by
  rw [numT]
  split
  ·exact getD_q hl _
  ·exact hx
 | n+1,x,l,hl,hx=>by
  rw [numT]
  split
  ·refine ⟨getD_q hl _,fun k hk=>?_⟩
   obtain ⟨y,m,hy,rfl⟩:=numL_mem hk;exact nv_num n y _ (fun z hz=>hl z (List.mem_of_mem_drop hz)) (hx.2 y hy)
  ·exact hx
theorem ch_num:∀ (n:Nat) (x:NdT n) (l:List Int),(∀ z∈l,NoQ z)->∀ p∈flatT n (numT n x l),(∀ P:PrT->Prop,(∀ q∈flatT n x,P q)->(∀ q m,q∈flatT n x->P (numP q (l.drop m)))->P p)
 | 0,x,l,hl,p,hp,P,h1,h2=>by
  rw [numT] at hp
  split at hp
  ·have hp':p∈numL numP frP (LfT.ps x) l:=hp
   obtain ⟨q,m,hq,rfl⟩:=numL_mem hp';exact h2 q m hq
  ·exact h1 p hp
 | n+1,x,l,hl,p,hp,P,h1,h2=>by
  rw [numT] at hp
  split at hp
  ·have hp':p∈(numL (numT n) (frT n) (BnT.row (T:=NdT n) x).ns l).flatMap (flatT n):=hp
   obtain ⟨k,hk,hpk⟩:=List.mem_flatMap.1 hp';obtain ⟨y,m,hy,rfl⟩:=numL_mem hk;refine ch_num n y _ (fun z hz=>hl z (List.mem_of_mem_drop hz)) p hpk P (fun q hq=>h1 q (List.mem_flatMap.2 ⟨y,hy,hq⟩)) (fun q m' hq=>?_);rw [List.drop_drop];exact h2 q _ (List.mem_flatMap.2 ⟨y,hy,hq⟩)
  ·exact h1 p hp
theorem SdT.num {t:Option TrT}(h:SdT t){zs:List Int}(hz:∀ z∈zs,NoQ z):SdT (numO t zs)/\(flatO (numO t zs)).map strP=(flatO t).map strP:=by
 match t,h with
 | none,_=>exact ⟨SdT.start,rfl⟩
 | some ⟨n,x⟩,h =>
  refine ⟨⟨ok_num zs h.ok,nj_num zs h.nj,?_,⟨nv_num n x zs hz h.nq.no,fun p hp z hzp=>?_⟩,fun p hp=>?_⟩,flat_num x zs⟩
  ·match n,x,h.rk with
   | 0,_,_=>trivial
   | n+1,x,hr =>
    show 2<=(BnT.row (T:=NdT n) (numT (n+1) x zs)).ns.length
    rw [numT]
    split
    ·show 2<=(numL (numT n) (frT n) (BnT.row (T:=NdT n) x).ns zs).length
     rw [numL_len];exact hr
    ·exact hr
  ·exact ch_num n x zs hz p hp (fun p=>∀ z∈p.chain,NoQ z) (fun q hq=>h.nq.ch q hq) (fun q m hq z hzq=>by
    have hzq':z∈q.chain++(zs.drop m).take (frP q):=hzq;rcases List.mem_append.1 hzq' with k | k
    ·exact h.nq.ch q hq z k
    ·exact hz z (List.mem_of_mem_drop (List.mem_of_mem_take k))) z hzp
  ·exact ch_num n x zs hz p hp (fun p=>p.chain.length<=65) (fun q hq=>h.ch q hq) (fun q m hq=>by
    show (q.chain++(zs.drop m).take (frP q)).length<=65
    have h1:=h.ch q hq;obtain ⟨k3,k4⟩:=frP_le q;rw [List.length_append,List.length_take]
    by_cases e:0<frP q
    ·rw [k4 e]
     simp;omega
    ·omega)
def noT:(n:Nat)->NdT n->Int
 | 0,x=>LfT.no x
 | n+1,x=>BnT.no (T:=NdT n) x
def HnT:(n:Nat)->NdT n->Prop
 | 0,x=>LfT.no x≠0->∀ p∈LfT.ps x,frP p=0
 | n+1,x=>(BnT.no (T:=NdT n) x≠0->∀ k∈(BnT.row (T:=NdT n) x).ns,noT n k≠0)/\∀ k∈(BnT.row (T:=NdT n) x).ns,HnT n k
theorem sumT_zero {T:Type}{g:T->Nat}:∀ {L:List T},(∀ x∈L,g x=0)->sumT g L=0
 | [],_=>rfl
 | x::L,h=>by rw [sumT,h x List.mem_cons_self,sumT_zero (fun y hy=>h y (List.mem_cons_of_mem _ hy))]
theorem numP_id {p:PrT}(h:frP p=0)(l:List Int):numP p l=p:=by
 unfold numP;rw [h,List.take_zero,List.append_nil]
theorem tellL_mem {T:Type}{f:Nat->T->List NoT}{y:NoT}:∀ {L:List T} {k:Nat},y∈tellL f k L->∃ x k',x∈L/\y∈f k' x
 | [],_,h=>by simp [tellL] at h
 | x::L,k,h=>by
  rw [tellL,List.mem_append] at h;rcases h with h | h
  ·exact ⟨x,k,List.mem_cons_self,h⟩
  ·obtain ⟨z,k',h1,h2⟩:=tellL_mem h
   exact ⟨z,k',List.mem_cons_of_mem _ h1,h2⟩
theorem fr_old:∀ (n:Nat) (x:NdT n),noT n x≠0->frT n x=0
 | 0,x,h=>by
  have h':¬ LfT.no x=0:=h;rw [frT,if_neg h']
 | n+1,x,h=>by
  have h':¬ BnT.no (T:=NdT n) x=0:=h;rw [frT,if_neg h']
theorem num_old {n:Nat}{x:NdT n}(h:noT n x≠0)(l:List Int):numT n x l=x:=by
 cases n with
 | zero =>
  have h':¬ LfT.no x=0:=h;rw [numT,if_neg h']
 | succ n =>
  have h':¬ BnT.no (T:=NdT n) x=0:=h;rw [numT,if_neg h']
theorem numL_all {T:Type}{f:T->List Int->T}{g:T->Nat}{Q:T->Prop}:∀ {L:List T} {l:List Int},sumT g L<=l.length->(∀ x∈L,∀ l',g x<=l'.length->(∀ z∈l',z∈l)->Q (f x l'))->∀ y∈numL f g L l,Q y
 | [],_,_,_,y,hy=>by simp [numL] at hy
 | x::L,l,hl,h,y,hy=>by
  rw [sumT] at hl;rw [numL,List.mem_cons] at hy;rcases hy with rfl | hy
  ·exact h x List.mem_cons_self l (by omega) (fun z hz=>hz)
  ·exact numL_all (L:=L) (l:=l.drop (g x)) (by rw [List.length_drop];omega) (fun x' hx' l' h1 h2=>h x' (List.mem_cons_of_mem _ hx') l' h1 (fun z hz=>List.mem_of_mem_drop (h2 z hz))) y hy
end Go.Proofs.YteaahinjcfjngaaGreat
