import Derived.Test.YtepcgckapoljpaaGreatQ33
import Derived.Test.YtepcgckapoljpaaGreatQ31
namespace Go.Proofs.YtepcgckapoljpaaGreat
theorem nodup_le:∀ {l G:List Int},l.Nodup->(∀ z∈l,z∈G)->l.length<=G.length
 | [],_,_,_=>Nat.zero_le _
 | z::l,G,hn,h=>by
  have hz:=h z List.mem_cons_self;have hn':=List.nodup_cons.1 hn
  have h1:=nodup_le (l:=l) (G:=G.erase z) hn'.2 (fun y hy=>by
   have hne:y≠z:=fun e=>hn'.1 (e ▸ hy)
   exact (List.mem_erase_of_ne hne).2 (h y (List.mem_cons_of_mem _ hy)))
  rw [List.length_erase_of_mem hz] at h1;have:=List.length_pos_of_mem hz;rw [List.length_cons];omega
theorem RisN.nodup {l:List Int}(h:RisN l):l.Nodup:=by
 unfold RisN at h;exact h.imp (fun {a b} hab=>by omega)
theorem nz_le (l:List Int):(nzT l).length<=l.length:=List.length_filter_le _ _
theorem frP_le (p:PrT):frP p<=65/\(0<frP p->p.chain=[]):=by
 have h1:=pgB_le ((p.val.length:Nat):Int);refine ⟨?_,fun h=>?_⟩
 ·unfold frP
  split <;> omega
 ·unfold frP at h
  split at h
  ·rename_i h2
   exact List.length_eq_zero_iff.1 h2
  ·omega
theorem flatMap_len {T U:Type}(f:T->List U):∀ (L:List T),(L.flatMap f).length=sumT (fun x=>(f x).length) L
 | []=>rfl
 | x::L=>by rw [List.flatMap_cons,List.length_append,flatMap_len f L,sumT]
theorem sumT_two_le {T:Type}{f g h:T->Nat}:∀ (L:List T),(∀ x∈L,f x+g x<=h x)->sumT f L+sumT g L<=sumT h L
 | [],_=>Nat.le_refl _
 | x::L,k=>by
  have h1:=sumT_two_le L (fun y hy=>k y (List.mem_cons_of_mem _ hy));have h2:=k x List.mem_cons_self;rw [sumT,sumT,sumT];omega
theorem sumT_mul {T:Type}(c:Nat):∀ (L:List T),sumT (fun _=>c) L=c*L.length
 | []=>rfl
 | x::L=>by rw [sumT,sumT_mul c L,List.length_cons,Nat.mul_add];omega
theorem sumT_sum {T:Type}(f g:T->Nat):∀ (L:List T),sumT (fun x=>f x+g x) L=sumT f L+sumT g L
 | []=>rfl
 | x::L=>by rw [sumT,sumT_sum f g L,sumT,sumT];omega
theorem sumT_scale {T:Type}(c:Nat)(g:T->Nat):∀ (L:List T),sumT (fun x=>c*g x) L=c*sumT g L
 | []=>rfl
 | x::L=>by rw [sumT,sumT_scale c g L,sumT,Nat.mul_add]
def ChL (n:Nat)(x:NdT n):Prop:=∀ p∈flatT n x,p.chain.length<=65
theorem pages_le:∀ (n:Nat) (x:NdT n),ChL n x->(gatT n x).length+frT n x<=sizeT n x+65*(flatT n x).length
 | 0,x,h=>by
  rw [gatT,frT,sizeT,flatT,List.length_append,flatMap_len];have h1:=nz_le [LfT.no x]
  have h2:=sumT_two_le (f:=fun p:PrT=>(nzT p.chain).length) (g:=frP) (h:=fun _=>65) (LfT.ps x) (fun p hp=>by
   have k1:=nz_le p.chain;have k2:p.chain.length<=65:=h p hp;obtain ⟨k3,k4⟩:=frP_le p
   by_cases e:0<frP p
   ·rw [k4 e]
    simp [nzT];exact k3
   ·show (nzT p.chain).length+frP p<=65
    omega)
  rw [sumT_mul] at h2
  split
  ·rename_i h0
   rw [h0];simp [nzT] at h1 ⊢;simp only [nzT] at h2;omega
  ·simp only [List.length_cons,List.length_nil] at h1
   omega
 | n+1,x,h=>by
  rw [gatT,frT,sizeT,flatT,List.length_append,flatMap_len,flatMap_len];have h1:=nz_le [BnT.no (T:=NdT n) x];have h2:=sumT_two_le (f:=fun y=>(gatT n y).length) (g:=frT n) (h:=fun y=>sizeT n y+65*(flatT n y).length) (BnT.row (T:=NdT n) x).ns (fun y hy=>pages_le n y (fun p hp=>h p (List.mem_flatMap.2 ⟨y,hy,hp⟩)));rw [sumT_sum,sumT_scale] at h2
  split
  ·rename_i h0
   rw [h0];simp [nzT] at h1 ⊢;omega
  ·simp only [List.length_cons,List.length_nil] at h1
   omega
structure SdT (t:Option TrT):Prop where
 ok:OkO t
 nj:NjO t
 rk:RkO t
 nq:NqO t
 ch:∀ p∈flatO t,p.chain.length<=65
theorem SdT.start:SdT none:=⟨trivial,trivial,trivial,trivial,fun p h=>by simp [flatO] at h⟩
theorem SdT.pages {t:Option TrT}(h:SdT t)(hf:(flatO t).length<=2000):(gatO t).length+frO t<=144000:=by
 have h1:=size_tree h.ok h.nj h.rk hf
 match t,h,h1,hf with
 | none,_,_,_=>exact Nat.zero_le _
 | some ⟨n,x⟩,h,h1,hf =>
  have h2:=pages_le n x h.ch;have h3:(flatT n x).length<=2000:=hf;have h4:sizeT n x<=14000:=h1
  show (gatT n x).length+frT n x<=144000
  omega
theorem SdT.chk {t:Option TrT}(h:SdT t):ChkO t:=by
 match t,h with
 | none,_=>trivial
 | some ⟨n,x⟩,h=>exact fun p hp=>by have:=h.ch p hp;omega
theorem SdT.change {t u:Option TrT}{key:List Int}{now:List PrT}(h:SdT t)(hn:NowT key now)(hc:∀ p∈now,p.chain=[])(e:treeT t key now=some u):SdT u/\flatO u=updT (flatO t) key now:=by
 obtain ⟨h1,h2⟩:=tree_all h.ok hn e
 have hch:∀ p∈flatO u,p∈now∨p∈flatO t:=fun p hp=>by
  rw [h2] at hp;exact upd_mem hp
 have hnv:NvO NoQ u:=by
  refine tree_nv (.inl rfl) ?_ e
  match t,h.nq with
  | none,_=>trivial
  | some t,hq=>exact hq.no
 refine ⟨⟨h1,tree_nj h.ok h.nj hn e,tree_rk h.ok hn e,?_,fun p hp=>?_⟩,h2⟩
 ·match u,hnv,hch with
  | none,_,_=>trivial
  | some u,hnv,hch =>
   refine ⟨hnv,fun p hp z hz=>?_⟩;rcases hch p hp with k | k
   ·rw [hc p k] at hz
    simp at hz
   ·match t,h.nq,k with
    | some t,hq,k=>exact hq.ch p k z hz
    | none,_,k=>simp [flatO] at k
 ·rcases hch p hp with k | k
  ·rw [hc p k]
   simp
  ·exact h.ch p k
theorem tk_of:∀ {zs S:List Int},RisN zs->(∀ z∈zs,2<=z/\z<524287/\z ∉ S)->tkL S zs=true
 | [],_,_,_=>rfl
 | z::zs,S,hr,h=>by
  have hr':=List.pairwise_cons.1 hr;rw [tkL,decide_eq_true (h z List.mem_cons_self),Bool.true_and];refine tk_of hr'.2 (fun y hy=>?_);obtain ⟨h1,h2,h3⟩:=h y (List.mem_cons_of_mem _ hy);refine ⟨h1,h2,fun hm=>?_⟩;rcases List.mem_append.1 hm with hm | hm
  ·exact h3 hm
  ·have:=hr'.1 y hy
   rw [List.mem_singleton.1 hm] at this;omega
theorem un_full {has:List Int}{count:Nat}{l:List Int}(h:UnP has 2 count l)(hb:has.length+count<=500000):l.length=count:=by
 rcases h.all with k | k
 ·exact k
 ·exfalso
  have hle:=h.le
  have h1:=nodup_le (l:=(List.range 524285).map fun i:Nat=>(i:Int)+2) (G:=l++has) (by
   unfold List.Nodup;rw [List.pairwise_map];exact List.nodup_range.imp (fun {a b} hab=>by omega)) (fun z hz=>by
   obtain ⟨i,hi,rfl⟩:=List.mem_map.1 hz;have:=List.mem_range.1 hi;exact List.mem_append.2 (k _ (by omega) (by omega) (by omega)))
  rw [List.length_map,List.length_range,List.length_append] at h1;omega
theorem getD_q {l:List Int}(h:∀ z∈l,NoQ z)(i:Nat):NoQ (l.getD i 0):=by
 rw [List.getD_eq_getElem?_getD];cases e:l[i]? with
 | none=>exact .inl rfl
 | some z=>exact h z (List.mem_of_getElem? e)
theorem nv_num:∀ (n:Nat) (x:NdT n) (l:List Int),(∀ z∈l,NoQ z)->NvT NoQ n x->NvT NoQ n (numT n x l)
 | 0,x,l,hl,hx=>by
  rw [numT]
  split
  ·exact getD_q hl _
  ·exact hx
 | n+1,x,l,hl,hx=>by
  rw [numT]
  split
  ·refine ⟨getD_q hl _,fun k hk=>?_⟩
   obtain ⟨y,m,hy,rfl⟩:=numL_mem hk;exact nv_num n y _ (fun z hz=>hl z (List.mem_of_mem_drop hz)) (hx.2 y hy)
  ·exact hx
theorem ch_num:∀ (n:Nat) (x:NdT n) (l:List Int),(∀ z∈l,NoQ z)->∀ p∈flatT n (numT n x l),(∀ P:PrT->Prop,(∀ q∈flatT n x,P q)->(∀ q m,q∈flatT n x->P (numP q (l.drop m)))->P p)
 | 0,x,l,hl,p,hp,P,h1,h2=>by
  rw [numT] at hp
  split at hp
  ·have hp':p∈numL numP frP (LfT.ps x) l:=hp
   obtain ⟨q,m,hq,rfl⟩:=numL_mem hp';exact h2 q m hq
  ·exact h1 p hp
 | n+1,x,l,hl,p,hp,P,h1,h2=>by
  rw [numT] at hp
  split at hp
  ·have hp':p∈(numL (numT n) (frT n) (BnT.row (T:=NdT n) x).ns l).flatMap (flatT n):=hp
   obtain ⟨k,hk,hpk⟩:=List.mem_flatMap.1 hp';obtain ⟨y,m,hy,rfl⟩:=numL_mem hk;refine ch_num n y _ (fun z hz=>hl z (List.mem_of_mem_drop hz)) p hpk P (fun q hq=>h1 q (List.mem_flatMap.2 ⟨y,hy,hq⟩)) (fun q m' hq=>?_);rw [List.drop_drop];exact h2 q _ (List.mem_flatMap.2 ⟨y,hy,hq⟩)
  ·exact h1 p hp
theorem SdT.num {t:Option TrT}(h:SdT t){zs:List Int}(hz:∀ z∈zs,NoQ z):SdT (numO t zs)/\(flatO (numO t zs)).map strP=(flatO t).map strP:=by
 match t,h with
 | none,_=>exact ⟨SdT.start,rfl⟩
 | some ⟨n,x⟩,h =>
  refine ⟨⟨ok_num zs h.ok,nj_num zs h.nj,?_,⟨nv_num n x zs hz h.nq.no,fun p hp z hzp=>?_⟩,fun p hp=>?_⟩,flat_num x zs⟩
  ·match n,x,h.rk with
   | 0,_,_=>trivial
   | n+1,x,hr =>
    show 2<=(BnT.row (T:=NdT n) (numT (n+1) x zs)).ns.length
    rw [numT]
    split
    ·show 2<=(numL (numT n) (frT n) (BnT.row (T:=NdT n) x).ns zs).length
     rw [numL_len];exact hr
    ·exact hr
  ·exact ch_num n x zs hz p hp (fun p=>∀ z∈p.chain,NoQ z) (fun q hq=>h.nq.ch q hq) (fun q m hq z hzq=>by
    have hzq':z∈q.chain++(zs.drop m).take (frP q):=hzq;rcases List.mem_append.1 hzq' with k | k
    ·exact h.nq.ch q hq z k
    ·exact hz z (List.mem_of_mem_drop (List.mem_of_mem_take k))) z hzp
  ·exact ch_num n x zs hz p hp (fun p=>p.chain.length<=65) (fun q hq=>h.ch q hq) (fun q m hq=>by
    show (q.chain++(zs.drop m).take (frP q)).length<=65
    have h1:=h.ch q hq;obtain ⟨k3,k4⟩:=frP_le q;rw [List.length_append,List.length_take]
    by_cases e:0<frP q
    ·rw [k4 e]
     simp;omega
    ·omega)
structure HerT (P:(n:Nat)->NdT n->Prop):Prop where
 leaf:∀ ps:List PrT,P 0 (⟨0,ps⟩:LfT)
 branch:∀ (n:Nat) (r:RwT (NdT n)),(∀ k∈r.ns,P n k)->P (n+1) (⟨0,r⟩:BnT (NdT n))
 kid:∀ (n:Nat) (x:NdT (n+1)),P (n+1) x->∀ k∈(BnT.row (T:=NdT n) x).ns,P n k
theorem tidy_her {P:(n:Nat)->NdT n->Prop}{n:Nat}(hD:∀ (a:NdT n) (s:List Int) (b:NdT n),P n a->P n b->P n (joinedT n a s b))(c:Nat)(r:RwT (NdT n))(i:Nat)(h:∀ k∈r.ns,P n k):∀ k∈(tidyT (joinsT n) (joinedT n) c r i).ns,P n k:=by
 refine tidy_ind (P:=fun q=>∀ k∈q.ns,P n k) (fun q _ a s b hq h1 h2 h3 hJ k hk=>?_) c r i h;simp only [joinAt,List.mem_append,List.mem_cons,List.not_mem_nil,or_false] at hk;rcases hk with hk | rfl | hk
 ·exact hq k (List.mem_of_mem_take hk)
 ·exact hD a s b (hq a (List.mem_of_getElem? h1)) (hq b (List.mem_of_getElem? h3))
 ·exact hq k (List.mem_of_mem_drop hk)
theorem joined_her {P:(n:Nat)->NdT n->Prop}(hP:HerT P):∀ (n:Nat) (a:NdT n) (s:List Int) (b:NdT n),P n a->P n b->P n (joinedT n a s b)
 | 0,a,s,b,_,_=>hP.leaf _
 | n+1,a,s,b,ha,hb=>by
  rw [joinedT];refine hP.branch n _ (tidy_her (joined_her hP n) 1 _ _ (fun k hk=>?_));rcases List.mem_append.1 hk with hk | hk
  ·exact hP.kid n a ha k hk
  ·exact hP.kid n b hb k hk
theorem settleL_her {P:(n:Nat)->NdT n->Prop}(hP:HerT P)(ps:List PrT):∀ k∈(settleL ps).ns,P 0 k:=by
 unfold settleL
 split
 ·intro k hk
  simp at hk
 ·split
  ·intro k hk
   have:k=(⟨0,ps⟩:LfT):=by simpa using hk
   rw [this];exact hP.leaf _
  ·intro k hk
   rcases mem_two hk with rfl | rfl
   ·exact hP.leaf _
   ·exact hP.leaf _
theorem settleB_her {P:(n:Nat)->NdT n->Prop}(hP:HerT P){n:Nat}{r:RwT (NdT n)}(h:∀ k∈r.ns,P n k):∀ k∈(settleB r).ns,P (n+1) k:=by
 unfold settleB
 split
 ·intro k hk
  simp at hk
 ·split
  ·intro k hk
   have:k=(⟨0,r⟩:BnT (NdT n)):=by simpa using hk
   rw [this];exact hP.branch n _ h
  ·intro k hk
   rcases mem_two hk with rfl | rfl
   ·exact hP.branch n _ (fun z hz=>h z (List.mem_of_mem_take hz))
   ·exact hP.branch n _ (fun z hz=>h z (List.mem_of_mem_drop hz))
theorem changed_her {P:(n:Nat)->NdT n->Prop}(hP:HerT P):∀ (n:Nat) (x:NdT n) (key:List Int) (now:List PrT) (r:RwT (NdT n)),P n x->changedT n x key now=some r->∀ k∈r.ns,P n k
 | 0,x,key,now,r,_,hr=>by
  rw [changedT] at hr
  split at hr
  ·cases hr
  ·cases hr
   exact settleL_her hP _
 | n+1,x,key,now,r,hx,hr=>by
  rw [changedT] at hr
  split at hr
  ·cases hr
  ·rename_i k hk
   simp only [Option.map_eq_some_iff] at hr;obtain ⟨b,hb,rfl⟩:=hr;have bv:=changed_her hP n k key now b (hP.kid n x hx k (List.mem_of_getElem? hk)) hb;refine settleB_her hP (tidy_her (joined_her hP n) _ _ _ (fun z hz=>?_));rcases repl_mem hz with hz | hz
   ·exact hP.kid n x hx z hz
   ·exact bv z hz
def HerO (P:(n:Nat)->NdT n->Prop):Option TrT->Prop
 | none=>True
 | some t=>P t.lv t.root
theorem down_her {P:(n:Nat)->NdT n->Prop}(hP:HerT P):∀ (n:Nat) (x:NdT n),P n x->P (downT n x).lv (downT n x).root
 | 0,_,h=>h
 | n+1,x,h=>by
  match e:(BnT.row (T:=NdT n) x).ns with
  | [y] =>
   have ed:downT (n+1) x=downT n y:=by rw [downT,e]
   rw [ed];exact down_her hP n y (hP.kid n x h y (by rw [e];exact List.mem_singleton.2 rfl))
  | [] =>
   have ed:downT (n+1) x=⟨n+1,x⟩:=by rw [downT,e]
   rw [ed];exact h
  | _::_::_ =>
   have ed:downT (n+1) x=⟨n+1,x⟩:=by rw [downT,e]
   rw [ed];exact h
theorem rooted_her {P:(n:Nat)->NdT n->Prop}(hP:HerT P){n:Nat}{r:RwT (NdT n)}(h:∀ k∈r.ns,P n k):HerO P (rootedT n r):=by
 unfold rootedT
 split
 ·trivial
 ·rename_i x e
  exact down_her hP n x (h x (by rw [e];exact List.mem_singleton.2 rfl))
 ·exact hP.branch n r h
theorem tree_her {P:(n:Nat)->NdT n->Prop}(hP:HerT P){t u:Option TrT}{key:List Int}{now:List PrT}(hj:HerO P t)(h:treeT t key now=some u):HerO P u:=by
 cases t with
 | none =>
  simp only [treeT,Option.map_eq_some_iff] at h;obtain ⟨r,hr,rfl⟩:=h;exact rooted_her hP (changed_her hP 0 (⟨0,[]⟩:LfT) key now r (hP.leaf _) hr)
 | some t =>
  obtain ⟨n,x⟩:=t;simp only [treeT,Option.map_eq_some_iff] at h;obtain ⟨r,hr,rfl⟩:=h;exact rooted_her hP (changed_her hP n x key now r hj hr)
def noT:(n:Nat)->NdT n->Int
 | 0,x=>LfT.no x
 | n+1,x=>BnT.no (T:=NdT n) x
def HnT:(n:Nat)->NdT n->Prop
 | 0,x=>LfT.no x≠0->∀ p∈LfT.ps x,frP p=0
 | n+1,x=>(BnT.no (T:=NdT n) x≠0->∀ k∈(BnT.row (T:=NdT n) x).ns,noT n k≠0)/\∀ k∈(BnT.row (T:=NdT n) x).ns,HnT n k
theorem hn_her:HerT HnT:=⟨fun _ h=>absurd rfl h,fun _ _ h=>⟨fun h0=>absurd rfl h0,h⟩,fun _ _ h=>h.2⟩
def frN (x:NoT):Nat:=sumT frP x.ps+if x.no=0 then 1 else 0
def numX (x:NoT)(l:List Int):NoT:=⟨if x.no=0 then l.getD (sumT frP x.ps) 0 else x.no,x.lv,numL numP frP x.ps l,x.ss,x.ks⟩
def numN (xs:List NoT)(l:List Int):List NoT:=numL numX frN xs l
theorem numL_app {T:Type}(f:T->List Int->T)(g:T->Nat):∀ (A B:List T) (l:List Int),numL f g (A++B) l=numL f g A l++numL f g B (l.drop (sumT g A))
 | [],B,l=>by simp [numL,sumT]
 | x::A,B,l=>by
  rw [List.cons_append,numL,numL,numL_app f g A B,List.cons_append,sumT,List.drop_drop]
theorem numL_id {T:Type}{f:T->List Int->T}{g:T->Nat}:∀ {L:List T} {l:List Int},(∀ x∈L,∀ l,f x l=x)->numL f g L l=L
 | [],_,_=>rfl
 | x::L,l,h=>by rw [numL,h x List.mem_cons_self,numL_id (fun y hy=>h y (List.mem_cons_of_mem _ hy))]
theorem sumT_zero {T:Type}{g:T->Nat}:∀ {L:List T},(∀ x∈L,g x=0)->sumT g L=0
 | [],_=>rfl
 | x::L,h=>by rw [sumT,h x List.mem_cons_self,sumT_zero (fun y hy=>h y (List.mem_cons_of_mem _ hy))]
theorem numP_id {p:PrT}(h:frP p=0)(l:List Int):numP p l=p:=by
 unfold numP;rw [h,List.take_zero,List.append_nil]
theorem sumT_all {T:Type}{g:T->Nat}{L:List T}(h:sumT g L=0):∀ x∈L,g x=0:=fun x hx=>by
 have:=sumT_mem g hx;omega
theorem numX_id {x:NoT}(h:frN x=0)(l:List Int):numX x l=x:=by
 unfold frN at h;have h0:¬ x.no=0:=fun e=>by rw [if_pos e] at h;omega
 unfold numX;rw [if_neg h0,numL_id (fun p hp l=>numP_id (sumT_all (by rw [if_neg h0] at h;omega) p hp) l)]
theorem tellL_mem {T:Type}{f:Nat->T->List NoT}{y:NoT}:∀ {L:List T} {k:Nat},y∈tellL f k L->∃ x k',x∈L/\y∈f k' x
 | [],_,h=>by simp [tellL] at h
 | x::L,k,h=>by
  rw [tellL,List.mem_append] at h;rcases h with h | h
  ·exact ⟨x,k,List.mem_cons_self,h⟩
  ·obtain ⟨z,k',h1,h2⟩:=tellL_mem h
   exact ⟨z,k',List.mem_cons_of_mem _ h1,h2⟩
theorem tell_old:∀ (n:Nat) (x:NdT n) (k:Nat),HnT n x->noT n x≠0->∀ y∈tellT n k x,frN y=0
 | 0,x,k,h,h0,y,hy=>by
  rw [tellT,List.mem_singleton] at hy;subst hy;unfold frN;have h0':¬ LfT.no x=0:=h0
  show sumT frP (LfT.ps x)+(if LfT.no x=0 then 1 else 0)=0
  rw [if_neg h0',sumT_zero (h h0')]
 | n+1,x,k,h,h0,y,hy=>by
  rw [tellT,List.mem_append] at hy;have h0':¬ BnT.no (T:=NdT n) x=0:=h0;rcases hy with hy | hy
  ·obtain ⟨z,k',hz,hy⟩:=tellL_mem hy
   exact tell_old n z k' (h.2 z hz) (h.1 h0' z hz) y hy
  ·rw [List.mem_singleton] at hy
   subst hy;unfold frN
   show sumT frP []+(if BnT.no (T:=NdT n) x=0 then 1 else 0)=0
   rw [if_neg h0']
   rfl
theorem size_num:∀ (n:Nat) (x:NdT n) (l:List Int),sizeT n (numT n x l)=sizeT n x
 | 0,x,l=>by
  rw [numT]
  split <;> rfl
 | n+1,x,l=>by
  rw [numT]
  split
  ·show sumT (sizeT n) (numL (numT n) (frT n) (BnT.row (T:=NdT n) x).ns l)+1=sumT (sizeT n) (BnT.row (T:=NdT n) x).ns+1
   congr 1
   generalize (BnT.row (T:=NdT n) x).ns=L
   induction L generalizing l with
   | nil=>rfl
   | cons y L ih=>rw [numL,sumT,sumT,size_num n y,ih]
  ·rfl
theorem fr_old:∀ (n:Nat) (x:NdT n),noT n x≠0->frT n x=0
 | 0,x,h=>by
  have h':¬ LfT.no x=0:=h;rw [frT,if_neg h']
 | n+1,x,h=>by
  have h':¬ BnT.no (T:=NdT n) x=0:=h;rw [frT,if_neg h']
theorem tell_fr:∀ (n:Nat) (x:NdT n) (k:Nat),HnT n x->sumT frN (tellT n k x)=frT n x
 | 0,x,k,h=>by
  by_cases h0:LfT.no x=0
  ·rw [tellT,frT,if_pos h0]
   show sumT frP (LfT.ps x)+(if LfT.no x=0 then 1 else 0)+0=_
   rw [if_pos h0];omega
  ·rw [fr_old 0 x h0]
   exact sumT_zero (tell_old 0 x k h h0)
 | n+1,x,k,h=>by
  by_cases h0:BnT.no (T:=NdT n) x=0
  ·rw [tellT,frT,if_pos h0,sumT_app]
   have h1:∀ (L:List (NdT n)) (k:Nat),(∀ y∈L,HnT n y)->sumT frN (tellL (tellT n) k L)=sumT (frT n) L:=by
    intro L
    induction L with
    | nil=>intro k _;rfl
    | cons y L ih =>
     intro k hL;rw [tellL,sumT_app,tell_fr n y k (hL y List.mem_cons_self),ih _ (fun z hz=>hL z (List.mem_cons_of_mem _ hz)),sumT]
   rw [h1 _ _ h.2]
   show sumT (frT n) (BnT.row (T:=NdT n) x).ns+(sumT frP []+(if BnT.no (T:=NdT n) x=0 then 1 else 0)+0)=_
   rw [if_pos h0];simp [sumT];omega
  ·rw [fr_old (n+1) x h0]
   exact sumT_zero (tell_old (n+1) x k h h0)
theorem num_old {n:Nat}{x:NdT n}(h:noT n x≠0)(l:List Int):numT n x l=x:=by
 cases n with
 | zero =>
  have h':¬ LfT.no x=0:=h;rw [numT,if_neg h']
 | succ n =>
  have h':¬ BnT.no (T:=NdT n) x=0:=h;rw [numT,if_neg h']
theorem tell_num:∀ (n:Nat) (x:NdT n) (k:Nat) (l:List Int),HnT n x->tellT n k (numT n x l)=numN (tellT n k x) l
 | 0,x,k,l,h=>by
  by_cases h0:LfT.no x=0
  ·rw [numT,if_pos h0,tellT,tellT]
   show [(⟨l.getD (sumT frP (LfT.ps x)) 0,0,numL numP frP (LfT.ps x) l,[],[]⟩:NoT)]=[(⟨if LfT.no x=0 then l.getD (sumT frP (LfT.ps x)) 0 else LfT.no x,0,numL numP frP (LfT.ps x) l,[],[]⟩:NoT)]
   rw [if_pos h0]
  ·rw [num_old (n:=0) (x:=x) h0]
   exact (numL_id (fun y hy l=>numX_id (tell_old 0 x k h h0 y hy) l)).symm
 | n+1,x,k,l,h=>by
  by_cases h0:BnT.no (T:=NdT n) x=0
  ·rw [numT,if_pos h0,tellT,tellT]
   have h1:∀ (L:List (NdT n)) (k:Nat) (l:List Int),(∀ y∈L,HnT n y)->tellL (tellT n) k (numL (numT n) (frT n) L l)=numN (tellL (tellT n) k L) l/\placesL (tellT n) k (numL (numT n) (frT n) L l)=placesL (tellT n) k L:=by
    intro L
    induction L with
    | nil=>intro k l _;exact ⟨rfl,rfl⟩
    | cons y L ih =>
     intro k l hL;have hy:=tell_num n y k l (hL y List.mem_cons_self);have hlen:(tellT n k (numT n y l)).length=(tellT n k y).length:=by rw [tell_len,tell_len,size_num]
     obtain ⟨i1,i2⟩:=ih (k+(tellT n k y).length) (l.drop (frT n y)) (fun z hz=>hL z (List.mem_cons_of_mem _ hz));refine ⟨?_,?_⟩
     ·rw [numL,tellL,tellL,hlen,i1,hy]
      unfold numN;rw [numL_app,tell_fr n y k (hL y List.mem_cons_self)]
     ·rw [numL,placesL,placesL,hlen,i2]
   obtain ⟨i1,i2⟩:=h1 (BnT.row (T:=NdT n) x).ns k l h.2
   have h2:sumT frN (tellL (tellT n) k (BnT.row (T:=NdT n) x).ns)=sumT (frT n) (BnT.row (T:=NdT n) x).ns:=by
    have:=tell_fr (n+1) x k h;rw [tellT,frT,if_pos h0,sumT_app] at this
    have e:sumT frN [(⟨BnT.no (T:=NdT n) x,n+1,[],(BnT.row (T:=NdT n) x).ss,placesL (tellT n) k (BnT.row (T:=NdT n) x).ns⟩:NoT)]=1:=by
     show sumT frP []+(if BnT.no (T:=NdT n) x=0 then 1 else 0)+0=1
     rw [if_pos h0]
     rfl
    rw [e] at this;omega
   unfold numN;rw [numL_app,h2]
   show tellL (tellT n) k (numL (numT n) (frT n) (BnT.row (T:=NdT n) x).ns l)++[(⟨l.getD (sumT (frT n) (BnT.row (T:=NdT n) x).ns) 0,n+1,[],(BnT.row (T:=NdT n) x).ss,placesL (tellT n) k (numL (numT n) (frT n) (BnT.row (T:=NdT n) x).ns l)⟩:NoT)]=_
   rw [i1,i2]
   congr 1
   show _=[(⟨if BnT.no (T:=NdT n) x=0 then (l.drop (sumT (frT n) (BnT.row (T:=NdT n) x).ns)).getD (sumT frP []) 0 else BnT.no (T:=NdT n) x,n+1,numL numP frP [] _,(BnT.row (T:=NdT n) x).ss,placesL (tellT n) k (BnT.row (T:=NdT n) x).ns⟩:NoT)]
   rw [if_pos h0];simp [sumT,numL,List.getD_eq_getElem?_getD,List.getElem?_drop]
  ·rw [num_old (n:=n+1) (x:=x) h0]
   exact (numL_id (fun y hy l=>numX_id (tell_old (n+1) x k h h0 y hy) l)).symm
theorem getD_ne {l:List Int}{i:Nat}(h:i<l.length)(hz:∀ z∈l,z≠0):l.getD i 0≠0:=by
 rw [List.getD_eq_getElem?_getD,List.getElem?_eq_getElem h];exact hz _ (List.getElem_mem h)
theorem num_no {n:Nat}{x:NdT n}{l:List Int}(hl:frT n x<=l.length)(hz:∀ z∈l,z≠0):noT n (numT n x l)≠0:=by
 by_cases h0:noT n x=0
 ·cases n with
  | zero =>
   have h0':LfT.no x=0:=h0;rw [frT,if_pos h0'] at hl;rw [numT,if_pos h0'];exact getD_ne (by omega) hz
  | succ n =>
   have h0':BnT.no (T:=NdT n) x=0:=h0;rw [frT,if_pos h0'] at hl;rw [numT,if_pos h0'];exact getD_ne (by omega) hz
 ·rw [num_old h0]
  exact h0
theorem numL_all {T:Type}{f:T->List Int->T}{g:T->Nat}{Q:T->Prop}:∀ {L:List T} {l:List Int},sumT g L<=l.length->(∀ x∈L,∀ l',g x<=l'.length->(∀ z∈l',z∈l)->Q (f x l'))->∀ y∈numL f g L l,Q y
 | [],_,_,_,y,hy=>by simp [numL] at hy
 | x::L,l,hl,h,y,hy=>by
  rw [sumT] at hl;rw [numL,List.mem_cons] at hy;rcases hy with rfl | hy
  ·exact h x List.mem_cons_self l (by omega) (fun z hz=>hz)
  ·exact numL_all (L:=L) (l:=l.drop (g x)) (by rw [List.length_drop];omega) (fun x' hx' l' h1 h2=>h x' (List.mem_cons_of_mem _ hx') l' h1 (fun z hz=>List.mem_of_mem_drop (h2 z hz))) y hy
theorem numP_fr {p:PrT}{l:List Int}(h:frP p<=l.length):frP (numP p l)=0:=by
 by_cases h0:frP p=0
 ·rw [numP_id h0]
  exact h0
 ·have hc:=(frP_le p).2 (by omega)
  unfold frP;rw [if_neg]
  show ¬ (p.chain++l.take (frP p)).length=0
  rw [hc,List.nil_append,List.length_take];omega
theorem num_hn:∀ (n:Nat) (x:NdT n) (l:List Int),frT n x<=l.length->(∀ z∈l,z≠0)->HnT n x->HnT n (numT n x l)
 | 0,x,l,hl,hz,h=>by
  by_cases h0:LfT.no x=0
  ·rw [frT,if_pos h0] at hl
   rw [numT,if_pos h0];intro _;exact numL_all (Q:=fun p=>frP p=0) (by omega) (fun p _ l' h1 _=>numP_fr h1)
  ·rw [num_old (n:=0) (x:=x) h0]
   exact h
 | n+1,x,l,hl,hz,h=>by
  by_cases h0:BnT.no (T:=NdT n) x=0
  ·rw [frT,if_pos h0] at hl
   rw [numT,if_pos h0];refine ⟨fun _=>?_,?_⟩
   ·exact numL_all (Q:=fun y=>noT n y≠0) (by omega) (fun y _ l' h1 h2=>num_no h1 (fun z hz'=>hz z (h2 z hz')))
   ·exact numL_all (Q:=fun y=>HnT n y) (by omega) (fun y hy l' h1 h2=>num_hn n y l' h1 (fun z hz'=>hz z (h2 z hz')) (h.2 y hy))
  ·rw [num_old (n:=n+1) (x:=x) h0]
   exact h
theorem num_fresh {t:Option TrT}{zs:List Int}(hl:zs.length=frO t)(hz:∀ z∈zs,z≠0):frO (numO t zs)=0:=by
 match t,hl with
 | none,_=>rfl
 | some ⟨n,x⟩,hl=>exact fr_old n _ (num_no (by show frT n x<=zs.length;rw [hl];exact Nat.le_refl _) hz)
end Go.Proofs.YtepcgckapoljpaaGreat
