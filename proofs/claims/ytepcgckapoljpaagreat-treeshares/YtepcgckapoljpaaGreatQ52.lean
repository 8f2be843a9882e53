import Derived.Test.YtepcgckapoljpaaGreatQ47
import Derived.Deep.CutBlock
set_option maxRecDepth 100000
set_option maxHeartbeats 16000000
namespace Go.Proofs.YtepcgckapoljpaaGreat
open Go.RowKit
def neT:(n:Nat)->NdT n->Nat
 | 0,x=>if LfT.no x=0 then 1 else 0
 | n+1,x=>sumT (neT n) (BnT.row (T:=NdT n) x).ns+if BnT.no (T:=NdT n) x=0 then 1 else 0
def isN (n:Nat)(x:NdT n):Nat:=if noT n x=0 then 1 else 0
theorem ne_old:∀ (n:Nat) (x:NdT n),HnT n x->noT n x≠0->neT n x=0
 | 0,x,_,h0=>if_neg h0
 | n+1,x,h,h0=>by
  have h0':¬ BnT.no (T:=NdT n) x=0:=h0;rw [neT,if_neg h0',sumT_zero (fun y hy=>ne_old n y (h.2 y hy) (h.1 h0 y hy))]
theorem sum_two {T:Type}(g:T->Nat){L:List T}{i:Nat}{a b:T}(h1:L[i]?=some a)(h2:L[i+1]?=some b):sumT g L=sumT g (L.take i)+(g a+(g b+sumT g (L.drop (i+2)))):=by
 conv=>lhs;rw [two_at h1 h2]
 rw [sumT_app]
 rfl
theorem sum_joinAt {T:Type}(g:T->Nat){r:RwT T}{i:Nat}{a b one:T}(h1:r.ns[i]?=some a)(h2:r.ns[i+1]?=some b):sumT g (joinAt r i one).ns+(g a+g b)=sumT g r.ns+g one:=by
 rw [sum_two g h1 h2];simp only [joinAt];rw [sumT_app,sumT_app]
 show sumT g (r.ns.take i)+(g one+0+sumT g (r.ns.drop (i+2)))+(g a+g b)=_
 omega
theorem tidy_one10 {T:Type}{J:T->List Int->T->Bool}{D:T->List Int->T->T}(c:Nat)(r:RwT T)(i:Nat) :
  tidyT J D (c+1) r i=r∨∃ a s b,r.ns[i]?=some a/\r.ss[i]?=some s/\r.ns[i+1]?=some b/\((J a s b=true/\tidyT J D (c+1) r i=tidyT J D c (joinAt r i (D a s b)) i)∨(J a s b=false/\tidyT J D (c+1) r i=tidyT J D c r (i+1))):=by
 rw [tidyT]
 split
 ·rename_i a s b h1 h2 h3
  refine .inr ⟨a,s,b,h1,h2,h3,?_⟩;cases hj:J a s b with
  | true=>exact .inl ⟨rfl,by rw [if_pos rfl]⟩
  | false=>exact .inr ⟨rfl,by simp⟩
 ·exact .inl rfl
theorem joined_no (n:Nat)(a:NdT n)(s:List Int)(b:NdT n):noT n (joinedT n a s b)=0:=by
 cases n with
 | zero=>rfl
 | succ n=>rfl
def FrA (n:Nat)(r:RwT (NdT n))(i:Nat):Prop:=∀ a,r.ns[i]?=some a->noT n a=0
def JoC (n:Nat):Prop:=∀ (a:NdT n) (s:List Int) (b:NdT n),neT n (joinedT n a s b)+(isN n a+isN n b)<=neT n a+neT n b+(n+1)
theorem tidy1_any {n:Nat}(hJ:JoC n)(r:RwT (NdT n))(i:Nat):sumT (neT n) (tidyT (joinsT n) (joinedT n) 1 r i).ns<=sumT (neT n) r.ns+(n+1):=by
 rcases tidy_one10 (J:=joinsT n) (D:=joinedT n) 0 r i with h | ⟨a,s,b,h1,h2,h3,⟨hj,h⟩ | ⟨hj,h⟩⟩
 ·rw [h]
  omega
 ·rw [h,tidyT]
  have k1:=sum_joinAt (neT n) (one:=joinedT n a s b) h1 h3;have k2:=hJ a s b;omega
 ·rw [h,tidyT]
  omega
theorem joc:∀ n,JoC n
 | 0,a,s,b=>by
  show 1+((if LfT.no a=0 then 1 else 0)+(if LfT.no b=0 then 1 else 0))<=(if LfT.no a=0 then 1 else 0)+(if LfT.no b=0 then 1 else 0)+(0+1)
  omega
 | n+1,a,s,b=>by
  have h:=tidy1_any (joc n) ⟨(BnT.row (T:=NdT n) a).ns++(BnT.row (T:=NdT n) b).ns,(BnT.row (T:=NdT n) a).ss++([s]++(BnT.row (T:=NdT n) b).ss)⟩ ((BnT.row (T:=NdT n) a).ns.length - 1);rw [sumT_app] at h
  show sumT (neT n) (tidyT (joinsT n) (joinedT n) 1 _ _).ns+1+((if BnT.no (T:=NdT n) a=0 then 1 else 0)+(if BnT.no (T:=NdT n) b=0 then 1 else 0))<=sumT (neT n) (BnT.row (T:=NdT n) a).ns+(if BnT.no (T:=NdT n) a=0 then 1 else 0)+(sumT (neT n) (BnT.row (T:=NdT n) b).ns+(if BnT.no (T:=NdT n) b=0 then 1 else 0))+(n+1+1)
  omega
theorem join_new {n:Nat}{r:RwT (NdT n)}{i:Nat}{a b:NdT n}(s:List Int)(h1:r.ns[i]?=some a)(h3:r.ns[i+1]?=some b)(hf:FrA n r i∨FrA n r (i+1)):sumT (neT n) (joinAt r i (joinedT n a s b)).ns<=sumT (neT n) r.ns+n:=by
 have k1:=sum_joinAt (neT n) (one:=joinedT n a s b) h1 h3;have k2:=joc n a s b
 have k3:1<=isN n a+isN n b:=by
  rcases hf with h | h
  ·have e:isN n a=1:=if_pos (h a h1)
   omega
  ·have e:isN n b=1:=if_pos (h b h3)
   omega
 omega
theorem tidy1_new {n:Nat}(r:RwT (NdT n))(i:Nat)(hf:FrA n r i∨FrA n r (i+1)):sumT (neT n) (tidyT (joinsT n) (joinedT n) 1 r i).ns<=sumT (neT n) r.ns+n:=by
 rcases tidy_one10 (J:=joinsT n) (D:=joinedT n) 0 r i with h | ⟨a,s,b,h1,h2,h3,⟨hj,h⟩ | ⟨hj,h⟩⟩
 ·rw [h]
  omega
 ·rw [h,tidyT]
  exact join_new s h1 h3 hf
 ·rw [h,tidyT]
  omega
theorem fra_joinAt {n:Nat}{r:RwT (NdT n)}{i:Nat}{a b:NdT n}{s:List Int}(h1:r.ns[i]?=some a):FrA n (joinAt r i (joinedT n a s b)) i:=fun z hz=>by
 rw [joinAt_ns r i _ (List.getElem?_eq_some_iff.1 h1).1,if_neg (by omega),if_pos rfl] at hz;cases hz;exact joined_no n a s b
theorem tidy2_new {n:Nat}(r:RwT (NdT n))(i:Nat)(hf:FrA n r (i+1)):sumT (neT n) (tidyT (joinsT n) (joinedT n) 2 r i).ns<=sumT (neT n) r.ns+2*n:=by
 rcases tidy_one10 (J:=joinsT n) (D:=joinedT n) 1 r i with h | ⟨a,s,b,h1,h2,h3,⟨hj,h⟩ | ⟨hj,h⟩⟩
 ·rw [h]
  omega
 ·rw [h]
  have k1:=join_new s h1 h3 (.inr hf);have k2:=tidy1_new (joinAt r i (joinedT n a s b)) i (.inl (fra_joinAt h1));omega
 ·rw [h]
  have k2:=tidy1_new r (i+1) (.inl hf);omega
def NjA (n:Nat)(r:RwT (NdT n))(i:Nat):Prop:=∀ (a:NdT n) (s:List Int) (b:NdT n),r.ns[i]?=some a->r.ss[i]?=some s->r.ns[i+1]?=some b->joinsT n a s b=false
theorem tidy2_nj {n:Nat}(r:RwT (NdT n))(i:Nat)(hj:NjA n r i)(hf:FrA n r (i+1)):sumT (neT n) (tidyT (joinsT n) (joinedT n) 2 r i).ns<=sumT (neT n) r.ns+n:=by
 rcases tidy_one10 (J:=joinsT n) (D:=joinedT n) 1 r i with h | ⟨a,s,b,h1,h2,h3,⟨hj2,h⟩ | ⟨_,h⟩⟩
 ·rw [h]
  omega
 ·rw [hj a s b h1 h2 h3] at hj2
  cases hj2
 ·rw [h]
  exact tidy1_new r (i+1) (.inl hf)
theorem tidy3_nj {n:Nat}(r:RwT (NdT n))(i:Nat)(ho:∀ k∈r.ns,OkT n k)(hj:NjA n r (i+1))(hf:FrA n r (i+1))(hf2:FrA n r (i+2)):sumT (neT n) (tidyT (joinsT n) (joinedT n) 3 r i).ns<=sumT (neT n) r.ns+2*n:=by
 rcases tidy_one10 (J:=joinsT n) (D:=joinedT n) 2 r i with h | ⟨a,s,b,h1,h2,h3,⟨hj2,h⟩ | ⟨_,h⟩⟩
 ·rw [h]
  omega
 ·rw [h]
  have k1:=join_new s h1 h3 (.inr hf);have hi:=(List.getElem?_eq_some_iff.1 h1).1;have hs:=(List.getElem?_eq_some_iff.1 h2).1
  have k2:=tidy2_nj (joinAt r i (joinedT n a s b)) i (fun x t y e1 e2 e3=>by
   rw [joinAt_ns r i _ hi,if_neg (by omega),if_pos rfl] at e1;rw [joinAt_ns r i _ hi,if_neg (by omega),if_neg (by omega)] at e3;rw [joinAt_ss r i _ hs,if_neg (by omega)] at e2;cases e1;exact nj_left n a s b t y (ho a (List.mem_of_getElem? h1)) (hj b t y h3 e2 e3)) (fun x e=>by
   rw [joinAt_ns r i _ hi,if_neg (by omega),if_neg (by omega)] at e;exact hf2 x e)
  omega
 ·rw [h]
  have k2:=tidy2_nj r (i+1) hj hf2;omega
theorem ne_settleB {n:Nat}(r:RwT (NdT n)):sumT (neT (n+1)) (settleB r).ns<=sumT (neT n) r.ns+2:=by
 unfold settleB
 split
 ·exact Nat.zero_le _
 ·split
  ·show sumT (neT n) r.ns+1+0<=_
   omega
  ·show sumT (neT n) (r.ns.take (cutB r.ss))+1+(sumT (neT n) (r.ns.drop (cutB r.ss))+1+0)<=_
   have h:=sumT_app (neT n) (r.ns.take (cutB r.ss)) (r.ns.drop (cutB r.ss));rw [List.take_append_drop] at h;omega
theorem settleL_new (ps:List PrT):∀ y∈(settleL ps).ns,noT 0 y=0:=by
 unfold settleL
 split
 ·intro k hk
  simp at hk
 ·split
  ·intro k hk
   have:k=(⟨0,ps⟩:LfT):=by simpa using hk
   rw [this]
   rfl
  ·intro k hk
   rcases mem_two hk with rfl | rfl <;> rfl
theorem settleB_new {n:Nat}(r:RwT (NdT n)):∀ y∈(settleB r).ns,noT (n+1) y=0:=by
 unfold settleB
 split
 ·intro k hk
  simp at hk
 ·split
  ·intro k hk
   have:k=(⟨0,r⟩:BnT (NdT n)):=by simpa using hk
   rw [this]
   rfl
  ·intro k hk
   rcases mem_two hk with rfl | rfl <;> rfl
theorem ne_settleL (ps:List PrT):sumT (neT 0) (settleL ps).ns<=2:=by
 unfold settleL
 split
 ·exact Nat.zero_le _
 ·split
  ·show 1+0<=2
   omega
  ·show 1+(1+0)<=2
   omega
theorem repl_ns {T:Type}(r:RwT T)(i:Nat)(b:RwT T):(replT r i b).ns=r.ns.take i++(b.ns++r.ns.drop (i+1)):=by
 unfold replT
 split <;> rfl
theorem changed_new {n:Nat}{x:NdT n}{key:List Int}{now:List PrT}{r:RwT (NdT n)}(hr:changedT n x key now=some r):∀ y∈r.ns,noT n y=0:=by
 cases n with
 | zero =>
  rw [changedT] at hr
  split at hr
  ·cases hr
  ·cases hr
   exact settleL_new _
 | succ n =>
  rw [changedT] at hr
  split at hr
  ·cases hr
  ·simp only [Option.map_eq_some_iff] at hr
   obtain ⟨b,hb,rfl⟩:=hr;exact settleB_new _
theorem ne_changed:∀ (n:Nat) (x:NdT n) (key:List Int) (now:List PrT) (r:RwT (NdT n)),OkT n x->NjT n x->HnT n x->noT n x≠0->NowT key now->changedT n x key now=some r->sumT (neT n) r.ns<=n*n+n+2
 | 0,x,key,now,r,_,_,_,_,_,hr=>by
  rw [changedT] at hr
  split at hr
  ·cases hr
  ·cases hr
   exact ne_settleL _
 | n+1,x,key,now,r,hx,hj,hh,h0,hn,hr=>by
  rw [changedT] at hr;have hx0:=hx;obtain ⟨x1,x2,x3,x4,x5⟩:=hx;obtain ⟨k,hk⟩:=at_place x3 x1 key;have hat:=hk.at_;rw [hat] at hr;simp only [Option.map_eq_some_iff] at hr;obtain ⟨b,hb,rfl⟩:=hr;have hkm:=List.mem_of_getElem? hat;have hok:=x2 k hkm;obtain ⟨b1,b2,b3⟩:=changed_all n k key now b hok hn hb;have bj:=changed_nj n k key now b hok (hj.2 k hkm) hn hb;have bn:=changed_new hb;have bc:=ne_changed n k key now b hok (hj.2 k hkm) (hh.2 k hkm) (hh.1 h0 k hkm) hn hb;have hold:∀ y∈(BnT.row (T:=NdT n) x).ns,neT n y=0:=fun y hy=>ne_old n y (hh.2 y hy) (hh.1 h0 y hy)
  have hlen:(BnT.row (T:=NdT n) x).ns.length=(BnT.row (T:=NdT n) x).ss.length+1:=lens_ok hx0;have hlt:=hk.lt
  have hin:∀ p∈b.ns.flatMap (flatT n),p.key=key∨p∈flatT n k:=by
   intro p hp;rw [b1] at hp;rcases upd_mem hp with h | h
   ·exact .inl (hn.key p h)
   ·exact .inr h
  have hq:=rok_repl (⟨x2,x3,x5⟩:RokT n (BnT.row (T:=NdT n) x)) hk b2 hin;clear hat hkm hok b1 hin hb hx0 hj hh h0;generalize hi:placeT (BnT.row (T:=NdT n) x).ss key=i at *;generalize hR:BnT.row (T:=NdT n) x=R at *;have hns:=repl_ns R i b;have lt:(R.ns.take i).length=i:=by rw [List.length_take];omega
  have hsum:sumT (neT n) (replT R i b).ns=sumT (neT n) b.ns:=by
   rw [hns,sumT_app,sumT_app,sumT_zero (fun y hy=>hold y (List.mem_of_mem_take hy)),sumT_zero (fun y hy=>hold y (List.mem_of_mem_drop hy))];omega
  have hfr:∀ j,j<b.ns.length->FrA n (replT R i b) (i+j):=fun j hjl z hz=>by
   rw [hns,List.getElem?_append_right (by omega),lt,List.getElem?_append_left (by omega)] at hz;exact bn z (List.mem_of_getElem? hz)
  have hnj:b.ns.length=2->NjA n (replT R i b) i:=fun hb2 a s c e1 e2 e3=>by
   have hss:(replT R i b).ss=R.ss.take i++(b.ss++R.ss.drop i):=by
    unfold replT;rw [if_neg (by omega)]
   have hbs:b.ss.length=1:=by
    rcases b2.sep.len with h | ⟨h,_⟩
    ·omega
    ·omega
   have ls:(R.ss.take i).length=i:=by rw [List.length_take];omega
   rw [hns,List.getElem?_append_right (by omega),lt,List.getElem?_append_left (by omega)] at e1 e3;rw [hss,List.getElem?_append_right (by omega),ls,List.getElem?_append_left (by omega)] at e2;rw [show i - i=0 by omega] at e1 e2;rw [show i+1 - i=0+1 by omega] at e3;exact bj.1 0 a s c e1 e2 e3
  have hmain:sumT (neT n) (tidyT (joinsT n) (joinedT n) (i+b.ns.length - (i - 1)) (replT R i b) (i - 1)).ns<=n*n+n+2+2*n:=by
   rcases (show b.ns.length=0∨b.ns.length=1∨b.ns.length=2 by omega) with hl | hl | hl
   ·have b0:b.ns=[]:=List.length_eq_zero_iff.1 hl
    rw [b0] at hsum
    by_cases hi0:i=0
    ·rw [hl,show i+0 - (i - 1)=0 by omega,tidyT,hsum]
     exact Nat.zero_le _
    ·rw [hl,show i+0 - (i - 1)=1 by omega]
     have:=tidy1_any (joc n) (replT R i b) (i - 1);rw [hsum] at this;have e0:sumT (neT n) ([]:List (NdT n))=0:=rfl;omega
   ·by_cases hi0:i=0
    ·rw [hl,show i+1 - (i - 1)=1 by omega]
     have:=tidy1_new (replT R i b) (i - 1) (.inl (by rw [show i - 1=i+0 by omega];exact hfr 0 (by omega)));rw [hsum] at this;omega
    ·rw [hl,show i+1 - (i - 1)=2 by omega]
     have:=tidy2_new (replT R i b) (i - 1) (by rw [show i - 1+1=i+0 by omega];exact hfr 0 (by omega));rw [hsum] at this;omega
   ·by_cases hi0:i=0
    ·rw [hl,show i+2 - (i - 1)=2 by omega]
     have:=tidy2_nj (replT R i b) (i - 1) (by rw [show i - 1=i by omega];exact hnj hl) (by rw [show i - 1+1=i+1 by omega];exact hfr 1 (by omega));rw [hsum] at this;omega
    ·rw [hl,show i+2 - (i - 1)=3 by omega]
     have:=tidy3_nj (replT R i b) (i - 1) hq.ok (by rw [show i - 1+1=i by omega];exact hnj hl) (by rw [show i - 1+1=i+0 by omega];exact hfr 0 (by omega)) (by rw [show i - 1+2=i+1 by omega];exact hfr 1 (by omega));rw [hsum] at this;omega
  have hs:=ne_settleB (tidyT (joinsT n) (joinedT n) (i+b.ns.length - (i - 1)) (replT R i b) (i - 1))
  have e:(n+1)*(n+1)+(n+1)+2=n*n+n+2+2*n+2:=by
   rw [Nat.add_mul,Nat.mul_add];omega
  omega
theorem ne_down:∀ (n:Nat) (x:NdT n),neT (downT n x).lv (downT n x).root<=neT n x
 | 0,_=>Nat.le_refl _
 | n+1,x=>by
  match e:(BnT.row (T:=NdT n) x).ns with
  | [y] =>
   have ed:downT (n+1) x=downT n y:=by rw [downT,e]
   rw [ed];have:=ne_down n y;rw [neT,e]
   show _<=neT n y+0+_
   omega
  | [] =>
   have ed:downT (n+1) x=⟨n+1,x⟩:=by rw [downT,e]
   rw [ed];exact Nat.le_refl _
  | _::_::_ =>
   have ed:downT (n+1) x=⟨n+1,x⟩:=by rw [downT,e]
   rw [ed];exact Nat.le_refl _
def neO:Option TrT->Nat
 | none=>0
 | some t=>neT t.lv t.root
theorem ne_rooted {n:Nat}{r:RwT (NdT n)}:neO (rootedT n r)<=sumT (neT n) r.ns+if r.ns.length=1 then 0 else 1:=by
 unfold rootedT
 split
 ·exact Nat.zero_le _
 ·rename_i x e
  rw [e];have:=ne_down n x
  show neT _ _<=neT n x+0+0
  omega
 ·rename_i h1 h2
  rw [if_neg (fun h=>by
   obtain ⟨x,hx⟩:=List.length_eq_one_iff.1 h;exact h2 x hx)]
  show sumT (neT n) r.ns+1<=_
  omega
theorem ne_fresh {t:Option TrT}(h:HnO t)(hf:frO t=0):neO t=0/\∀ t',t=some t'->noT t'.lv t'.root≠0:=by
 match t,h,hf with
 | none,_,_=>exact ⟨rfl,fun _ e=>by cases e⟩
 | some ⟨n,x⟩,h,hf =>
  have h0:noT n x≠0:=fun e=>by
   have hf2:frT n x=0:=hf;cases n with
   | zero =>
    have e':LfT.no x=0:=e;rw [frT,if_pos e'] at hf2;omega
   | succ n =>
    have e':BnT.no (T:=NdT n) x=0:=e;rw [frT,if_pos e'] at hf2;omega
  exact ⟨ne_old n x h h0,fun t' e=>by cases e;exact h0⟩
theorem ne_tree {t u:Option TrT}{key:List Int}{now:List PrT}(ho:OkO t)(hj:NjO t)(hh:HnO t)(hf:frO t=0)(hn:NowT key now)(h:treeT t key now=some u):neO u<=highO t*highO t+highO t+1:=by
 match t,ho,hj,hh,hf,h with
 | none,_,_,_,_,h =>
  simp only [treeT,Option.map_eq_some_iff] at h;obtain ⟨r,hr,rfl⟩:=h;have hc:=ne_rooted (n:=0) (r:=r)
  have hs:sumT (neT 0) r.ns+(if r.ns.length=1 then 0 else 1)<=1:=by
   rw [changedT] at hr
   split at hr
   ·cases hr
   ·cases hr
    have e:(LfT.ps (⟨0,[]⟩:LfT)).take (findT (LfT.ps (⟨0,[]⟩:LfT)) key)++(now++(LfT.ps (⟨0,[]⟩:LfT)).drop (endT (LfT.ps (⟨0,[]⟩:LfT)) key))=now:=by simp
    rw [e]
    match now,hn with
    | [],_=>decide
    | [p],hn =>
     have hp:=one_fits (hn.vp p (List.mem_singleton.2 rfl));unfold settleL;rw [if_neg (by simp),if_pos hp];exact Nat.le_refl 1
    | _::_::_,hn =>
     have:=hn.one;simp at this
  show _<=0*0+0+1
  omega
 | some ⟨n,x⟩,ho,hj,hh,hf,h =>
  have h0:=(ne_fresh (t:=some ⟨n,x⟩) hh hf).2 _ rfl;simp only [treeT,Option.map_eq_some_iff] at h;obtain ⟨r,hr,rfl⟩:=h;have hc:=ne_changed n x key now r ho hj hh h0 hn hr;have hr2:=ne_rooted (n:=n) (r:=r)
  have e:(n+1)*(n+1)+(n+1)+1=n*n+n+2+1+2*n:=by
   rw [Nat.add_mul,Nat.mul_add];omega
  show _<=(n+1)*(n+1)+(n+1)+1
  split at hr2 <;> omega
theorem ne_st {t:Option TrT}{key val:List Int}{gone:Bool}(hs:SdT t)(hh:HnO t)(hf:frO t=0)(bk:Bt key)(bv:Bt val):neO (stO t key val gone)<=highO t*highO t+highO t+1:=by
 have h0:=(ne_fresh hh hf).1;unfold stO
 by_cases hb:badB key.length val.length gone=true
 ·rw [if_pos hb]
  omega
 ·rw [if_neg hb]
  cases hq:treeT t key (nowB key val gone) with
  | none =>
   show neO t<=_
   omega
  | some u=>exact ne_tree hs.ok hs.nj hh hf (nowB_ok (by simpa using hb) bk bv).1 hq
def psT:TrT->List PrT
 | ⟨0,x⟩=>LfT.ps x
 | ⟨_+1,_⟩=>[]
def ssT:TrT->List (List Int)
 | ⟨0,_⟩=>[]
 | ⟨n+1,x⟩=>(BnT.row (T:=NdT n) x).ss
def kidsT:TrT->List TrT
 | ⟨0,_⟩=>[]
 | ⟨n+1,x⟩=>(BnT.row (T:=NdT n) x).ns.map fun y=>⟨n,y⟩
def noR (p:TrT):Int:=noT p.lv p.root
structure TeT (l:List NoT)(k:Nat)(p:TrT)(v:NoT):Prop where
 no:v.no=noR p
 lv:v.lv=p.lv
 ps:v.ps=psT p
 ss:v.ss=ssT p
 kl:v.ks.length=(kidsT p).length
 kd:∀ (j:Nat) (q:TrT),(kidsT p)[j]?=some q->∃ kk z,v.ks[j]?=some kk/\k<=kk/\l[kk - k]?=some z/\z.no=noR q
theorem TeT.in_ {l A B:List NoT}{k k':Nat}{p:TrT}{v:NoT}(h:TeT l k' p v)(hk:k'=k+A.length):TeT (A++l++B) k p v :=
 ⟨h.no,h.lv,h.ps,h.ss,h.kl,fun j q hq=>by
  obtain ⟨kk,z,h1,h2,h3,h4⟩:=h.kd j q hq;refine ⟨kk,z,h1,by omega,?_,h4⟩;rw [List.append_assoc,List.getElem?_append_right (by omega),show kk - k - A.length=kk - k' by omega,List.getElem?_append_left (List.getElem?_eq_some_iff.1 h3).1];exact h3⟩
def subs:(n:Nat)->NdT n->List TrT
 | 0,x=>[⟨0,x⟩]
 | n+1,x=>(BnT.row (T:=NdT n) x).ns.flatMap (subs n)++[⟨n+1,x⟩]
theorem subs_len:∀ (n:Nat) (x:NdT n),(subs n x).length=sizeT n x
 | 0,_=>rfl
 | n+1,x=>by
  have h:∀ L:List (NdT n),(L.flatMap (subs n)).length=sumT (sizeT n) L:=by
   intro L
   induction L with
   | nil=>rfl
   | cons y L ih=>rw [List.flatMap_cons,List.length_append,subs_len n y,ih,sumT]
  rw [subs,List.length_append,h,sizeT]
  rfl
theorem tellL_sub {T:Type}{f:Nat->T->List NoT}{g:T->List TrT}(hl:∀ k y,(f k y).length=(g y).length):∀ (L:List T) (k i:Nat) (p:TrT),(L.flatMap g)[i]?=some p ->
  ∃ (y:T) (k' i':Nat) (A B:List NoT),y∈L/\(g y)[i']?=some p/\tellL f k L=A++f k' y++B/\k'=k+A.length/\i=A.length+i'
 | [],_,_,_,h=>by simp at h
 | y::L,k,i,p,h=>by
  rw [List.flatMap_cons] at h
  by_cases hi:i<(g y).length
  ·rw [List.getElem?_append_left hi] at h
   exact ⟨y,k,i,[],tellL f (k+(f k y).length) L,List.mem_cons_self,h,by rw [tellL];rfl,rfl,by simp⟩
  ·rw [List.getElem?_append_right (by omega)] at h
   obtain ⟨z,k',i',A,B,h1,h2,h3,h4,h5⟩:=tellL_sub hl L (k+(f k y).length) (i - (g y).length) p h;have:=hl k y;refine ⟨z,k',i',f k y++A,B,List.mem_cons_of_mem _ h1,h2,?_,by rw [List.length_append];omega,by rw [List.length_append];omega⟩;rw [tellL,h3];simp only [List.append_assoc]
theorem tell_last (n k:Nat)(x:NdT n):∃ v,(tellT n k x)[(tellT n k x).length - 1]?=some v/\v.no=noT n x:=by
 cases n with
 | zero=>exact ⟨_,rfl,rfl⟩
 | succ n =>
  rw [tellT];refine ⟨⟨BnT.no (T:=NdT n) x,n+1,[],(BnT.row (T:=NdT n) x).ss,placesL (tellT n) k (BnT.row (T:=NdT n) x).ns⟩,?_,?_⟩
  ·rw [List.length_append,List.getElem?_append_right (by simp)]
   simp
  ·rfl
theorem places_at {n:Nat}:∀ (L:List (NdT n)) (k j:Nat) (y:NdT n),L[j]?=some y->∃ kk z,(placesL (tellT n) k L)[j]?=some kk/\k<=kk/\(tellL (tellT n) k L)[kk - k]?=some z/\z.no=noT n y
 | [],_,_,_,h=>by simp at h
 | x::L,k,0,y,h=>by
  have e:x=y:=by simpa using h
  subst e;obtain ⟨v,h1,h2⟩:=tell_last n k x;have h3:=(List.getElem?_eq_some_iff.1 h1).1;refine ⟨k+(tellT n k x).length - 1,v,rfl,by omega,?_,h2⟩;rw [tellL,show k+(tellT n k x).length - 1 - k=(tellT n k x).length - 1 by omega,List.getElem?_append_left h3];exact h1
 | x::L,k,j+1,y,h=>by
  obtain ⟨kk,z,h1,h2,h3,h4⟩:=places_at L (k+(tellT n k x).length) j y (by simpa using h);refine ⟨kk,z,by rw [placesL];simpa using h1,by omega,?_,h4⟩;rw [tellL,List.getElem?_append_right (by omega),show kk - k - (tellT n k x).length=kk - (k+(tellT n k x).length) by omega];exact h3
theorem tell_sub:∀ (n k:Nat) (x:NdT n) (i:Nat) (p:TrT),(subs n x)[i]?=some p->∃ v,(tellT n k x)[i]?=some v/\TeT (tellT n k x) k p v
 | 0,k,x,i,p,h=>by
  have hi:i=0:=by
   have:=(List.getElem?_eq_some_iff.1 h).1;simp [subs] at this;exact this
  subst hi;have e:(⟨0,x⟩:TrT)=p:=by simpa [subs] using h
  subst e;exact ⟨_,rfl,rfl,rfl,rfl,rfl,rfl,fun j q hq=>by simp [kidsT] at hq⟩
 | n+1,k,x,i,p,h=>by
  have hl:∀ k (y:NdT n),(tellT n k y).length=(subs n y).length:=fun k y=>by rw [tell_len,subs_len]
  have hll:((BnT.row (T:=NdT n) x).ns.flatMap (subs n)).length=(tellL (tellT n) k (BnT.row (T:=NdT n) x).ns).length:=by
   have h1:=subs_len (n+1) x;have h2:=tell_len (n+1) k x;rw [subs,List.length_append] at h1;rw [tellT,List.length_append] at h2;simp only [List.length_cons,List.length_nil] at h1 h2;omega
  rw [subs] at h;rw [tellT]
  by_cases hi:i<((BnT.row (T:=NdT n) x).ns.flatMap (subs n)).length
  ·rw [List.getElem?_append_left hi] at h
   obtain ⟨y,k',i',A,B,_,h2,h3,h4,h5⟩:=tellL_sub hl _ k i p h;obtain ⟨v,v1,v2⟩:=tell_sub n k' y i' p h2;have hlt:=(List.getElem?_eq_some_iff.1 v1).1;rw [h3,List.append_assoc (A++tellT n k' y)];refine ⟨v,?_,v2.in_ h4⟩;rw [List.append_assoc,List.getElem?_append_right (by omega),show i - A.length=i' by omega,List.getElem?_append_left hlt];exact v1
  ·rw [List.getElem?_append_right (by omega)] at h
   have hi0:i - ((BnT.row (T:=NdT n) x).ns.flatMap (subs n)).length=0:=by
    have:=(List.getElem?_eq_some_iff.1 h).1;simp only [List.length_singleton] at this;omega
   rw [hi0] at h;have e:(⟨n+1,x⟩:TrT)=p:=by simpa using h
   subst e;refine ⟨⟨BnT.no (T:=NdT n) x,n+1,[],(BnT.row (T:=NdT n) x).ss,placesL (tellT n) k (BnT.row (T:=NdT n) x).ns⟩,?_,rfl,rfl,rfl,rfl,by simp [kidsT,placesL_len],fun j q hq=>?_⟩
   ·rw [List.getElem?_append_right (by omega),<- hll,hi0]
    rfl
   ·rw [kidsT,List.getElem?_map,Option.map_eq_some_iff] at hq
    obtain ⟨y,hy,rfl⟩:=hq;obtain ⟨kk,z,h1,h2,h3,h4⟩:=places_at _ k j y hy;exact ⟨kk,z,h1,h2,by rw [List.getElem?_append_left (List.getElem?_eq_some_iff.1 h3).1];exact h3,h4⟩
theorem alln_subs {Q:(m:Nat)->NdT m->Prop}:∀ (n:Nat) (x:NdT n),AllN Q n x->∀ p∈subs n x,noR p≠0->Q p.lv p.root
 | 0,x,h,p,hp,h0=>by
  have e:p=⟨0,x⟩:=by simpa [subs] using hp
  subst e;exact h h0
 | n+1,x,h,p,hp,h0=>by
  rw [subs,List.mem_append,List.mem_singleton] at hp;rcases hp with hp | rfl
  ·obtain ⟨y,hy,hpy⟩:=List.mem_flatMap.1 hp
   exact alln_subs n y (h.2 y hy) p hpy h0
  ·exact h.1 h0
theorem alln_of {Q:(m:Nat)->NdT m->Prop}:∀ (n:Nat) (x:NdT n),(∀ p∈subs n x,Q p.lv p.root)->AllN Q n x
 | 0,x,h=>fun _=>h ⟨0,x⟩ (by simp [subs])
 | n+1,x,h=>⟨fun _=>h ⟨n+1,x⟩ (by simp [subs]),fun k hk=>alln_of n k (fun p hp=>h p (by rw [subs];exact List.mem_append_left _ (List.mem_flatMap.2 ⟨k,hk,hp⟩)))⟩
def subO:Option TrT->List TrT
 | none=>[]
 | some t=>subs t.lv t.root
theorem tellO_sub (t:Option TrT)(i:Nat)(p:TrT)(h:(subO t)[i]?=some p):∃ v,(tellO t)[i]?=some v/\TeT (tellO t) 0 p v:=by
 match t,h with
 | none,h=>simp [subO] at h
 | some ⟨n,x⟩,h=>exact tell_sub n 0 x i p h
theorem tellO_at (t:Option TrT)(i:Nat)(v:NoT)(h:(tellO t)[i]?=some v):∃ p,p∈subO t/\TeT (tellO t) 0 p v:=by
 have hl:(tellO t).length=(subO t).length:=by
  match t with
  | none=>rfl
  | some ⟨n,x⟩ =>
   show (tellT n 0 x).length=(subs n x).length
   rw [tell_len,subs_len]
 have hi:=(List.getElem?_eq_some_iff.1 h).1;obtain ⟨p,hp⟩:∃ p,(subO t)[i]?=some p:=⟨_,List.getElem?_eq_getElem (by omega)⟩;obtain ⟨v',h1,h2⟩:=tellO_sub t i p hp;rw [h] at h1;cases h1;exact ⟨p,List.mem_of_getElem? hp,h2⟩
theorem st_her {P:(n:Nat)->NdT n->Prop}(hP:HerT P){t:Option TrT}{key val:List Int}{gone:Bool}(h:HerO P t):HerO P (stO t key val gone):=by
 unfold stO
 split
 ·exact h
 ·cases hq:treeT t key (nowB key val gone) with
  | none=>exact h
  | some u=>exact tree_her hP h hq
theorem shares {t u:Option TrT}(hf:FnO t)(hu:∀ P:(n:Nat)->NdT n->Prop,HerT P->HerO P t->HerO P u)(i:Nat)(v:NoT)(hv:(tellO u)[i]?=some v)(h0:v.no≠0) :
  ∃ p,TeT (tellO u) 0 p v/\(∃ (i':Nat) (v':NoT),(tellO t)[i']?=some v'/\v'.no=v.no)/\∀ (i':Nat) (v':NoT),(tellO t)[i']?=some v'->v'.no=v.no->TeT (tellO t) 0 p v':=by
 obtain ⟨W,hW⟩:=hf
 have hq:HerO (AllN fun m y=>WnQ W m y/\(⟨m,y⟩:TrT)∈subO t) t:=by
  match t,hW with
  | none,_=>trivial
  | some ⟨n,x⟩,hW =>
   have h1:=alln_of (Q:=fun m y=>(⟨m,y⟩:TrT)∈subs n x) n x (fun p hp=>hp)
   have h2:∀ (m:Nat) (z:NdT m),AllN (WnQ W) m z->AllN (fun m y=>(⟨m,y⟩:TrT)∈subs n x) m z->AllN (fun m y=>WnQ W m y/\(⟨m,y⟩:TrT)∈subs n x) m z:=by
    intro m
    induction m with
    | zero=>exact fun z a b h=>⟨a h,b h⟩
    | succ m ih=>exact fun z a b=>⟨fun h=>⟨a.1 h,b.1 h⟩,fun k hk=>ih k (a.2 k hk) (b.2 k hk)⟩
   exact h2 n x hW h1
 have hqu:=hu _ (alln_her _) hq;obtain ⟨p,hp,ht⟩:=tellO_at u i v hv;have hp0:noR p≠0:=by rw [<- ht.no];exact h0
 have hpp:W (noR p)=p/\p∈subO t:=by
  match u,hqu,hp with
  | some ⟨n,x⟩,hqu,hp =>
   exact alln_subs n x hqu p hp hp0
  | none,_,hp=>simp [subO] at hp
 refine ⟨p,ht,?_,fun i' v' h1 h2=>?_⟩
 ·obtain ⟨i',hi'⟩:=List.getElem?_of_mem hpp.2
  obtain ⟨v',h1,h2⟩:=tellO_sub t i' p hi';exact ⟨i',v',h1,by rw [h2.no,ht.no]⟩
 ·obtain ⟨p',k1,k2⟩:=tellO_at t i' v' h1
  have e:W (noR p')=p':=by
   match t,hW,k1 with
   | some ⟨n,x⟩,hW,k1=>exact alln_subs n x hW p' k1 (by rw [<- k2.no,h2];exact h0)
   | none,_,k1=>simp [subO] at k1
  have e2:noR p'=noR p:=by rw [<- k2.no,h2,ht.no]
  rw [e2,hpp.1] at e;rw [e];exact k2
def newN (v:NoT):Nat:=if v.no=0 then 1 else 0
theorem tell_new:∀ (n k:Nat) (x:NdT n),sumT newN (tellT n k x)=neT n x
 | 0,_,_=>rfl
 | n+1,k,x=>by
  have h:∀ (L:List (NdT n)) (k:Nat),sumT newN (tellL (tellT n) k L)=sumT (neT n) L:=by
   intro L
   induction L with
   | nil=>intro _;rfl
   | cons y L ih=>intro k;rw [tellL,sumT_app,tell_new n k y,ih,sumT]
  rw [tellT,sumT_app,h,neT]
  rfl
theorem tellO_new (t:Option TrT):sumT newN (tellO t)=neO t:=by
 match t with
 | none=>rfl
 | some ⟨n,x⟩=>exact tell_new n 0 x
theorem st_same {t:Option TrT}{key val:List Int}{gone:Bool}(h:SdT t)(bk:Bt key)(bv:Bt val)(e:(flatO t).map strP=(flatO (stO t key val gone)).map strP):stO t key val gone=t:=by
 unfold stO at *
 by_cases hb:badB key.length val.length gone=true
 ·rw [if_pos hb]
 ·rw [if_neg hb] at e ⊢
  obtain ⟨hn,hc⟩:=nowB_ok (by simpa using hb) bk bv;cases hq:treeT t key (nowB key val gone) with
  | none=>rfl
  | some u =>
   exfalso
   rw [hq] at e;have h2:=(h.change hn hc hq).2;have e':(flatO t).map strP=(flatO u).map strP:=e;rw [h2] at e'
   have hs:Srt (flatO t):=by
    match t,h.ok with
    | none,_=>exact List.Pairwise.nil
    | some t,ho=>exact flat_srt t.lv t.root ho
   have h3:=upd_same (key:=key) hs;have h4:(updT (flatO t) key (midT (flatO t) key)).map strP=(updT (flatO t) key (nowB key val gone)).map strP:=by rw [h3];exact e'
   unfold updT at h4;simp only [List.map_append] at h4;have h5:=List.append_cancel_left h4;have h6:=List.append_cancel_right h5;have h7:=congrArg (List.map PrT.val) h6;rw [List.map_map,List.map_map] at h7;have hnone:=(tree_none h.ok (key:=key) (now:=nowB key val gone)).2 h7;rw [hq] at hnone;cases hnone
theorem st_chain {t:Option TrT}{key val:List Int}{gone:Bool}(h:SdT t)(bk:Bt key)(bv:Bt val){p:PrT}(hp:p∈flatO (stO t key val gone))(hk:p.key≠key):p∈flatO t:=by
 unfold stO at hp
 by_cases hb:badB key.length val.length gone=true
 ·rw [if_pos hb] at hp
  exact hp
 ·rw [if_neg hb] at hp
  obtain ⟨hn,hc⟩:=nowB_ok (by simpa using hb) bk bv;cases hq:treeT t key (nowB key val gone) with
  | none =>
   rw [hq] at hp;exact hp
  | some u =>
   rw [hq] at hp;have hp':p∈flatO u:=hp;rw [(h.change hn hc hq).2] at hp';rcases upd_mem hp' with k | k
   ·exact absurd (hn.key p k) hk
   ·exact k
theorem act_plain (t:Option TrT)(p:Nat)(ka:Option Addr)(kn kc:Nat)(key:List Int)(va:Option Addr)(vn vc:Nat)(val:List Int)(gone:Bool)(no:Int)(w:World)(ht:TreeT w p t)(hs:SdT t)(hk:Byt w ka kn kc key)(hv:Byt w va vn vc val)(bk:Bt key)(bv:Bt val) :
  Calls Tryz.prog 8 #[.pointer (some ⟨p,0,none⟩),.agg #[.slice ka kn kc,.slice va vn vc,.bool gone,.bool false,.int .i64 no]] w fun en w'=>ActP w t key val gone false en w':=by
 have g0:=World.grownBy_alloc w (.cells #[.slice ka kn kc,.slice va vn vc,.bool gone,.bool false,.int .i64 no] 32) none;have x1:=heap_at0 w #[.slice ka kn kc,.slice va vn vc,.bool gone,.bool false,.int .i64 no] 32;have HT:=hZq (ht.kept (FrT.of g0));have HK:=hZq (hk.keptN g0);have HV:=hZq (hv.keptN g0);have G0:=hZq g0;have X1:=hZq x1;obtain ⟨hs1,_⟩:=st_sd (key:=key) (val:=val) (gone:=gone) hs bk bv;have HS1:=hZq hs1;have HO:=hZq hs.ok;have lk:=hk.len;have lv:=hv.len;have HKL:=hZq (And.intro lk lv);clear ht hk hv g0 hs hs1 lk lv;go_enter Tryz.func8,Tryz.ntmps8;go_upto_region 1 with fail
 generalize w.alloc (.cells #[.slice ka kn kc,.slice va vn vc,.bool gone,.bool false,.int .i64 no] 32)=w1 at *;generalize w.heap.size=B at *;have d0:=cell_heap (i:=0) x1 rfl;have d1:=cell_heap (i:=1) x1 rfl;have d2:=cell_heap (i:=2) x1 rfl;have d3:=cell_heap (i:=3) x1 rfl;have d4:=cell_heap (i:=4) x1 rfl;clear x1;obtain ⟨t1,ht1⟩:∃ t1,stO t key val gone=t1:=⟨_,rfl⟩;rw [ht1] at HS1;have HT1:=hZq ht1;clear ht1;cases gone with
 | true =>
  have WC:=hZq (wot_any t p ka kn kc key val w1 HT.out HO.out HK.out bk);rw [HT1.out] at WC
  go_wp2_with fail
  refine WC.out.mono ?_;rintro en w2 ⟨q,b,rfl,ht2,hg2⟩;have T2:=hZq ht2;have G2:=hZq hg2;have e3:=keep1 d3 hg2;have e4:=keep1 d4 hg2;clear ht2 hg2 WC d0 d1 d2 d3 d4;go_upto_region 9 with (first | (go_at_call 27;refine (num10 _ _).mono ?_;rintro en wz ⟨rfl,hwz⟩;rw [hwz];clear hwz) | fail)
  go_wp2;go_ret;exact ⟨q,t1,rfl,T2.out,by unfold ActR;rw [if_neg (by simp)];exact HT1.out.symm,gZq G0.out G2.out⟩
 | false =>
  have WC:=hZq (wit_any t p ka kn kc key va vn vc val w1 HT.out HO.out HK.out bk HV.out bv);rw [HT1.out] at WC;obtain ⟨bad,hbad⟩:∃ b,badB kn vn false=b:=⟨_,rfl⟩;rw [hbad] at WC;obtain ⟨ev,hev⟩:∃ ev:Int,(if bad=true then (41:Int) else 0)=ev:=⟨_,rfl⟩;rw [hev] at WC;have HEV:=hZq hev;have HBD:=hZq hbad;clear hev hbad
  go_wp2_with fail
  refine WC.out.mono ?_;rintro en w2 ⟨q,rfl,ht2,hg2⟩;have T2:=hZq ht2;have G2:=hZq hg2;have e0:=keep1 d0 hg2;have e1:=keep1 d1 hg2;have e3:=keep1 d3 hg2;have e4:=keep1 d4 hg2;clear ht2 hg2 WC d0 d1 d2 d3 d4;go_upto_region 5 with fail
  go_cut [9] from 32 to 48 (fun s9 wx=>s9=.bool bad/\wx=w2)
  case first =>
   by_cases b1:kn<1
   ·have k1:(kn:Int)<1:=by omega
    have HB:Hid (bad=true):=by show bad=true;rw [<- HBD.out];simp [badB,b1]
    go_wp2_with fail
    go_meet;exact ⟨by rw [HB.out],rfl⟩
   ·have k1:¬ (kn:Int)<1:=by omega
    by_cases b2:255<kn
    ·have k2:(255:Int)<(kn:Int):=by omega
     have HB:Hid (bad=true):=by show bad=true;rw [<- HBD.out];simp [badB,b2]
     go_wp2_with fail
     go_meet;exact ⟨by rw [HB.out],rfl⟩
    ·have k2:¬ (255:Int)<(kn:Int):=by omega
     by_cases b3:262144<vn
     ·have k3:(262144:Int)<(vn:Int):=by omega
      have HB:Hid (bad=true):=by show bad=true;rw [<- HBD.out];simp [badB,b3]
      go_wp2_with fail
      go_meet;exact ⟨by rw [HB.out],rfl⟩
     ·have k3:¬ (262144:Int)<(vn:Int):=by omega
      have HB:Hid (bad=false):=by
       show bad=false
       rw [<- HBD.out];unfold badB;rw [decide_eq_false b1,decide_eq_false b2,decide_eq_false b3]
       rfl
      go_wp2_with fail
      go_meet;exact ⟨by rw [HB.out],rfl⟩
  case rest =>
   obtain ⟨rfl,rfl⟩:=hcut;clear e0 e1;cases bad with
   | true =>
    have hev:ev=41:=by have:=HEV.out;simpa using this.symm
    subst hev;go_upto_region 9 with (first | (go_at_call 27;refine (num10 _ _).mono ?_;rintro en wz ⟨rfl,hwz⟩;rw [hwz];clear hwz) | fail)
    go_wp2;go_ret;exact ⟨q,t1,rfl,T2.out,by unfold ActR;rw [if_neg (by simp)];exact HT1.out.symm,gZq G0.out G2.out⟩
   | false =>
    have hev:ev=0:=by have:=HEV.out;simpa using this.symm
    subst hev;go_upto_region 9 with (first | (go_at_call 27;refine (num10 _ _).mono ?_;rintro en wz ⟨rfl,hwz⟩;rw [hwz];clear hwz) | fail)
    go_wp2;go_ret;exact ⟨q,t1,rfl,T2.out,by unfold ActR;rw [if_neg (by simp)];exact HT1.out.symm,gZq G0.out G2.out⟩end Go.Proofs.YtepcgckapoljpaaGreat
