import Derived.Test.YteaahinjcfjngaaGreatQ4
import Derived.Laws.CopyOwn
namespace Go.Proofs.YteaahinjcfjngaaGreat
structure Kd where
 no:Int
 keys:Int
def kd0:Kd:=⟨0,0⟩
structure Sk where
 sep:List Int
 kid:Kd
def bpre:List (List Int)->Nat
 | []=>0
 | x::L=>comAll x x.length L
def bcl (p:Nat)(s:List Int):Nat:=vl (s.length - p)+(s.length - p)+8
def bsums (p:Nat):List (List Int)->Nat
 | []=>0
 | x::L=>2+bcl p x+bsums p L
def bsize (L:List (List Int)):Nat:=12+vl (bpre L)+bpre L+bsums (bpre L) L
def wk (k:Kd):Bool:=decide (k.no<2) || decide (524287<=k.no) || decide (k.keys<1) || decide (4294967295<k.keys)
def kids (k:Kd)(M:List Sk):List Kd:=k::M.map Sk.kid
def kb (k:Kd):List Int:=lb 4 k.no.toNat++lb 4 k.keys.toNat
theorem bpre_each {L:List (List Int)}:∀ x∈L,bpre L<=x.length/\x.take (bpre L)=(L.headD []).take (bpre L):=by
 cases L with
 | nil=>intro x h;cases h
 | cons y L =>
  intro x h;have hp:bpre (y::L)=comAll y y.length L:=rfl;rcases List.mem_cons.1 h with rfl | h
  ·exact ⟨by rw [hp];exact comAll_le _ _ _,rfl⟩
  ·have h1:bpre (y::L)<=com y x:=by rw [hp];exact comAll_each _ _ _ _ h
   exact ⟨Nat.le_trans h1 (com_le2 _ _),(com_prefix _ _ _ h1).symm⟩
theorem bpre_mono {L M:List (List Int)}(h:∀ x∈M,x∈L)(hM:M≠[]):bpre L<=bpre M:=by
 cases M with
 | nil=>exact absurd rfl hM
 | cons y M =>
  show bpre L<=comAll y y.length M
  have hy:=bpre_each y (h y List.mem_cons_self);refine comAll_max _ _ _ _ hy.1 fun x hs=>?_
  have hx:=bpre_each x (h x (List.mem_cons_of_mem _ hs));exact com_of_take _ _ _ hy.1 hx.1 (hy.2.trans hx.2.symm)
theorem bcl_le (p:Nat)(x:List Int):bcl p x<=x.length+18:=by
 have h1:=vl_le (x.length - p);unfold bcl;omega
theorem bsums_le (p K:Nat):∀ L:List (List Int),(∀ x∈L,x.length<=K)->bsums p L<=L.length*(K+20)
 | [],_=>by simp [bsums]
 | x::L,h=>by
  have h1:=bcl_le p x;have h2:=h x List.mem_cons_self;have h3:=bsums_le p K L (fun y hy=>h y (List.mem_cons_of_mem _ hy));rw [bsums,List.length_cons,Nat.add_mul];omega
theorem bsums_snoc (p:Nat):∀ (L:List (List Int)) (i:Nat),i<L.length->bsums p (L.take (i+1))=bsums p (L.take i)+(2+bcl p (L.getD i []))
 | x::L,0,_=>by simp [bsums]
 | x::L,i+1,h=>by
  have:=bsums_snoc p L i (by simpa using h);simp only [List.take_succ_cons,bsums,List.getD_cons_succ];omega
end Go.Proofs.YteaahinjcfjngaaGreat
namespace Go.Proofs.YteaahinjcfjngaaGreat
theorem lfl_step (k n:Nat):(lf (k+1) n).length=if n<128 then 1 else 1+(lf k (n / 128)).length:=by
 rw [lf]
 split
 ·rfl
 ·rw [List.length_cons,Nat.add_comm]
theorem lfl_mono:∀ (k a b:Nat),a<=b->(lf k a).length<=(lf k b).length
 | 0,a,b,_=>by simp [lf]
 | k+1,a,b,h=>by
  rw [lfl_step,lfl_step];have:=lfl_mono k (a / 128) (b / 128) (by omega)
  split
  ·split <;> omega
  ·rw [if_neg (by omega)];omega
theorem lfl_two:∀ (k m:Nat),(lf k (2*m+1)).length<=(lf k m).length+1
 | 0,m=>by simp [lf]
 | k+1,m=>by
  rw [lfl_step,lfl_step];have h1:=lfl_two k (m / 128);have h2:=lfl_mono k ((2*m+1) / 128) (2*(m / 128)+1) (by omega)
  split
  ·split <;> omega
  ·split
   ·rename_i h3 h4
    have e:(2*m+1) / 128=1:=by omega
    rw [e]
    have:(lf k 1).length<=1:=by
     cases k with
     | zero=>simp [lf]
     | succ k=>rw [lfl_step,if_pos (by omega)];exact Nat.le_refl _
    omega
   ·omega
theorem lfl_le:∀ (k d:Nat),1<=d->(lf k d).length<=d
 | 0,d,_=>by simp [lf]
 | k+1,d,h=>by
  rw [lfl_step]
  split
  ·exact h
  ·have:=lfl_le k (d / 128) (by omega)
   omega
theorem vl_up {a b:Nat}(h:a<=b):vl a<=vl b:=lfl_mono 10 a b h
theorem vl_own {d:Nat}(h:1<=d):vl d<=d:=lfl_le 10 d h
theorem vl_add (p d:Nat):vl (p+d)<=vl p+vl d:=by
 have h1:=vl_pos p;have h2:=vl_pos d;rcases Nat.le_total p d with h | h
 ·have a:=lfl_mono 10 (p+d) (2*d+1) (by omega)
  have b:=lfl_two 10 d;unfold vl vform at *;omega
 ·have a:=lfl_mono 10 (p+d) (2*p+1) (by omega)
  have b:=lfl_two 10 p;unfold vl vform at *;omega
theorem cl_less' {p q:Nat}{x:It}(h:p<=q)(hq:q<=x.key.length):cl q x+(q - p)<=cl p x:=by
 have:=vl_up (a:=x.key.length - q) (b:=x.key.length - p) (by omega);unfold cl;omega
theorem sums_less' {p q:Nat}(hpq:p<=q):∀ {M L:List It},M.Sublist L->(∀ x∈M,q<=x.key.length) ->
  sums q M+M.length*(q - p)+4*(L.length - M.length)<=sums p L
 | _,_,.slnil,_=>by simp [sums]
 | M,x::L,.cons _ h,hM=>by
  have:=sums_less' hpq h hM;have h2:=cl_pos p x;have h3:=h.length_le;rw [sums,List.length_cons];omega
 | x::M,_::L,.cons_cons _ h,hM=>by
  have:=sums_less' hpq h (fun y hy=>hM y (List.mem_cons_of_mem _ hy));have h2:=cl_less' hpq (hM x List.mem_cons_self);have h3:=h.length_le;rw [sums,sums,List.length_cons,List.length_cons,Nat.add_mul,Nat.add_sub_add_right];omega
theorem pre_one (x:It):pre [x]=x.key.length:=rfl
theorem size_sub {M L:List It}(h:M.Sublist L)(hl:M.length<L.length):size M<size L:=by
 by_cases hM:M=[]
 ·subst hM
  have h1:=sums_less' (p:=pre L) (q:=pre L) (Nat.le_refl _) (M:=[]) (List.nil_sublist L) (fun x hx=>by cases hx);have h2:=vl_pos (pre L);have e:size []=4:=rfl;rw [e];unfold size;simp [sums] at h1 hl;omega
 ·have hpq:=pre_mono (fun x hx=>h.subset hx) hM
  by_cases h1:M.length=1
  ·obtain ⟨x,rfl⟩:=List.length_eq_one_iff.1 h1
   have hq:=pre_one x;rw [hq] at hpq
   have a:=sums_less' (p:=pre L) (q:=pre L) (Nat.le_refl _) h (fun y hy=>by
    rw [List.mem_singleton] at hy;subst hy;exact hpq)
   have b:=vl_add (pre L) (x.key.length - pre L);have c:=vl_pos (x.key.length - pre L);have e:vl 0=1:=vl_small (by omega);rw [show pre L+(x.key.length - pre L)=x.key.length by omega] at b;unfold size;rw [hq];simp only [sums,cl,Nat.sub_self,e] at a ⊢;simp only [List.length_cons,List.length_nil] at hl a;omega
  ·have h2:2<=M.length:=by
    have:=List.length_pos_iff.2 hM;omega
   have a:=sums_less' hpq h (fun x hx=>(pre_each x hx).1);have b:=vl_add (pre L) (pre M - pre L);rw [show pre L+(pre M - pre L)=pre M by omega] at b;have c:2*(pre M - pre L)<=M.length*(pre M - pre L):=Nat.mul_le_mul_right _ h2;unfold size
   by_cases hd:pre M - pre L=0
   ·have e:pre M=pre L:=by omega
    rw [e] at a ⊢;omega
   ·have d:=vl_own (d:=pre M - pre L) (by omega)
    omega
theorem bcl_less' {p q:Nat}{x:List Int}(h:p<=q)(hq:q<=x.length):bcl q x+(q - p)<=bcl p x:=by
 have:=vl_up (a:=x.length - q) (b:=x.length - p) (by omega);unfold bcl;omega
theorem bsums_less' {p q:Nat}(hpq:p<=q):∀ {M L:List (List Int)},M.Sublist L->(∀ x∈M,q<=x.length) ->
  bsums q M+M.length*(q - p)+11*(L.length - M.length)<=bsums p L
 | _,_,.slnil,_=>by simp [bsums]
 | M,x::L,.cons _ h,hM=>by
  have:=bsums_less' hpq h hM;have h2:=vl_pos (x.length - p);have h3:=h.length_le;rw [bsums,List.length_cons];unfold bcl;omega
 | x::M,_::L,.cons_cons _ h,hM=>by
  have:=bsums_less' hpq h (fun y hy=>hM y (List.mem_cons_of_mem _ hy));have h2:=bcl_less' hpq (hM x List.mem_cons_self);have h3:=h.length_le;rw [bsums,bsums,List.length_cons,List.length_cons,Nat.add_mul,Nat.add_sub_add_right];omega
theorem bpre_one (x:List Int):bpre [x]=x.length:=rfl
theorem bsize_sub {M L:List (List Int)}(h:M.Sublist L)(hl:M.length<L.length):bsize M<bsize L:=by
 by_cases hM:M=[]
 ·subst hM
  have h1:=bsums_less' (p:=bpre L) (q:=bpre L) (Nat.le_refl _) (M:=[]) (List.nil_sublist L) (fun x hx=>by cases hx);have h2:=vl_pos (bpre L);have e:bsize []=13:=rfl;rw [e];unfold bsize;simp [bsums] at h1 hl;omega
 ·have hpq:=bpre_mono (fun x hx=>h.subset hx) hM
  by_cases h1:M.length=1
  ·obtain ⟨x,rfl⟩:=List.length_eq_one_iff.1 h1
   have hq:=bpre_one x;rw [hq] at hpq
   have a:=bsums_less' (p:=bpre L) (q:=bpre L) (Nat.le_refl _) h (fun y hy=>by
    rw [List.mem_singleton] at hy;subst hy;exact hpq)
   have b:=vl_add (bpre L) (x.length - bpre L);have c:=vl_pos (x.length - bpre L);have e:vl 0=1:=vl_small (by omega);rw [show bpre L+(x.length - bpre L)=x.length by omega] at b;unfold bsize;rw [hq];simp only [bsums,bcl,Nat.sub_self,e] at a ⊢;simp only [List.length_cons,List.length_nil] at hl a;omega
  ·have h2:2<=M.length:=by
    have:=List.length_pos_iff.2 hM;omega
   have a:=bsums_less' hpq h (fun x hx=>(bpre_each x hx).1);have b:=vl_add (bpre L) (bpre M - bpre L);rw [show bpre L+(bpre M - bpre L)=bpre M by omega] at b;have c:2*(bpre M - bpre L)<=M.length*(bpre M - bpre L):=Nat.mul_le_mul_right _ h2;unfold bsize
   by_cases hd:bpre M - bpre L=0
   ·have e:bpre M=bpre L:=by omega
    rw [e] at a ⊢;omega
   ·have d:=vl_own (d:=bpre M - bpre L) (by omega)
    omega
def mx (f g:Nat->Nat)(i:Nat):Nat:=max (f i) (g i)
def Best (f g:Nat->Nat)(n r:Nat):Prop :=
 (r=0/\∀ i,1<=i->i<=n->4092<mx f g i) ∨
 (1<=r/\r<=n/\mx f g r<=4092/\∀ i,1<=i->i<=n->mx f g r<=mx f g i/\(i<r->mx f g r<mx f g i))
theorem Best.uniq {f g:Nat->Nat}{n r s:Nat}(h:Best f g n r)(k:Best f g n s):r=s:=by
 rcases h with ⟨h1,h2⟩ | ⟨h1,h2,h3,h4⟩ <;> rcases k with ⟨k1,k2⟩ | ⟨k1,k2,k3,k4⟩
 ·omega
 ·have:=h2 s k1 k2;omega
 ·have:=k2 r h1 h2;omega
 ·have a:=h4 s k1 k2
  have b:=k4 r h1 h2;rcases Nat.lt_trichotomy r s with e | e | e
  ·have:=b.2 e;omega
  ·exact e
  ·have:=a.2 e;omega
theorem Best.none (f g:Nat->Nat):Best f g 0 0:=.inl ⟨rfl,fun i h1 h2=>by omega⟩
structure Found (f g:Nat->Nat)(n k:Nat):Prop where
 le:k<=n
 lo:0<k->f k<g k
 hi:k<n->g (k+1)<=f (k+1)
theorem best_place {f g:Nat->Nat}{n k:Nat}(hf:∀ i j,1<=i->i<j->j<=n+1->f i<f j)(hg:∀ i j,1<=i->i<j->j<=n+1->g j<g i)(h:Found f g n k)(r:Nat)
  (hr:r=if 1<1+k/\mx f g k<=mx f g (1+k) then k else 1+k):Best f g (n+1) (if mx f g r<=4092 then r else 0):=by
 have hk:=h.le
 have below:∀ i,1<=i->i<k->mx f g k<mx f g i:=by
  intro i h1 h2;have a:=h.lo (by omega);have b:=hg i k h1 h2 (by omega);unfold mx;omega
 have above:∀ i,1+k<i->i<=n+1->mx f g (1+k)<mx f g i:=by
  intro i h1 h2;have a:=h.hi (by omega);have b:=hf (1+k) i (by omega) h1 h2;rw [Nat.add_comm] at a;unfold mx;omega
 have key:1<=r/\r<=n+1/\∀ i,1<=i->i<=n+1->mx f g r<=mx f g i/\(i<r->mx f g r<mx f g i):=by
  by_cases hc:1<1+k/\mx f g k<=mx f g (1+k)
  ·rw [if_pos hc] at hr
   subst hr;refine ⟨by omega,by omega,fun i h1 h2=>?_⟩;rcases Nat.lt_trichotomy i r with e | e | e
   ·have:=below i h1 e;omega
   ·subst e;omega
   ·by_cases e2:i=1+r
    ·subst e2;omega
    ·have:=above i (by omega) h2;omega
  ·rw [if_neg hc] at hr
   subst hr;refine ⟨by omega,by omega,fun i h1 h2=>?_⟩;rcases Nat.lt_trichotomy i (1+k) with e | e | e
   ·by_cases e2:i=k
    ·subst e2
     have:¬ mx f g i<=mx f g (1+i):=fun q=>hc ⟨by omega,q⟩
     omega
    ·have a:=below i h1 (by omega)
     have:¬ mx f g k<=mx f g (1+k):=fun q=>hc ⟨by omega,q⟩
     omega
   ·subst e;omega
   ·have:=above i e h2;omega
 split
 ·rename_i h3
  exact .inr ⟨key.1,key.2.1,h3,key.2.2⟩
 ·rename_i h3
  exact .inl ⟨rfl,fun i h1 h2=>by have:=(key.2.2 i h1 h2).1;omega⟩
def Scan (f g:Nat->Nat)(i best least:Nat):Prop:=Best f g i best/\(1<=best->least=mx f g best)
theorem Scan.none (f g:Nat->Nat):Scan f g 0 0 0:=⟨Best.none f g,fun h=>by omega⟩
theorem Scan.skip {f g:Nat->Nat}{i best least:Nat}(h:Scan f g i best least)(hx:4092<f (i+1)∨4092<g (i+1)):Scan f g (i+1) best least:=by
 have hm:4092<mx f g (i+1):=by unfold mx;omega
 refine ⟨?_,h.2⟩;rcases h.1 with ⟨h1,h2⟩ | ⟨h1,h2,h3,h4⟩
 ·refine .inl ⟨h1,fun j a b=>?_⟩
  by_cases e:j=i+1
  ·subst e;exact hm
  ·exact h2 j a (by omega)
 ·refine .inr ⟨h1,by omega,h3,fun j a b=>?_⟩
  by_cases e:j=i+1
  ·subst e;omega
  ·exact h4 j a (by omega)
theorem Scan.take {f g:Nat->Nat}{i best least:Nat}(h:Scan f g i best least)(h1:f (i+1)<=4092)(h2:g (i+1)<=4092)(hx:best=0∨mx f g (i+1)<least):Scan f g (i+1) (i+1) (mx f g (i+1)):=by
 have hm:mx f g (i+1)<=4092:=by unfold mx;omega
 refine ⟨.inr ⟨by omega,by omega,hm,fun j a b=>?_⟩,fun _=>rfl⟩
 by_cases e:j=i+1
 ·subst e;omega
 ·rcases h.1 with ⟨k1,k2⟩ | ⟨k1,k2,k3,k4⟩
  ·have:=k2 j a (by omega);omega
  ·have c:=h.2 k1
   have:=k4 j a (by omega);omega
theorem Scan.leave {f g:Nat->Nat}{i best least:Nat}(h:Scan f g i best least)(hx:best≠0)(hl:least<=mx f g (i+1)):Scan f g (i+1) best least:=by
 refine ⟨?_,h.2⟩;rcases h.1 with ⟨k1,k2⟩ | ⟨k1,k2,k3,k4⟩
 ·exact absurd k1 hx
 ·have c:=h.2 k1
  refine .inr ⟨k1,by omega,k3,fun j a b=>?_⟩
  by_cases e:j=i+1
  ·subst e;omega
  ·exact k4 j a (by omega)
theorem take_less (L:List It){i j:Nat}(h:i<j)(hj:j<=L.length):size (L.take i)<size (L.take j) :=
 size_sub (List.take_sublist_take_left (by omega)) (by rw [List.length_take,List.length_take];omega)
theorem drop_less (L:List It){i j:Nat}(h:i<j)(hj:j<=L.length):size (L.drop j)<size (L.drop i) :=
 size_sub (List.drop_sublist_drop_left L (by omega)) (by rw [List.length_drop,List.length_drop];omega)
theorem btake_less (L:List (List Int)){i j:Nat}(h:i<j)(hj:j<=L.length):bsize (L.take i)<bsize (L.take j) :=
 bsize_sub (List.take_sublist_take_left (by omega)) (by rw [List.length_take,List.length_take];omega)
theorem bdrop_less (L:List (List Int)){i j:Nat}(h:i<j)(hj:j<=L.length):bsize (L.drop j)<bsize (L.drop i) :=
 bsize_sub (List.drop_sublist_drop_left L (by omega)) (by rw [List.length_drop,List.length_drop];omega)
end Go.Proofs.YteaahinjcfjngaaGreat
namespace Go.Proofs.YteaahinjcfjngaaGreat
theorem vl_le2 {n:Nat}(h:n<16384):vl n<=2:=by
 by_cases h1:n<128
 ·rw [vl_small h1];omega
 ·rw [vl_two (by omega) h];omega
theorem vl_le3 {n:Nat}(h:n<2097152):vl n<=3:=by
 by_cases h1:n<16384
 ·have:=vl_le2 h1;omega
 ·unfold vl vform
  rw [lf_len 10 3 n (by omega) (by omega) (by omega) (fun _=>by omega)];omega
theorem sums_append (p:Nat):∀ (A B:List It),sums p (A++B)=sums p A+sums p B
 | [],B=>by simp [sums]
 | x::A,B=>by
  rw [List.cons_append,sums,sums,sums_append p A B];omega
theorem cl_max {p:Nat}{x:It}(h:x.key.length<=255):cl p x<=772:=by
 have h1:=vl_le2 (n:=x.key.length - p) (by omega);have h2:=vl_le3 (n:=tg x.size) (by have:=tg_lt x.size;omega);have h3:=tl_le x.size;unfold cl;omega
theorem pre_max {L:List It}{m:Nat}{u:List Int}(hL:L≠[])(h:∀ z∈L,m<=z.key.length/\z.key.take m=u):m<=pre L:=by
 cases L with
 | nil=>exact absurd rfl hL
 | cons y M =>
  show m<=comAll y.key y.key.length (M.map It.key)
  have hy:=h y List.mem_cons_self;refine comAll_max _ _ _ _ hy.1 fun s hs=>?_
  obtain ⟨x,hx,rfl⟩:=List.mem_map.1 hs;have hx:=h x (List.mem_cons_of_mem _ hx);exact com_of_take _ _ _ hy.1 hx.1 (hy.2.trans hx.2.symm)
theorem pre_between {A B:List It}{x a b:It}(ha:a∈A)(hb:b∈B)(h1:cmpZ a.key x.key<0)(h2:cmpZ x.key b.key<0):pre (A++B)=pre (A++x::B):=by
 have hne:A++B≠[]:=fun e=>by
  have:=List.mem_append_left B ha;rw [e] at this;cases this
 have hsub:∀ z∈A++B,z∈A++x::B:=by
  intro z hz;rcases List.mem_append.1 hz with hz | hz
  ·exact List.mem_append_left _ hz
  ·exact List.mem_append_right _ (List.mem_cons_of_mem _ hz)
 refine Nat.le_antisymm ?_ (pre_mono hsub hne);have ka:=pre_each a (List.mem_append_left B ha);have kb:=pre_each b (List.mem_append_right A hb);have kab:=com_of_take _ _ _ ka.1 kb.1 (ka.2.trans kb.2.symm);have km:=com_mid (a:=a.key) (b:=x.key) (c:=b.key) (by omega) (by omega);have kx:pre (A++B)<=com a.key x.key:=by omega
 refine pre_max (u:=a.key.take (pre (A++B))) (by simp) fun z hz=>?_
 rcases List.mem_append.1 hz with hz | hz
 ·have:=pre_each z (List.mem_append_left B hz)
  exact ⟨this.1,this.2.trans ka.2.symm⟩
 ·rcases List.mem_cons.1 hz with rfl | hz
  ·exact ⟨Nat.le_trans kx (com_le2 _ _),(com_prefix _ _ _ kx).symm⟩
  ·have:=pre_each z (List.mem_append_right A hz)
   exact ⟨this.1,this.2.trans ka.2.symm⟩
theorem part_size {M L:List It}(h:M.Sublist L)(hM:M≠[])(hk:∀ z∈L,z.key.length<=255):size M<=4+vl (pre L)+pre L+sums (pre L) M:=by
 have hpq:=pre_mono (fun x hx=>h.subset hx) hM;have a:=sums_less' (p:=pre L) (q:=pre M) hpq (List.Sublist.refl M) (fun x hx=>(pre_each x hx).1);obtain ⟨x,hx⟩:=List.exists_mem_of_ne_nil _ hM;have b:=(pre_each x hx).1;have c:=hk x (h.subset hx);have d:=(vl_mono hpq (by omega)).2;have e:pre M - pre L<=M.length*(pre M - pre L):=Nat.le_mul_of_pos_left _ (List.length_pos_iff.2 hM);unfold size;omega
theorem crossing (f:Nat->Nat)(K:Nat):∀ n,f 0<=K->K<f n->∃ i,i<n/\f i<=K/\K<f (i+1)
 | 0,h,k=>by omega
 | n+1,h,k=>by
  by_cases e:K<f n
  ·obtain ⟨i,h1,h2⟩:=crossing f K n h e
   exact ⟨i,by omega,h2⟩
  ·exact ⟨n,by omega,by omega,k⟩
theorem cut_exists {A B:List It}{x:It}(hA:∀ a∈A,cmpZ a.key x.key<0)(hB:∀ b∈B,cmpZ x.key b.key<0)(hk:∀ z∈A++x::B,z.key.length<=255)(hAB:size (A++B)<=4092)(hx:size [x]<=4092)(hbig:4092<size (A++x::B)) :
  ∃ i,1<=i/\i<=(A++x::B).length - 1/\size ((A++x::B).take i)<=4092/\size ((A++x::B).drop i)<=4092:=by
 cases A with
 | nil =>
  cases B with
  | nil=>exact absurd hx (by simpa using hbig)
  | cons b B=>exact ⟨1,by omega,by simp,by simpa using hx,by simpa using hAB⟩
 | cons a A =>
  cases B with
  | nil =>
   refine ⟨(a::A).length,by simp,by simp,?_,?_⟩
   ·rw [List.take_left]
    simpa using hAB
   ·rw [List.drop_left]
    exact hx
  | cons b B =>
   have hp:=pre_between (A:=a::A) (B:=b::B) (x:=x) List.mem_cons_self List.mem_cons_self (hA a List.mem_cons_self) (hB b List.mem_cons_self);generalize hL:(a::A)++x::(b::B)=L at *
   have hsum:sums (pre L) L=sums (pre L) ((a::A)++(b::B))+(2+cl (pre L) x):=by
    have h1:∀ p,sums p L=sums p ((a::A)++(b::B))+(2+cl p x):=by
     intro p;rw [<- hL,sums_append,sums_append]
     show sums p (a::A)+(2+cl p x+sums p (b::B))=_
     omega
    exact h1 _
   have hsz:size ((a::A)++(b::B))=3+vl (pre L)+pre L+sums (pre L) ((a::A)++(b::B)):=by
    unfold size;rw [hp]
   have hszL:size L=3+vl (pre L)+pre L+sums (pre L) L:=rfl;have hxL:x∈L:=by rw [<- hL];simp
   have hxk:=hk x hxL;have hpx:=(pre_each x hxL).1;have hv:=vl_le2 (n:=pre L) (by omega);have hcx:=cl_max (p:=pre L) hxk;generalize hT:sums (pre L) ((a::A)++(b::B))=T at *;have hf0:sums (pre L) (L.take 0)=0:=by simp [sums]
   have hfn:sums (pre L) (L.take L.length)=sums (pre L) L:=by rw [List.take_length]
   obtain ⟨i,hi,h1,h2⟩:=crossing (fun i=>sums (pre L) (L.take i)) (4088 - (vl (pre L)+pre L)) L.length (by rw [hf0];omega) (by rw [hfn];omega);have hsn:=sums_snoc (pre L) L i hi;have hci:=cl_max (p:=pre L) (hk (L.getD i it0) (by rw [show L.getD i it0=L[i] by simp [List.getD,List.getElem?_eq_getElem hi]];exact List.getElem_mem hi))
   have hadd:sums (pre L) (L.take i)+sums (pre L) (L.drop i)=sums (pre L) L:=by
    rw [<- sums_append,List.take_append_drop]
   have hi0:i≠0:=fun e=>by
    subst e;rw [hf0] at hsn;omega
   refine ⟨i,by omega,by omega,?_,?_⟩
   ·have:=part_size (List.take_sublist i L) (fun e=>by
     have h9:(L.take i).length=0:=by rw [e];rfl
     rw [List.length_take] at h9;omega) hk
    omega
   ·have:=part_size (List.drop_sublist i L) (fun e=>by
     have h9:(L.drop i).length=0:=by rw [e];rfl
     rw [List.length_drop] at h9;omega) hk
    omega
theorem best_of_exists {f g:Nat->Nat}{n r:Nat}(h:Best f g n r){i:Nat}(h1:1<=i)(h2:i<=n)(h3:f i<=4092)(h4:g i<=4092):1<=r/\r<=n/\f r<=4092/\g r<=4092:=by
 have hm:mx f g i<=4092:=by unfold mx;omega
 rcases h with ⟨k1,k2⟩ | ⟨k1,k2,k3,k4⟩
 ·have:=k2 i h1 h2;omega
 ·unfold mx at k3
  exact ⟨k1,k2,by omega,by omega⟩
end Go.Proofs.YteaahinjcfjngaaGreat
namespace Go.Proofs.YteaahinjcfjngaaGreat
theorem bsums_append (p:Nat):∀ (A B:List (List Int)),bsums p (A++B)=bsums p A+bsums p B
 | [],B=>by simp [bsums]
 | x::A,B=>by
  rw [List.cons_append,bsums,bsums,bsums_append p A B];omega
theorem bcl_max {p:Nat}{x:List Int}(h:x.length<=255):bcl p x<=265:=by
 have h1:=vl_le2 (n:=x.length - p) (by omega);unfold bcl;omega
theorem bone_max {x:List Int}(h:x.length<=255):bsize [x]<=280:=by
 have h1:=vl_le2 (n:=x.length) (by omega);have e:vl 0=1:=vl_small (by omega);unfold bsize;rw [bpre_one];simp only [bsums,bcl,Nat.sub_self,e];omega
theorem bsums_more {p q:Nat}(hpq:p<=q):∀ (D:List (List Int)),(∀ x∈D,q<=x.length/\x.length<=255)->bsums p D<=bsums q D+D.length*(q - p+1)
 | [],_=>by simp [bsums]
 | x::D,h=>by
  have h1:=bsums_more hpq D (fun y hy=>h y (List.mem_cons_of_mem _ hy));have h2:=h x List.mem_cons_self;have h3:=(vl_mono (a:=x.length - q) (b:=x.length - p) (by omega) (by omega)).2;rw [bsums,bsums,List.length_cons,Nat.add_mul];unfold bcl;omega
theorem bsums_least (q:Nat):∀ (D:List (List Int)),11*D.length<=bsums q D
 | []=>by simp [bsums]
 | x::D=>by
  have h1:=bsums_least q D;have h2:=vl_pos (x.length - q);rw [bsums,List.length_cons];unfold bcl;omega
theorem quad:∀ k,k<=24->k*(268 - 11*k)<=1640:=by decide
theorem brest_big {D l:List (List Int)}{z:List Int}(hsum:∀ p,bsums p l=bsums p D+(2+bcl p z))(hz:z.length<=255)(hsub:∀ x∈D,x∈l)(hk:∀ x∈l,x.length<=255)(hzl:z∈l)(hbig:4092<bsize l):280<bsize D:=by
 by_cases h:280<bsize D
 ·exact h
 ·exfalso
  have hc:=bcl_max (p:=bpre l) hz;have hp:=(bpre_each z hzl).1;have hv:=vl_le2 (n:=bpre l) (by omega)
  by_cases hD:D=[]
  ·subst hD
   have:=hsum (bpre l);unfold bsize at hbig;simp only [bsums] at this;omega
  ·have hpq:=bpre_mono hsub hD
   have h1:=bsums_more hpq D (fun x hx=>⟨(bpre_each x hx).1,hk x (hsub x hx)⟩);have h2:=hsum (bpre l);have h3:=vl_up hpq;have h4:=bsums_least (bpre D) D;have h5:=vl_pos (bpre D);unfold bsize at h hbig;have hk24:D.length<=24:=by omega
   have h6:=quad D.length hk24;have h7:D.length*(bpre D - bpre l+1)<=D.length*(268 - 11*D.length):=Nat.mul_le_mul_left _ (by omega);omega
theorem bcut {K A B l:List (List Int)}{s:List Int}{r:Nat}(hl:l=A++s::B)(hK:A++B=K)(hk:∀ x∈l,x.length<=255)(hfit:bsize K<=4092)(hbig:4092<bsize l)(hb:Best (fun i=>bsize (l.take (i - 1))) (fun i=>bsize (l.drop i)) l.length r) :
  2<=r/\r<l.length/\bsize (l.take (r - 1))<=4092/\bsize (l.drop r)<=4092:=by
 have hA:bsize A<=4092:=by
  by_cases e:A.length<K.length
  ·exact Nat.le_trans (Nat.le_of_lt (bsize_sub (by rw [<- hK];exact List.sublist_append_left A B) e)) hfit
  ·have:A=K:=(show A.Sublist K by rw [<- hK];exact List.sublist_append_left A B).eq_of_length (by have:=congrArg List.length hK;simp at this;omega)
   rw [this];exact hfit
 have hB:bsize B<=4092:=by
  by_cases e:B.length<K.length
  ·exact Nat.le_trans (Nat.le_of_lt (bsize_sub (by rw [<- hK];exact List.sublist_append_right A B) e)) hfit
  ·have:B=K:=(show B.Sublist K by rw [<- hK];exact List.sublist_append_right A B).eq_of_length (by have:=congrArg List.length hK;simp at this;omega)
   rw [this];exact hfit
 have hlen:l.length=A.length+B.length+1:=by rw [hl];simp;omega
 have e1:l.take A.length=A:=by rw [hl,List.take_left]
 have e2:l.drop (A.length+1)=B:=by
  rw [hl,<- List.drop_drop,List.drop_left]
  rfl
 have hx:=best_of_exists hb (i:=A.length+1) (by omega) (by omega) (by show bsize (l.take (A.length+1 - 1))<=4092;rw [Nat.add_sub_cancel,e1];exact hA) (by show bsize (l.drop (A.length+1))<=4092;rw [e2];exact hB)
 have hn2:2<=l.length:=by
  by_cases e:l.length=1
  ·obtain ⟨z,hz⟩:=List.length_eq_one_iff.1 e
   rw [hz] at hbig;have:=bone_max (hk z (by rw [hz];simp));omega
  ·omega
 have least:∀ i,1<=i->i<=l.length->mx (fun i=>bsize (l.take (i - 1))) (fun i=>bsize (l.drop i)) r<=mx (fun i=>bsize (l.take (i - 1))) (fun i=>bsize (l.drop i)) i/\(i<r->mx (fun i=>bsize (l.take (i - 1))) (fun i=>bsize (l.drop i)) r<mx (fun i=>bsize (l.take (i - 1))) (fun i=>bsize (l.drop i)) i):=by
  rcases hb with ⟨k1,_⟩ | ⟨_,_,_,k4⟩
  ·omega
  ·exact k4
 have r1:r≠1:=by
  intro e;subst e;have h1:=(least 2 (by omega) (by omega)).1
  obtain ⟨z,D,hzD⟩:∃ z D,l=z::D:=by
   cases hq:l with
   | nil=>rw [hq] at hn2;simp at hn2
   | cons z D=>exact ⟨z,D,rfl⟩
  have hbg:=brest_big (D:=D) (l:=l) (z:=z) (fun p=>by rw [hzD,bsums];omega) (hk z (by rw [hzD];simp)) (fun x hx=>by rw [hzD];simp [hx]) hk (by rw [hzD];simp) hbig;have hone:=bone_max (hk z (by rw [hzD];simp));have hlt:=bdrop_less l (i:=1) (j:=2) (by omega) hn2;have d1:l.drop 1=D:=by rw [hzD];rfl
  have t1:l.take 1=[z]:=by rw [hzD];rfl
  unfold mx at h1;simp only [Nat.sub_self,Nat.add_one_sub_one] at h1;rw [d1] at h1 hlt;rw [t1] at h1;omega
 have rn:r≠l.length:=by
  intro e;have h1:=(least (l.length - 1) (by omega) (by omega)).2 (by omega);rw [e] at h1;obtain ⟨T,z,hTz⟩:∃ T z,l=T++[z]:=⟨l.dropLast,l.getLast (by intro e;rw [e] at hn2;simp at hn2),(List.dropLast_concat_getLast _).symm⟩;have hTl:l.length=T.length+1:=by rw [hTz];simp
  have hbg:=brest_big (D:=T) (l:=l) (z:=z) (fun p=>by rw [hTz,bsums_append];simp [bsums]) (hk z (by rw [hTz];simp)) (fun x hx=>by rw [hTz];simp [hx]) hk (by rw [hTz];simp) hbig;have hone:=bone_max (hk z (by rw [hTz];simp));have hlt:=btake_less l (i:=l.length - 2) (j:=l.length - 1) (by omega) (by omega);have t1:l.take (l.length - 1)=T:=by rw [hTl,Nat.add_sub_cancel,hTz,List.take_left]
  have d1:l.drop (l.length - 1)=[z]:=by rw [hTl,Nat.add_sub_cancel,hTz,List.drop_left]
  unfold mx at h1;simp only at h1;rw [t1] at h1 hlt;rw [show l.length - 1 - 1=l.length - 2 by omega,d1] at h1;omega
 exact ⟨by omega,by omega,hx.2.2.1,hx.2.2.2⟩
end Go.Proofs.YteaahinjcfjngaaGreat
namespace Go.Proofs.YteaahinjcfjngaaGreat
structure PrT where
 key:List Int
 val:List Int
 chain:List Int
def pr0:PrT:=⟨[],[],[]⟩
def itm (p:PrT):It:=⟨p.key,[],p.val.length,0⟩
def its (L:List PrT):List It:=L.map itm
structure LfT where
 no:Int
 ps:List PrT
structure RwT (T:Type) where
 ns:List T
 ss:List (List Int)
structure BnT (T:Type) where
 no:Int
 row:RwT T
abbrev NdT:Nat->Type
 | 0=>LfT
 | n+1=>BnT (NdT n)
def scanB (f g:Nat->Nat):Nat->Nat × Nat
 | 0=>(0,0)
 | i+1=>if 4092<f (i+1)∨4092<g (i+1) then scanB f g i
  else if (scanB f g i).1=0∨mx f g (i+1)<(scanB f g i).2 then (i+1,mx f g (i+1)) else scanB f g i
theorem scanB_ok (f g:Nat->Nat):∀ n,Scan f g n (scanB f g n).1 (scanB f g n).2
 | 0=>Scan.none f g
 | n+1=>by
  have ih:=scanB_ok f g n;rw [scanB]
  split
  ·rename_i h
   exact ih.skip h
  ·rename_i h
   split
   ·rename_i k
    exact ih.take (by omega) (by omega) k
   ·rename_i k
    exact ih.leave (by omega) (by omega)
def cutL (L:List It):Nat:=(scanB (fun i=>size (L.take i)) (fun i=>size (L.drop i)) (L.length - 1)).1
theorem cutL_best (L:List It):Best (fun i=>size (L.take i)) (fun i=>size (L.drop i)) (L.length - 1) (cutL L):=(scanB_ok _ _ _).1
def cutB (L:List (List Int)):Nat:=(scanB (fun i=>bsize (L.take (i - 1))) (fun i=>bsize (L.drop i)) L.length).1
theorem cutB_best (L:List (List Int)):Best (fun i=>bsize (L.take (i - 1))) (fun i=>bsize (L.drop i)) L.length (cutB L):=(scanB_ok _ _ _).1
def sepT (a b:List Int):List Int:=b.take (com a b+1)
def keyT (ps:List PrT)(i:Nat):List Int:=(ps.getD i pr0).key
def settleL (ps:List PrT):RwT LfT :=
 if ps.length=0 then ⟨[],[]⟩
 else if size (its ps)<=4092 then ⟨[⟨0,ps⟩],[]⟩
 else ⟨[⟨0,ps.take (cutL (its ps))⟩,⟨0,ps.drop (cutL (its ps))⟩],[sepT (keyT ps (cutL (its ps) - 1)) (keyT ps (cutL (its ps)))]⟩
def settleB {T:Type}(r:RwT T):RwT (BnT T) :=
 if r.ns.length=0 then ⟨[],[]⟩
 else if bsize r.ss<=4092 then ⟨[⟨0,r⟩],[]⟩
 else ⟨[⟨0,⟨r.ns.take (cutB r.ss),r.ss.take (cutB r.ss - 1)⟩⟩,⟨0,⟨r.ns.drop (cutB r.ss),r.ss.drop (cutB r.ss)⟩⟩],[r.ss.getD (cutB r.ss - 1) []]⟩
def joinAt {T:Type}(r:RwT T)(i:Nat)(one:T):RwT T:=⟨r.ns.take i++([one]++r.ns.drop (i+2)),r.ss.take i++r.ss.drop (i+1)⟩
def tidyT {T:Type}(J:T->List Int->T->Bool)(D:T->List Int->T->T):Nat->RwT T->Nat->RwT T
 | 0,r,_=>r
 | c+1,r,i=>match r.ns[i]?,r.ss[i]?,r.ns[i+1]? with
  | some a,some s,some b=>if J a s b then tidyT J D c (joinAt r i (D a s b)) i else tidyT J D c r (i+1)
  | _,_,_=>r
def joinsT:(n:Nat)->NdT n->List Int->NdT n->Bool
 | 0,a,_,b=>decide (size (its (LfT.ps a++LfT.ps b))<=3000)
 | n+1,a,s,b=>decide (bsize ((BnT.row (T:=NdT n) a).ss++([s]++(BnT.row (T:=NdT n) b).ss))<=3000)
def joinedT:(n:Nat)->NdT n->List Int->NdT n->NdT n
 | 0,a,_,b=>(⟨0,LfT.ps a++LfT.ps b⟩:LfT)
 | n+1,a,s,b=>(⟨0,tidyT (joinsT n) (joinedT n) 1 ⟨(BnT.row (T:=NdT n) a).ns++(BnT.row (T:=NdT n) b).ns,(BnT.row (T:=NdT n) a).ss++([s]++(BnT.row (T:=NdT n) b).ss)⟩ ((BnT.row (T:=NdT n) a).ns.length - 1)⟩:BnT (NdT n))
def replT {T:Type}(r:RwT T)(i:Nat)(b:RwT T):RwT T :=
 if b.ns.length=0 then ⟨r.ns.take i++(b.ns++r.ns.drop (i+1)),r.ss.take (i - 1)++(b.ss++r.ss.drop (min (i - 1+1) r.ss.length))⟩
 else ⟨r.ns.take i++(b.ns++r.ns.drop (i+1)),r.ss.take i++(b.ss++r.ss.drop i)⟩
def placeT (ss:List (List Int))(key:List Int):Nat:=(ss.takeWhile fun s=>decide (cmpZ s key<=0)).length
def findT (ps:List PrT)(key:List Int):Nat:=(ps.takeWhile fun p=>decide (cmpZ p.key key<0)).length
def hasT (ps:List PrT)(key:List Int):Bool:=match ps[findT ps key]? with
 | some p=>decide (cmpZ p.key key=0)
 | none=>false
def endT (ps:List PrT)(key:List Int):Nat:=if hasT ps key then findT ps key+1 else findT ps key
def sameT (ps now:List PrT)(key:List Int):Bool:=decide (((ps.take (endT ps key)).drop (findT ps key)).map PrT.val=now.map PrT.val)
def changedT:(n:Nat)->NdT n->List Int->List PrT->Option (RwT (NdT n))
 | 0,x,key,now=>if sameT (LfT.ps x) now key then none else some (settleL ((LfT.ps x).take (findT (LfT.ps x) key)++(now++(LfT.ps x).drop (endT (LfT.ps x) key))))
 | n+1,x,key,now=>match (BnT.row (T:=NdT n) x).ns[placeT (BnT.row (T:=NdT n) x).ss key]? with
  | none=>none
  | some k=>(changedT n k key now).map fun b=>settleB (tidyT (joinsT n) (joinedT n) (placeT (BnT.row (T:=NdT n) x).ss key+b.ns.length - (placeT (BnT.row (T:=NdT n) x).ss key - 1)) (replT (BnT.row (T:=NdT n) x) (placeT (BnT.row (T:=NdT n) x).ss key) b) (placeT (BnT.row (T:=NdT n) x).ss key - 1))
structure TrT where
 lv:Nat
 root:NdT lv
def downT:(n:Nat)->NdT n->TrT
 | 0,x=>⟨0,x⟩
 | n+1,x=>match (BnT.row (T:=NdT n) x).ns with
  | [y]=>downT n y
  | _=>⟨n+1,x⟩
def rootedT (n:Nat)(r:RwT (NdT n)):Option TrT:=match r.ns with
 | []=>none
 | [x]=>some (downT n x)
 | _=>some ⟨n+1,(⟨0,r⟩:BnT (NdT n))⟩
def treeT (t:Option TrT)(key:List Int)(now:List PrT):Option (Option TrT):=match t with
 | none=>(changedT 0 (⟨0,[]⟩:LfT) key now).map (rootedT 0)
 | some ⟨n,x⟩=>(changedT n x key now).map (rootedT n)
def flatT:(n:Nat)->NdT n->List PrT
 | 0,x=>LfT.ps x
 | n+1,x=>(BnT.row (T:=NdT n) x).ns.flatMap (flatT n)
structure Vp (p:PrT):Prop where
 k1:1<=p.key.length
 k2:p.key.length<=255
 v1:p.val.length<=262144
 kb:Bt p.key
 vb:Bt p.val
structure Vs (s:List Int):Prop where
 k1:1<=s.length
 k2:s.length<=255
 kb:Bt s
def Srt (L:List PrT):Prop:=L.Pairwise fun a b=>cmpZ a.key b.key<0
abbrev Tok:=PrT ⊕ List Int
def tkT:Tok->List Int
 | .inl p=>p.key
 | .inr s=>s
def isS:Tok->Bool
 | .inl _=>false
 | .inr _=>true
def RkT (t u:Tok):Prop:=cmpZ (tkT t) (tkT u)<0∨(cmpZ (tkT t) (tkT u)=0/\isS t=true/\isS u=false)
def wordT {T:Type}(F:T->List PrT):List T->List (List Int)->List Tok
 | [],ss=>ss.map .inr
 | x::xs,[]=>(F x).map .inl++wordT F xs []
 | x::xs,s::ss=>(F x).map .inl++.inr s::wordT F xs ss
structure SepT {T:Type}(F:T->List PrT)(ns:List T)(ss:List (List Int)):Prop where
 len:ns.length=ss.length+1∨ns.length=0/\ss.length=0
 ord:(wordT F ns ss).Pairwise RkT
def OkT:(n:Nat)->NdT n->Prop
 | 0,x=>LfT.ps x≠[]/\Srt (LfT.ps x)/\size (its (LfT.ps x))<=4092/\∀ p∈LfT.ps x,Vp p
 | n+1,x=>(BnT.row (T:=NdT n) x).ns≠[]/\(∀ k∈(BnT.row (T:=NdT n) x).ns,OkT n k)/\SepT (flatT n) (BnT.row (T:=NdT n) x).ns (BnT.row (T:=NdT n) x).ss/\bsize (BnT.row (T:=NdT n) x).ss<=4092/\∀ s∈(BnT.row (T:=NdT n) x).ss,Vs s
structure RokT (n:Nat)(r:RwT (NdT n)):Prop where
 ok:∀ k∈r.ns,OkT n k
 sep:SepT (flatT n) r.ns r.ss
 vs:∀ s∈r.ss,Vs s
theorem lt_trans10 {a b c:List Int}(h:cmpZ a b<0)(k:cmpZ b c<=0):cmpZ a c<0:=by
 have h1:=cmp_trans (a:=a) (b:=b) (c:=c) (by omega) k;have h2:=cmp_range a c
 by_cases e:cmpZ a c=0
 ·have:=(h1.2 e).1
  omega
 ·omega
theorem lt_trans11 {a b c:List Int}(h:cmpZ a b<=0)(k:cmpZ b c<0):cmpZ a c<0:=by
 have h1:=cmp_trans (a:=a) (b:=b) (c:=c) h (by omega)
 by_cases e:cmpZ a c=0
 ·have:=(h1.2 e).2
  omega
 ·omega
theorem le_trans10 {a b c:List Int}(h:cmpZ a b<=0)(k:cmpZ b c<=0):cmpZ a c<=0:=(cmp_trans h k).1
theorem flat_ne:∀ (n:Nat) (x:NdT n),OkT n x->flatT n x≠[]
 | 0,_,h=>h.1
 | n+1,x,h=>by
  rw [OkT] at h;rw [flatT];obtain ⟨h1,h2,_⟩:=h;generalize (BnT.row (T:=NdT n) x).ns=L at *;cases L with
  | nil=>exact absurd rfl h1
  | cons y L =>
   intro e;rw [List.flatMap_cons] at e;exact flat_ne n y (h2 y List.mem_cons_self) (List.append_eq_nil_iff.1 e).1
theorem rk_pair {p q:PrT}:RkT (.inl p) (.inl q)↔cmpZ p.key q.key<0:=by simp [RkT,tkT,isS]
theorem rk_ps {p:PrT}{s:List Int}:RkT (.inl p) (.inr s)↔cmpZ p.key s<0:=by simp [RkT,tkT,isS]
theorem rk_sp {s:List Int}{p:PrT}:RkT (.inr s) (.inl p)↔cmpZ s p.key<=0:=by
 simp only [RkT,tkT,isS];constructor
 ·rintro (h | h)
  ·omega
  ·omega
 ·intro h
  by_cases e:cmpZ s p.key=0
  ·exact .inr (by simp [e])
  ·exact .inl (by omega)
theorem rk_trans {a b c:Tok}(h:RkT a b)(k:RkT b c):RkT a c:=by
 unfold RkT at *;rcases h with h | ⟨h1,h2,h3⟩
 ·rcases k with k | ⟨k1,k2,k3⟩
  ·exact .inl (lt_trans10 h (by omega))
  ·exact .inl (lt_trans10 h (by omega))
 ·rcases k with k | ⟨k1,k2,k3⟩
  ·exact .inl (lt_trans11 (by omega) k)
  ·rw [h3] at k2
   exact absurd k2 (by simp)
theorem flat_sub {T:Type}(F:T->List PrT):∀ (ns:List T) (ss:List (List Int)),((ns.flatMap F).map Sum.inl).Sublist (wordT F ns ss)
 | [],ss=>by simp
 | x::xs,[]=>by
  rw [wordT,List.flatMap_cons,List.map_append];exact List.Sublist.append (List.Sublist.refl _) (flat_sub F xs [])
 | x::xs,s::ss=>by
  rw [wordT,List.flatMap_cons,List.map_append];exact List.Sublist.append (List.Sublist.refl _) ((flat_sub F xs ss).cons _)
theorem srt_map {L:List PrT}:Srt L↔(L.map Sum.inl).Pairwise RkT:=by
 rw [List.pairwise_map];unfold Srt;constructor
 ·exact fun h=>h.imp (fun k=>rk_pair.2 k)
 ·exact fun h=>h.imp (fun k=>rk_pair.1 k)
theorem srt_flat {T:Type}{F:T->List PrT}{ns:List T}{ss:List (List Int)}(h:SepT F ns ss):Srt (ns.flatMap F):=srt_map.2 (h.ord.sublist (flat_sub F ns ss))
theorem flat_srt:∀ (n:Nat) (x:NdT n),OkT n x->Srt (flatT n x)
 | 0,_,h=>h.2.1
 | n+1,x,h=>by
  rw [OkT] at h;rw [flatT];exact srt_flat h.2.2.1
theorem flat_vp:∀ (n:Nat) (x:NdT n),OkT n x->∀ p∈flatT n x,Vp p
 | 0,_,h=>h.2.2.2
 | n+1,x,h=>by
  rw [OkT] at h;rw [flatT];intro p hp;obtain ⟨y,hy,hpy⟩:=List.mem_flatMap.1 hp;exact flat_vp n y (h.2.1 y hy) p hpy
end Go.Proofs.YteaahinjcfjngaaGreat
namespace Go.Proofs.YteaahinjcfjngaaGreat
def wtlT {T:Type}(F:T->List PrT)(xs:List T):List (List Int)->List Tok
 | []=>wordT F xs []
 | s::ss=>.inr s::wordT F xs ss
def wpT {T:Type}(F:T->List PrT):List T->List (List Int)->List Tok
 | x::xs,s::ss=>(F x).map .inl++.inr s::wpT F xs ss
 | _,_=>[]
theorem word_cons {T:Type}(F:T->List PrT)(x:T)(xs:List T)(ss:List (List Int)):wordT F (x::xs) ss=(F x).map .inl++wtlT F xs ss:=by cases ss <;> rfl
theorem word_pre {T:Type}(F:T->List PrT):∀ (A:List T) (S:List (List Int)) (X:List T) (Y:List (List Int)),A.length=S.length->wordT F (A++X) (S++Y)=wpT F A S++wordT F X Y
 | [],[],X,Y,_=>by simp [wpT]
 | a::A,s::S,X,Y,h=>by
  simp only [List.cons_append,wordT,wpT];rw [word_pre F A S X Y (by simpa using h)];simp
 | [],s::S,_,_,h=>by simp at h
 | a::A,[],_,_,h=>by simp at h
theorem word_mid {T:Type}(F:T->List PrT)(C:List T)(cs:List (List Int))(B:List T)(S:List (List Int))(h:C.length=cs.length+1):wordT F (C++B) (cs++S)=wordT F C cs++wtlT F B S:=by
 induction cs generalizing C with
 | nil =>
  match C,h with
  | [x],_ =>
   rw [List.cons_append,List.nil_append,List.nil_append,word_cons];simp [wordT]
 | cons s cs ih =>
  match C,h with
  | x::C,h =>
   simp only [List.cons_append,wordT];rw [ih C (by simpa using h)];simp
theorem wp_snoc {T:Type}(F:T->List PrT):∀ (A:List T) (S:List (List Int)) (z:T) (s:List Int),A.length=S.length->wpT F (A++[z]) (S++[s])=wpT F A S++((F z).map .inl++[.inr s])
 | [],[],z,s,_=>by simp [wpT]
 | a::A,t::S,z,s,h=>by
  simp only [List.cons_append,wpT];rw [wp_snoc F A S z s (by simpa using h)];simp
 | [],_::_,_,_,h=>by simp at h
 | _::_,[],_,_,h=>by simp at h
theorem two_at {T:Type}{L:List T}{i:Nat}{a b:T}(h1:L[i]?=some a)(h2:L[i+1]?=some b):L=L.take i++(a::b::L.drop (i+2)):=by
 obtain ⟨k1,e1⟩:=List.getElem?_eq_some_iff.1 h1;obtain ⟨k2,e2⟩:=List.getElem?_eq_some_iff.1 h2;have h3:=List.drop_eq_getElem_cons k1;have h4:=List.drop_eq_getElem_cons k2;rw [e1] at h3;rw [e2] at h4;rw [h4] at h3
 conv=>lhs;rw [<- List.take_append_drop i L,h3]
theorem one_at {T:Type}{L:List T}{i:Nat}{a:T}(h1:L[i]?=some a):L=L.take i++(a::L.drop (i+1)):=by
 obtain ⟨k1,e1⟩:=List.getElem?_eq_some_iff.1 h1;have h3:=List.drop_eq_getElem_cons k1;rw [e1] at h3
 conv=>lhs;rw [<- List.take_append_drop i L,h3]
theorem take_len {T:Type}{L:List T}{i:Nat}{a:T}(h1:L[i]?=some a):(L.take i).length=i:=by
 obtain ⟨k1,_⟩:=List.getElem?_eq_some_iff.1 h1;rw [List.length_take];omega
theorem tidy_ind {T:Type}{J:T->List Int->T->Bool}{D:T->List Int->T->T}(P:RwT T->Prop)
  (hs:∀ r i a s b,P r->r.ns[i]?=some a->r.ss[i]?=some s->r.ns[i+1]?=some b->J a s b=true->P (joinAt r i (D a s b))) :
  ∀ (c:Nat) (r:RwT T) (i:Nat),P r->P (tidyT J D c r i)
 | 0,_,_,h=>h
 | c+1,r,i,h=>by
  rw [tidyT]
  split
  ·rename_i a s b h1 h2 h3
   split
   ·rename_i hj
    exact tidy_ind P hs c _ i (hs r i a s b h h1 h2 h3 hj)
   ·exact tidy_ind P hs c r (i+1) h
  ·exact h
theorem flat_joinAt {T:Type}{F:T->List PrT}{r:RwT T}{i:Nat}{a b one:T}(h1:r.ns[i]?=some a)(h2:r.ns[i+1]?=some b)(hD:F one=F a++F b):(joinAt r i one).ns.flatMap F=r.ns.flatMap F:=by
 conv=>rhs;rw [two_at h1 h2]
 simp only [joinAt,List.flatMap_append,List.flatMap_cons,List.flatMap_nil,hD];simp
theorem flat_tidy {T:Type}{F:T->List PrT}{J:T->List Int->T->Bool}{D:T->List Int->T->T}(hD:∀ a s b,F (D a s b)=F a++F b)(c:Nat)(r:RwT T)(i:Nat):(tidyT J D c r i).ns.flatMap F=r.ns.flatMap F :=
 tidy_ind (P:=fun q=>q.ns.flatMap F=r.ns.flatMap F) (fun _ _ a s b hq h1 _ h3 _=>(flat_joinAt h1 h3 (hD a s b)).trans hq) c r i rfl
theorem flat_joined:∀ (n:Nat) (a:NdT n) (s:List Int) (b:NdT n),flatT n (joinedT n a s b)=flatT n a++flatT n b
 | 0,_,_,_=>rfl
 | n+1,a,s,b=>by
  rw [joinedT,flatT]
  show (tidyT (joinsT n) (joinedT n) 1 _ _).ns.flatMap (flatT n)=_
  rw [flat_tidy (flat_joined n)];simp [flatT]
theorem sub_tidy {T:Type}{J:T->List Int->T->Bool}{D:T->List Int->T->T}(c:Nat)(r:RwT T)(i:Nat):(tidyT J D c r i).ss.Sublist r.ss :=
 tidy_ind (P:=fun q=>q.ss.Sublist r.ss) (fun _ _ _ _ _ hq _ h2 _ _=>by
  refine List.Sublist.trans ?_ hq
  conv=>rhs;rw [one_at h2]
  exact List.Sublist.append (List.Sublist.refl _) (List.sublist_cons_self _ _)) c r i (List.Sublist.refl _)
theorem bsize_le10 {M L:List (List Int)}(h:M.Sublist L):bsize M<=bsize L:=by
 by_cases e:M.length<L.length
 ·exact Nat.le_of_lt (bsize_sub h e)
 ·rw [h.eq_of_length (by have:=h.length_le;omega)]
  exact Nat.le_refl _
theorem size_le10 {M L:List It}(h:M.Sublist L):size M<=size L:=by
 by_cases e:M.length<L.length
 ·exact Nat.le_of_lt (size_sub h e)
 ·rw [h.eq_of_length (by have:=h.length_le;omega)]
  exact Nat.le_refl _
theorem word_two {T:Type}{F:T->List PrT}{r:RwT T}{i:Nat}{a b:T}{s:List Int}(h1:r.ns[i]?=some a)(h2:r.ss[i]?=some s)(h3:r.ns[i+1]?=some b) :
  wordT F r.ns r.ss=wpT F (r.ns.take i) (r.ss.take i)++((F a).map .inl++.inr s::((F b).map .inl++wtlT F (r.ns.drop (i+2)) (r.ss.drop (i+1)))):=by
 conv=>lhs;rw [two_at h1 h3,one_at h2]
 rw [word_pre F _ _ _ _ ((take_len h1).trans (take_len h2).symm),wordT,word_cons]
theorem word_joinAt {T:Type}{F:T->List PrT}{r:RwT T}{i:Nat}{a b one:T}{s:List Int}(h1:r.ns[i]?=some a)(h2:r.ss[i]?=some s)(hD:F one=F a++F b) :
  wordT F (joinAt r i one).ns (joinAt r i one).ss=wpT F (r.ns.take i) (r.ss.take i)++((F a).map .inl++((F b).map .inl++wtlT F (r.ns.drop (i+2)) (r.ss.drop (i+1)))):=by
 simp only [joinAt];rw [word_pre F _ _ _ _ ((take_len h1).trans (take_len h2).symm),List.cons_append,List.nil_append,word_cons,hD];simp
theorem sep_joinAt {T:Type}{F:T->List PrT}{r:RwT T}{i:Nat}{a b one:T}{s:List Int}(h:SepT F r.ns r.ss)(h1:r.ns[i]?=some a)(h2:r.ss[i]?=some s)(h3:r.ns[i+1]?=some b)(hD:F one=F a++F b):SepT F (joinAt r i one).ns (joinAt r i one).ss:=by
 refine ⟨?_,?_⟩
 ·have hl:=h.len
  obtain ⟨k1,_⟩:=List.getElem?_eq_some_iff.1 h3;obtain ⟨k2,_⟩:=List.getElem?_eq_some_iff.1 h2;simp only [joinAt,List.length_append,List.length_take,List.length_drop,List.length_cons,List.length_nil];omega
 ·rw [word_joinAt h1 h2 hD]
  have:=h.ord;rw [word_two h1 h2 h3] at this;refine this.sublist ?_;exact List.Sublist.append (List.Sublist.refl _) (List.Sublist.append (List.Sublist.refl _) (List.sublist_cons_self _ _))
theorem sep_seam {T:Type}{F:T->List PrT}{r:RwT T}{i:Nat}{a b:T}{s:List Int}(h:SepT F r.ns r.ss)(h1:r.ns[i]?=some a)(h2:r.ss[i]?=some s)(h3:r.ns[i+1]?=some b) :
  ((F a).map Sum.inl++(Sum.inr s:Tok)::(F b).map Sum.inl).Pairwise RkT:=by
 have:=h.ord;rw [word_two h1 h2 h3] at this;refine this.sublist ?_;refine List.Sublist.trans ?_ (List.sublist_append_right _ _);refine List.Sublist.append (List.Sublist.refl _) (List.Sublist.cons_cons _ (List.sublist_append_left _ _))
theorem word_ne {T:Type}{F:T->List PrT}{ns:List T}{ss:List (List Int)}(h:ns≠[])(hF:∀ x∈ns,F x≠[]):∃ p,Sum.inl p∈wordT F ns ss:=by
 cases ns with
 | nil=>exact absurd rfl h
 | cons x xs =>
  rw [word_cons];have:=hF x List.mem_cons_self;cases e:F x with
  | nil=>exact absurd e this
  | cons p ps=>exact ⟨p,by simp⟩
theorem word_app {T:Type}(F:T->List PrT)(A:List T)(S:List (List Int))(B:List T)(s:List Int)(S':List (List Int))(h:A.length=S.length+1):wordT F (A++B) (S++([s]++S'))=wordT F A S++.inr s::wordT F B S':=by
 rw [word_mid F A S B _ h]
 rfl
theorem word_pairs {T:Type}{F:T->List PrT}{p:PrT}:∀ (ns:List T) (ss:List (List Int)),Sum.inl p∈wordT F ns ss->p∈ns.flatMap F
 | [],ss,h=>by simp [wordT] at h
 | x::xs,[],h=>by
  rw [wordT,List.mem_append] at h;rw [List.flatMap_cons,List.mem_append];rcases h with h | h
  ·obtain ⟨q,hq,e⟩:=List.mem_map.1 h
   cases e;exact .inl hq
  ·exact .inr (word_pairs xs [] h)
 | x::xs,s::ss,h=>by
  rw [wordT,List.mem_append] at h;rw [List.flatMap_cons,List.mem_append];rcases h with h | h
  ·obtain ⟨q,hq,e⟩:=List.mem_map.1 h
   cases e;exact .inl hq
  ·rcases List.mem_cons.1 h with e | h
   ·cases e
   ·exact .inr (word_pairs xs ss h)
theorem word_last {T:Type}{F:T->List PrT}:∀ {ns:List T} {ss:List (List Int)},ns.length=ss.length+1->(∀ x∈ns,F x≠[])->(wordT F ns ss).Pairwise RkT->∀ t∈wordT F ns ss,∃ p,Sum.inl p∈wordT F ns ss/\(t=.inl p∨RkT t (.inl p))
 | [x],[],_,_,_,t,ht=>by
  simp only [wordT,List.map_nil,List.append_nil] at ht ⊢;obtain ⟨p,hp,rfl⟩:=List.mem_map.1 ht;exact ⟨p,ht,.inl rfl⟩
 | x::y::xs,s::ss,hl,hF,ho,t,ht=>by
  rw [wordT] at ht ho ⊢;obtain ⟨q,hq⟩:=word_ne (F:=F) (ss:=ss) (ns:=y::xs) (by simp) (fun z hz=>hF z (List.mem_cons_of_mem _ hz));rw [List.pairwise_append] at ho;rcases List.mem_append.1 ht with h | h
  ·exact ⟨q,List.mem_append_right _ (List.mem_cons_of_mem _ hq),.inr (ho.2.2 t h _ (List.mem_cons_of_mem _ hq))⟩
  ·have ho2:=List.pairwise_cons.1 ho.2.1
   rcases List.mem_cons.1 h with e | h
   ·rw [e]
    exact ⟨q,List.mem_append_right _ (List.mem_cons_of_mem _ hq),.inr (ho2.1 _ hq)⟩
   ·obtain ⟨p,hp,k⟩:=word_last (by simpa using hl) (fun z hz=>hF z (List.mem_cons_of_mem _ hz)) ho2.2 t h
    exact ⟨p,List.mem_append_right _ (List.mem_cons_of_mem _ hp),k⟩
 | [],_,hl,_,_,_,_=>by simp at hl
 | [_],_::_,hl,_,_,_,_=>by simp at hl
 | _::_::_,[],hl,_,_,_,_=>by simp at hl
theorem word_first {T:Type}{F:T->List PrT}{x:T}{xs:List T}{ss:List (List Int)}(hF:F x≠[])(ho:(wordT F (x::xs) ss).Pairwise RkT):∃ p,Sum.inl p∈wordT F (x::xs) ss/\∀ t∈wordT F (x::xs) ss,t=.inl p∨RkT (.inl p) t:=by
 rw [word_cons] at *;cases e:F x with
 | nil=>exact absurd e hF
 | cons p ps =>
  rw [e,List.map_cons,List.cons_append] at ho;refine ⟨p,by simp,fun t ht=>?_⟩;rw [List.map_cons,List.cons_append] at ht;rcases List.mem_cons.1 ht with h | h
  ·exact .inl h
  ·exact .inr ((List.pairwise_cons.1 ho).1 t h)
theorem sep_concat {T:Type}{F:T->List PrT}{A B:List T}{S S':List (List Int)}{s:List Int}(ha:SepT F A S)(hb:SepT F B S')(a0:A≠[])(b0:B≠[])(hA:∀ x∈A,F x≠[])(hB:∀ x∈B,F x≠[])
  (h1:∀ p∈A.flatMap F,cmpZ p.key s<0) (h2:∀ p∈B.flatMap F,cmpZ s p.key<=0):SepT F (A++B) (S++([s]++S')):=by
 have la:A.length=S.length+1:=by
  rcases ha.len with h | h
  ·exact h
  ·exact absurd (List.length_eq_zero_iff.1 h.1) a0
 have lb:B.length=S'.length+1:=by
  rcases hb.len with h | h
  ·exact h
  ·exact absurd (List.length_eq_zero_iff.1 h.1) b0
 refine ⟨.inl (by simp;omega),?_⟩;rw [word_app F A S B s S' la]
 have k1:∀ t∈wordT F A S,RkT t (.inr s):=by
  intro t ht;obtain ⟨p,hp,e⟩:=word_last la hA ha.ord t ht;have hps:=rk_ps.2 (h1 p (word_pairs A S hp));rcases e with rfl | e
  ·exact hps
  ·exact rk_trans e hps
 have k2:∀ t∈wordT F B S',RkT (.inr s) t:=by
  cases B with
  | nil=>exact absurd rfl b0
  | cons x xs =>
   obtain ⟨p,hp,hall⟩:=word_first (hB x List.mem_cons_self) hb.ord;intro t ht;have hsp:=rk_sp.2 (h2 p (word_pairs _ _ hp));rcases hall t ht with rfl | e
   ·exact hsp
   ·exact rk_trans hsp e
 rw [List.pairwise_append];refine ⟨ha.ord,List.pairwise_cons.2 ⟨k2,hb.ord⟩,fun t ht u hu=>?_⟩;rcases List.mem_cons.1 hu with rfl | hu
 ·exact k1 t ht
 ·exact rk_trans (k1 t ht) (k2 u hu)
theorem flat_ne_all {n:Nat}{r:RwT (NdT n)}(h:∀ k∈r.ns,OkT n k):∀ x∈r.ns,flatT n x≠[]:=fun x hx=>flat_ne n x (h x hx)
theorem srt_seam {A B:List PrT}{s:List Int}(ha:Srt A)(hb:Srt B)(h1:∀ p∈A,cmpZ p.key s<0)(h2:∀ p∈B,cmpZ s p.key<=0):Srt (A++B):=by
 unfold Srt at *;rw [List.pairwise_append];exact ⟨ha,hb,fun a hA b hB=>lt_trans10 (h1 a hA) (h2 b hB)⟩
theorem ok_tidy {n:Nat}(hj:∀ (a:NdT n) (s:List Int) (b:NdT n),OkT n a->OkT n b->(∀ p∈flatT n a,cmpZ p.key s<0)->(∀ p∈flatT n b,cmpZ s p.key<=0)->Vs s->joinsT n a s b=true->OkT n (joinedT n a s b))
  (c:Nat) (r:RwT (NdT n)) (i:Nat) (h:RokT n r):RokT n (tidyT (joinsT n) (joinedT n) c r i):=by
 refine tidy_ind (P:=fun q=>RokT n q) (fun q _ a s b hq h1 h2 h3 hJ=>?_) c r i h;have hs:=sep_seam hq.sep h1 h2 h3;rw [List.pairwise_append,List.pairwise_cons] at hs;have ma:=List.mem_of_getElem? h1;have mb:=List.mem_of_getElem? h3;have ms:=List.mem_of_getElem? h2;refine ⟨fun k hk=>?_,sep_joinAt hq.sep h1 h2 h3 (flat_joined n a s b),fun t ht=>?_⟩
 ·simp only [joinAt,List.mem_append,List.mem_cons,List.not_mem_nil,or_false] at hk
  rcases hk with hk | rfl | hk
  ·exact hq.ok k (List.mem_of_mem_take hk)
  ·refine hj a s b (hq.ok a ma) (hq.ok b mb) (fun p hp=>?_) (fun p hp=>?_) (hq.vs s ms) hJ
   ·exact rk_ps.1 (hs.2.2 _ (List.mem_map_of_mem hp) _ List.mem_cons_self)
   ·exact rk_sp.1 (hs.2.1.1 _ (List.mem_map_of_mem hp))
  ·exact hq.ok k (List.mem_of_mem_drop hk)
 ·simp only [joinAt,List.mem_append] at ht
  rcases ht with ht | ht
  ·exact hq.vs t (List.mem_of_mem_take ht)
  ·exact hq.vs t (List.mem_of_mem_drop ht)
theorem tidy_ne {T:Type}{J:T->List Int->T->Bool}{D:T->List Int->T->T}(c:Nat)(r:RwT T)(i:Nat)(h:r.ns≠[]):(tidyT J D c r i).ns≠[] :=
 tidy_ind (P:=fun q=>q.ns≠[]) (fun _ _ _ _ _ _ _ _ _ _=>by simp [joinAt]) c r i h
theorem ok_joined:∀ (n:Nat) (a:NdT n) (s:List Int) (b:NdT n),OkT n a->OkT n b->(∀ p∈flatT n a,cmpZ p.key s<0)->(∀ p∈flatT n b,cmpZ s p.key<=0)->Vs s->joinsT n a s b=true->OkT n (joinedT n a s b)
 | 0,a,s,b,ha,hb,h1,h2,_,hJ=>by
  simp only [OkT,joinedT,joinsT,decide_eq_true_eq,flatT] at *;refine ⟨by simp [ha.1],srt_seam ha.2.1 hb.2.1 h1 h2,by omega,fun p hp=>?_⟩;rcases List.mem_append.1 hp with hp | hp
  ·exact ha.2.2.2 p hp
  ·exact hb.2.2.2 p hp
 | n+1,a,s,b,ha,hb,h1,h2,hv,hJ=>by
  simp only [OkT,joinedT,joinsT,decide_eq_true_eq,flatT] at *;obtain ⟨a1,a2,a3,a4,a5⟩:=ha;obtain ⟨b1,b2,b3,b4,b5⟩:=hb
  have hr:RokT n ⟨(BnT.row (T:=NdT n) a).ns++(BnT.row (T:=NdT n) b).ns,(BnT.row (T:=NdT n) a).ss++([s]++(BnT.row (T:=NdT n) b).ss)⟩:=by
   refine ⟨fun k hk=>?_,sep_concat a3 b3 a1 b1 (fun x hx=>flat_ne n x (a2 x hx)) (fun x hx=>flat_ne n x (b2 x hx)) h1 h2,fun t ht=>?_⟩
   ·rcases List.mem_append.1 hk with hk | hk
    ·exact a2 k hk
    ·exact b2 k hk
   ·simp only [List.mem_append,List.mem_cons,List.not_mem_nil,or_false] at ht
    rcases ht with ht | rfl | ht
    ·exact a5 t ht
    ·exact hv
    ·exact b5 t ht
  have hq:=ok_tidy (ok_joined n) 1 _ ((BnT.row (T:=NdT n) a).ns.length - 1) hr;have hsub:=sub_tidy (J:=joinsT n) (D:=joinedT n) 1 ⟨(BnT.row (T:=NdT n) a).ns++(BnT.row (T:=NdT n) b).ns,(BnT.row (T:=NdT n) a).ss++([s]++(BnT.row (T:=NdT n) b).ss)⟩ ((BnT.row (T:=NdT n) a).ns.length - 1);have hle:=bsize_le10 hsub;exact ⟨tidy_ne _ _ _ (by simp [a1]),hq.ok,hq.sep,Nat.le_trans hle (Nat.le_trans hJ (by omega)),hq.vs⟩
end Go.Proofs.YteaahinjcfjngaaGreat
namespace Go.Proofs.YteaahinjcfjngaaGreat
def updT (L:List PrT)(key:List Int)(now:List PrT):List PrT :=
 L.filter (fun p=>decide (cmpZ p.key key<0))++(now++L.filter (fun p=>decide (0<cmpZ p.key key)))
def midT (L:List PrT)(key:List Int):List PrT:=L.filter fun p=>decide (cmpZ p.key key=0)
theorem find_cons (x:PrT)(L:List PrT)(key:List Int):findT (x::L) key=if cmpZ x.key key<0 then findT L key+1 else 0:=by
 unfold findT;rw [List.takeWhile_cons]
 by_cases h:cmpZ x.key key<0 <;> simp [h]
theorem has_cons (x:PrT)(L:List PrT)(key:List Int):hasT (x::L) key=if cmpZ x.key key<0 then hasT L key else decide (cmpZ x.key key=0):=by
 unfold hasT;rw [find_cons]
 by_cases h:cmpZ x.key key<0 <;> simp [h]
theorem end_cons (x:PrT)(L:List PrT)(key:List Int):endT (x::L) key=if cmpZ x.key key<0 then endT L key+1 else if cmpZ x.key key=0 then 1 else 0:=by
 unfold endT;rw [has_cons,find_cons]
 by_cases h:cmpZ x.key key<0
 ·simp only [h,if_true]
  split <;> rfl
 ·simp only [h,if_false]
  by_cases k:cmpZ x.key key=0 <;> simp [k]
theorem find_end (L:List PrT)(key:List Int):findT L key<=endT L key/\endT L key<=findT L key+1:=by
 unfold endT
 split <;> omega
theorem find_le:∀ (L:List PrT) (key:List Int),endT L key<=L.length
 | [],key=>by simp [endT,hasT,findT]
 | x::L,key=>by
  rw [end_cons];have:=find_le L key;simp only [List.length_cons]
  split
  ·omega
  ·split <;> omega
theorem above_all {x:PrT}{L:List PrT}{key:List Int}(h:Srt (x::L))(k:¬ cmpZ x.key key<0):∀ p∈L,0<cmpZ p.key key:=by
 intro p hp;have h1:=(List.pairwise_cons.1 h).1 p hp;have h2:=cmp_anti x.key key;have h3:=lt_trans11 (a:=key) (b:=x.key) (c:=p.key) (by omega) h1;have h4:=cmp_anti p.key key;omega
theorem leaf_cut {key:List Int}:∀ {L:List PrT},Srt L->L.take (findT L key)=L.filter (fun p=>decide (cmpZ p.key key<0))/\L.drop (endT L key)=L.filter (fun p=>decide (0<cmpZ p.key key))/\(L.take (endT L key)).drop (findT L key)=midT L key
 | [],_=>by simp [findT,endT,hasT,midT]
 | x::L,h=>by
  have ih:=leaf_cut (key:=key) (L:=L) (List.pairwise_cons.1 h).2;rw [find_cons,end_cons];unfold midT
  by_cases k:cmpZ x.key key<0
  ·have k1:¬ 0<cmpZ x.key key:=by omega
   have k2:¬ cmpZ x.key key=0:=by omega
   simp only [k,if_true,List.take_succ_cons,List.drop_succ_cons,List.filter_cons,decide_true,k1,k2,decide_false,Bool.false_eq_true,if_false];exact ⟨by rw [ih.1],ih.2.1,ih.2.2⟩
  ·have ha:=above_all h k
   have f1:L.filter (fun p=>decide (cmpZ p.key key<0))=[]:=List.filter_eq_nil_iff.2 (fun p hp=>by have:=ha p hp;simp;omega);have f2:L.filter (fun p=>decide (cmpZ p.key key=0))=[]:=List.filter_eq_nil_iff.2 (fun p hp=>by have:=ha p hp;simp;omega);have f3:L.filter (fun p=>decide (0<cmpZ p.key key))=L:=List.filter_eq_self.2 (fun p hp=>by have:=ha p hp;simpa using this)
   by_cases k2:cmpZ x.key key=0
   ·simp [k2,f1,f2,f3]
   ·have k3:0<cmpZ x.key key:=by omega
    simp [k,k2,k3,f1,f2,f3]
theorem upd_leaf {L:List PrT}{key:List Int}{now:List PrT}(h:Srt L):L.take (findT L key)++(now++L.drop (endT L key))=updT L key now:=by
 rw [(leaf_cut h).1,(leaf_cut h).2.1]
 rfl
theorem its_sub {M L:List PrT}(h:M.Sublist L):(its M).Sublist (its L):=h.map itm
theorem its_len (L:List PrT):(its L).length=L.length:=by simp [its]
theorem its_app (A B:List PrT):its (A++B)=its A++its B:=by simp [its]
theorem its_take (L:List PrT)(i:Nat):(its L).take i=its (L.take i):=by simp [its,List.map_take]
theorem its_drop (L:List PrT)(i:Nat):(its L).drop i=its (L.drop i):=by simp [its,List.map_drop]
theorem upd_srt {L:List PrT}{key:List Int}{now:List PrT}(h:Srt L)(hn:∀ p∈now,p.key=key)(h1:now.length<=1):Srt (updT L key now):=by
 unfold updT Srt at *
 have n1:now.Pairwise fun a b=>cmpZ a.key b.key<0:=by
  match now,h1 with
  | [],_=>exact List.Pairwise.nil
  | [p],_=>exact List.pairwise_singleton ..
  | _::_::_,h=>simp at h
 rw [List.pairwise_append,List.pairwise_append];refine ⟨h.filter _,⟨n1,h.filter _,fun a ha b hb=>?_⟩,fun a ha b hb=>?_⟩
 ·have hb2:=(List.mem_filter.1 hb).2
  rw [decide_eq_true_eq] at hb2;rw [hn a ha];have:=cmp_anti b.key key;omega
 ·have ha2:=(List.mem_filter.1 ha).2
  rw [decide_eq_true_eq] at ha2;rcases List.mem_append.1 hb with hb | hb
  ·rw [hn b hb]
   exact ha2
  ·have hb2:=(List.mem_filter.1 hb).2
   rw [decide_eq_true_eq] at hb2;exact lt_trans10 ha2 (by have:=cmp_anti b.key key;omega)
theorem upd_mem {L:List PrT}{key:List Int}{now:List PrT}{p:PrT}(h:p∈updT L key now):p∈now∨p∈L:=by
 unfold updT at h;rw [List.mem_append,List.mem_append] at h;rcases h with h | h | h
 ·exact .inr (List.mem_filter.1 h).1
 ·exact .inl h
 ·exact .inr (List.mem_filter.1 h).1
theorem one_fits {p:PrT}(h:Vp p):size (its [p])<=4092:=by
 show size [itm p]<=4092
 have h1:=cl_max (p:=p.key.length) (x:=itm p) h.k2;have h2:pre [itm p]=p.key.length:=pre_one _;have h3:=vl_le2 (n:=pre [itm p]) (by rw [h2];have:=h.k2;omega);unfold size sums;rw [sums];rw [h2] at *;have:=h.k2;omega
theorem upd_cut {L:List PrT}{key:List Int}{now:List PrT}(hs:Srt L)(hf:size (its L)<=4092)(hv:∀ p∈L,Vp p)(hn:∀ p∈now,p.key=key/\Vp p)(h1:now.length<=1)(hbig:4092<size (its (updT L key now))) :
  ∃ i,1<=i/\i<=(its (updT L key now)).length - 1/\size ((its (updT L key now)).take i)<=4092/\size ((its (updT L key now)).drop i)<=4092:=by
 have hsub:(L.filter (fun p=>decide (cmpZ p.key key<0))++L.filter (fun p=>decide (0<cmpZ p.key key))).Sublist L:=by
  have:=leaf_cut (key:=key) hs;rw [<- this.1,<- this.2.1]
  conv=>rhs;rw [<- List.take_append_drop (findT L key) L]
  exact List.Sublist.append (List.Sublist.refl _) (List.drop_sublist_drop_left _ (find_end L key).1)
 have hfit:=Nat.le_trans (size_le10 (its_sub hsub)) hf
 match now,h1,hn,hbig with
 | [],_,_,hbig =>
  unfold updT at hbig;rw [List.nil_append] at hbig;omega
 | [p],_,hn,hbig =>
  have e:its (updT L key [p])=its (L.filter (fun p=>decide (cmpZ p.key key<0)))++itm p::its (L.filter (fun p=>decide (0<cmpZ p.key key))):=by simp [its,updT]
  rw [e] at hbig ⊢;have hp:=hn p (by simp);refine cut_exists (fun a ha=>?_) (fun b hb=>?_) (fun z hz=>?_) (by rw [<- its_app];exact hfit) (one_fits hp.2) hbig
  ·obtain ⟨q,hq,rfl⟩:=List.mem_map.1 ha
   have:=(List.mem_filter.1 hq).2;rw [decide_eq_true_eq] at this
   show cmpZ q.key p.key<0
   rw [hp.1];exact this
  ·obtain ⟨q,hq,rfl⟩:=List.mem_map.1 hb
   have:=(List.mem_filter.1 hq).2;rw [decide_eq_true_eq] at this
   show cmpZ p.key q.key<0
   rw [hp.1];have:=cmp_anti q.key key;omega
  ·rw [<- e] at hz
   obtain ⟨q,hq,rfl⟩:=List.mem_map.1 hz;rcases upd_mem hq with k | k
   ·exact (hn q k).2.k2
   ·exact (hv q k).k2
 | _::_::_,h,_,_=>simp at h
theorem mem_two {T:Type}{k a b:T}(h:k∈[a,b]):k=a∨k=b:=by simpa using h
theorem flat_settleL (ps:List PrT):(settleL ps).ns.flatMap (flatT 0)=ps:=by
 unfold settleL
 split
 ·rename_i h
  rw [List.length_eq_zero_iff.1 h]
  rfl
 ·split <;> simp [flatT]
theorem flat_settleB {n:Nat}(r:RwT (NdT n)):(settleB r).ns.flatMap (flatT (n+1))=r.ns.flatMap (flatT n):=by
 unfold settleB
 split
 ·rename_i h
  rw [List.length_eq_zero_iff.1 h]
  rfl
 ·split
  ·simp [flatT]
  ·simp only [List.flatMap_cons,List.flatMap_nil,List.append_nil,flatT]
   rw [<- List.flatMap_append,List.take_append_drop]
theorem keyT_mem {ps:List PrT}{i:Nat}(h:i<ps.length):∃ p,ps[i]?=some p/\p.key=keyT ps i/\p∈ps:=by
 refine ⟨ps[i],List.getElem?_eq_getElem h,?_,List.getElem_mem h⟩;simp [keyT,List.getD,List.getElem?_eq_getElem h]
theorem srt_cut {ps:List PrT}{c:Nat}(hs:Srt ps)(h1:1<=c)(h2:c<ps.length) :
  (∀ p∈ps.take c,cmpZ p.key (keyT ps (c - 1))<=0)/\(∀ p∈ps.drop c,cmpZ (keyT ps c) p.key<=0)/\cmpZ (keyT ps (c - 1)) (keyT ps c)<0:=by
 obtain ⟨p,p1,p2,p3⟩:=keyT_mem (ps:=ps) (i:=c - 1) (by omega);obtain ⟨q,q1,q2,q3⟩:=keyT_mem h2;have hi:=List.pairwise_iff_getElem.1 hs;obtain ⟨p4,p5⟩:=List.getElem?_eq_some_iff.1 p1;obtain ⟨q4,q5⟩:=List.getElem?_eq_some_iff.1 q1;refine ⟨fun x hx=>?_,fun x hx=>?_,?_⟩
 ·obtain ⟨j,hj,rfl⟩:=List.getElem_of_mem hx
  rw [List.getElem_take];rw [List.length_take] at hj
  by_cases e:j=c - 1
  ·subst e
   rw [p5,p2,cmp_self];exact Int.le_refl _
  ·have:=hi j (c - 1) (by omega) p4 (by omega)
   rw [p5,p2] at this;omega
 ·obtain ⟨j,hj,rfl⟩:=List.getElem_of_mem hx
  rw [List.getElem_drop];rw [List.length_drop] at hj
  by_cases e:j=0
  ·subst e
   simp only [Nat.add_zero];rw [q5,q2,cmp_self];exact Int.le_refl _
  ·have:=hi c (c+j) q4 (by omega) (by omega)
   rw [q5,q2] at this;omega
 ·have:=hi (c - 1) c p4 q4 (by omega)
  rw [p5,q5,p2,q2] at this;exact this
theorem pairs_word {A B:List PrT}{s:List Int}(ha:Srt A)(hb:Srt B)(h1:∀ p∈A,cmpZ p.key s<0)(h2:∀ p∈B,cmpZ s p.key<=0):(A.map Sum.inl++(Sum.inr s:Tok)::B.map Sum.inl).Pairwise RkT:=by
 rw [List.pairwise_append,List.pairwise_cons];refine ⟨srt_map.1 ha,⟨fun t ht=>?_,srt_map.1 hb⟩,fun t ht u hu=>?_⟩
 ·obtain ⟨p,hp,rfl⟩:=List.mem_map.1 ht
  exact rk_sp.2 (h2 p hp)
 ·obtain ⟨p,hp,rfl⟩:=List.mem_map.1 ht
  rcases List.mem_cons.1 hu with rfl | hu
  ·exact rk_ps.2 (h1 p hp)
  ·obtain ⟨q,hq,rfl⟩:=List.mem_map.1 hu
   exact rk_pair.2 (lt_trans10 (h1 p hp) (h2 q hq))
theorem sep_vs {a b:List Int}(h:cmpZ a b<0)(hb:b.length<=255)(bb:Bt b):Vs (sepT a b):=by
 have h1:=com_lt h;refine ⟨?_,?_,bb.take _⟩
 ·unfold sepT
  rw [List.length_take];omega
 ·unfold sepT
  rw [List.length_take];omega
theorem ok_settleL {ps:List PrT}(hs:Srt ps)(hv:∀ p∈ps,Vp p)(hc:4092<size (its ps)->∃ i,1<=i/\i<=(its ps).length - 1/\size ((its ps).take i)<=4092/\size ((its ps).drop i)<=4092) :
  RokT 0 (settleL ps)/\(settleL ps).ns.length<=2/\(4092<size (its ps)->1<=cutL (its ps)/\cutL (its ps)<ps.length):=by
 by_cases h0:ps.length=0
 ·unfold settleL
  rw [if_pos h0];have hps:=List.length_eq_zero_iff.1 h0;subst hps;refine ⟨⟨fun k hk=>(List.not_mem_nil hk).elim,⟨.inr ⟨rfl,rfl⟩,by simp [wordT]⟩,fun s hs=>by simp at hs⟩,by simp,fun h=>?_⟩;have:=hc h;simp [its] at this;omega
 ·have hne:ps≠[]:=fun e=>h0 (by rw [e];rfl)
  by_cases hf:size (its ps)<=4092
  ·unfold settleL
   rw [if_neg h0,if_pos hf];refine ⟨⟨fun k hk=>?_,⟨.inl rfl,?_⟩,fun s hs=>by simp at hs⟩,by simp,fun h=>by omega⟩
   ·rw [List.mem_singleton.1 hk]
    exact ⟨hne,hs,hf,hv⟩
   ·simp only [wordT,List.map_nil,List.append_nil]
    exact srt_map.1 hs
  ·obtain ⟨i,i1,i2,i3,i4⟩:=hc (by omega)
   obtain ⟨c1,c2,c3,c4⟩:=best_of_exists (cutL_best (its ps)) i1 i2 i3 i4;rw [its_len] at c2;rw [its_take] at c3;rw [its_drop] at c4;have hcl:cutL (its ps)<ps.length:=by omega
   obtain ⟨s1,s2,s3⟩:=srt_cut hs c1 hcl;obtain ⟨q,q1,q2,q3⟩:=keyT_mem hcl;have hsl:=sep_low s3;have hst:=cmp_take (com (keyT ps (cutL (its ps) - 1)) (keyT ps (cutL (its ps)))+1) (keyT ps (cutL (its ps)));have hvs:Vs (sepT (keyT ps (cutL (its ps) - 1)) (keyT ps (cutL (its ps)))):=sep_vs s3 (by rw [<- q2];exact (hv q q3).k2) (by rw [<- q2];exact (hv q q3).kb);have hts:Srt (ps.take (cutL (its ps))):=List.Pairwise.sublist (List.take_sublist _ _) hs;have hds:Srt (ps.drop (cutL (its ps))):=List.Pairwise.sublist (List.drop_sublist _ _) hs
   have e:settleL ps=⟨[⟨0,ps.take (cutL (its ps))⟩,⟨0,ps.drop (cutL (its ps))⟩],[sepT (keyT ps (cutL (its ps) - 1)) (keyT ps (cutL (its ps)))]⟩:=by
    unfold settleL;rw [if_neg h0,if_neg hf]
   rw [e];refine ⟨⟨fun k hk=>?_,⟨.inl rfl,?_⟩,fun s hs=>?_⟩,by simp,fun _=>⟨c1,hcl⟩⟩
   ·rcases mem_two hk with rfl | rfl
    ·refine ⟨fun e=>?_,hts,c3,fun p hp=>hv p (List.mem_of_mem_take hp)⟩
     have:=congrArg List.length e;simp only [List.length_take,List.length_nil] at this;omega
    ·refine ⟨fun e=>?_,hds,c4,fun p hp=>hv p (List.mem_of_mem_drop hp)⟩
     have:=congrArg List.length e;simp only [List.length_drop,List.length_nil] at this;omega
   ·simp only [wordT,List.map_nil,List.append_nil]
    exact pairs_word hts hds (fun p hp=>lt_trans11 (s1 p hp) hsl) (fun p hp=>le_trans10 hst (s2 p hp))
   ·rw [List.mem_singleton.1 hs]
    exact hvs
theorem sep_one {n:Nat}{r:RwT (NdT n)}(h:SepT (flatT n) r.ns r.ss)(no:Int):SepT (flatT (n+1)) [(⟨no,r⟩:BnT (NdT n))] []:=by
 refine ⟨.inl rfl,?_⟩;simp only [wordT,List.map_nil,List.append_nil];exact srt_map.1 (srt_flat h)
theorem ok_settleB {n:Nat}{r:RwT (NdT n)}(h:RokT n r)(hc:4092<bsize r.ss->2<=cutB r.ss/\cutB r.ss<r.ss.length/\bsize (r.ss.take (cutB r.ss - 1))<=4092/\bsize (r.ss.drop (cutB r.ss))<=4092) :
  RokT (n+1) (settleB r)/\(settleB r).ns.length<=2:=by
 by_cases h0:r.ns.length=0
 ·unfold settleB
  rw [if_pos h0];exact ⟨⟨fun k hk=>(List.not_mem_nil hk).elim,⟨.inr ⟨rfl,rfl⟩,by simp [wordT]⟩,fun s hs=>by simp at hs⟩,by simp⟩
 ·have hne:r.ns≠[]:=fun e=>h0 (by rw [e];rfl)
  by_cases hf:bsize r.ss<=4092
  ·unfold settleB
   rw [if_neg h0,if_pos hf];refine ⟨⟨fun k hk=>?_,sep_one h.sep 0,fun s hs=>by simp at hs⟩,by simp⟩;rw [List.mem_singleton.1 hk];exact ⟨hne,h.ok,h.sep,hf,h.vs⟩
  ·obtain ⟨c1,c2,c3,c4⟩:=hc (by omega)
   have hl:r.ns.length=r.ss.length+1:=by
    rcases h.sep.len with k | k
    ·exact k
    ·omega
   have e:settleB r=⟨[⟨0,⟨r.ns.take (cutB r.ss),r.ss.take (cutB r.ss - 1)⟩⟩,⟨0,⟨r.ns.drop (cutB r.ss),r.ss.drop (cutB r.ss)⟩⟩],[r.ss.getD (cutB r.ss - 1) []]⟩:=by
    unfold settleB;rw [if_neg h0,if_neg hf]
   rw [e];generalize cutB r.ss=c at *
   have hs:r.ss[c - 1]?=some (r.ss.getD (c - 1) []):=by
    rw [List.getElem?_eq_getElem (by omega)];simp [List.getD,List.getElem?_eq_getElem (show c - 1<r.ss.length by omega)]
   generalize r.ss.getD (c - 1) []=s at *;have es:=one_at hs;rw [show c - 1+1=c by omega] at es
   have lt:(r.ns.take c).length=(r.ss.take (c - 1)).length+1:=by
    rw [List.length_take,List.length_take];omega
   have ld:(r.ns.drop c).length=(r.ss.drop c).length+1:=by
    rw [List.length_drop,List.length_drop];omega
   have hw:=h.sep.ord
   have ew:wordT (flatT n) r.ns r.ss=wordT (flatT n) (r.ns.take c) (r.ss.take (c - 1))++.inr s::wordT (flatT n) (r.ns.drop c) (r.ss.drop c):=by
    rw [<- word_app (flatT n) _ _ _ s _ lt,List.take_append_drop]
    congr 1
   rw [ew,List.pairwise_append,List.pairwise_cons] at hw;have w1:SepT (flatT n) (r.ns.take c) (r.ss.take (c - 1)):=⟨.inl lt,hw.1⟩;have w2:SepT (flatT n) (r.ns.drop c) (r.ss.drop c):=⟨.inl ld,hw.2.1.2⟩;refine ⟨⟨fun k hk=>?_,⟨.inl rfl,?_⟩,fun t ht=>?_⟩,by simp⟩
   ·rcases mem_two hk with rfl | rfl
    ·refine ⟨fun e=>?_,fun k hk=>h.ok k (List.mem_of_mem_take hk),w1,c3,fun t ht=>h.vs t (List.mem_of_mem_take ht)⟩
     have:=congrArg List.length e;simp only [List.length_take,List.length_nil] at this;omega
    ·refine ⟨fun e=>?_,fun k hk=>h.ok k (List.mem_of_mem_drop hk),w2,c4,fun t ht=>h.vs t (List.mem_of_mem_drop ht)⟩
     have:=congrArg List.length e;simp only [List.length_drop,List.length_nil] at this;omega
   ·simp only [wordT,List.map_nil,List.append_nil,flatT]
    have:=(h.sep.ord);rw [ew] at this;refine this.sublist ?_;exact List.Sublist.append (flat_sub _ _ _) ((flat_sub _ _ _).cons_cons _)
   ·rw [List.mem_singleton.1 ht]
    exact h.vs s (List.mem_of_getElem? hs)
end Go.Proofs.YteaahinjcfjngaaGreat
namespace Go.Proofs.YteaahinjcfjngaaGreat
theorem tw_le (ss:List (List Int))(key:List Int):placeT ss key<=ss.length:=by
 unfold placeT;exact (List.takeWhile_sublist _).length_le
theorem tw_take:∀ (ss:List (List Int)) (key:List Int),∀ s∈ss.take (placeT ss key),cmpZ s key<=0
 | [],_,s,h=>by simp at h
 | x::ss,key,s,h=>by
  unfold placeT at h;rw [List.takeWhile_cons] at h
  by_cases k:cmpZ x key<=0
  ·simp only [k,decide_true,if_true,List.length_cons,List.take_succ_cons] at h
   rcases List.mem_cons.1 h with rfl | h
   ·exact k
   ·exact tw_take ss key s h
  ·simp [k] at h
theorem tw_drop:∀ (ss:List (List Int)) (key:List Int) (s:List Int),ss[placeT ss key]?=some s->cmpZ key s<0
 | [],_,s,h=>by simp at h
 | x::ss,key,s,h=>by
  unfold placeT at h;rw [List.takeWhile_cons] at h
  by_cases k:cmpZ x key<=0
  ·simp only [k,decide_true,if_true,List.length_cons,List.getElem?_cons_succ] at h
   exact tw_drop ss key s h
  ·simp only [k,decide_false,Bool.false_eq_true,if_false,List.length_nil,List.getElem?_cons_zero,Option.some.injEq] at h
   subst h;have:=cmp_anti x key;omega
theorem word_one {T:Type}{F:T->List PrT}{r:RwT T}{i:Nat}{a:T}(h1:r.ns[i]?=some a)(hi:i<=r.ss.length) :
  wordT F r.ns r.ss=wpT F (r.ns.take i) (r.ss.take i)++((F a).map .inl++wtlT F (r.ns.drop (i+1)) (r.ss.drop i)):=by
 conv=>lhs;rw [one_at h1,<- List.take_append_drop i r.ss]
 rw [word_pre F _ _ _ _ ((take_len h1).trans (by rw [List.length_take];omega)),word_cons]
theorem wp_low {T:Type}{F:T->List PrT}{key:List Int}:∀ (A:List T) (S:List (List Int)),(wpT F A S).Pairwise RkT->(∀ s∈S,cmpZ s key<=0)->∀ t∈wpT F A S,cmpZ (tkT t) key<=0/\(isS t=false->cmpZ (tkT t) key<0)
 | x::A,s::S,ho,hS,t,ht=>by
  rw [wpT] at ho ht;rw [List.pairwise_append] at ho;have hs:=hS s List.mem_cons_self;rcases List.mem_append.1 ht with h | h
  ·obtain ⟨p,hp,rfl⟩:=List.mem_map.1 h
   have:=rk_ps.1 (ho.2.2 _ h _ List.mem_cons_self);have:=lt_trans10 this hs;exact ⟨Int.le_of_lt this,fun _=>this⟩
  ·rcases List.mem_cons.1 h with rfl | h
   ·exact ⟨hs,fun e=>by simp [isS] at e⟩
   ·exact wp_low A S (List.pairwise_cons.1 ho.2.1).2 (fun z hz=>hS z (List.mem_cons_of_mem _ hz)) t h
 | [],_,_,_,t,ht=>by simp [wpT] at ht
 | _::_,[],_,_,t,ht=>by simp [wpT] at ht
theorem wtl_high {T:Type}{F:T->List PrT}{key:List Int}{B:List T}{S:List (List Int)}(ho:(wtlT F B S).Pairwise RkT)(hl:B.length=S.length)(hS:∀ s,S[0]?=some s->cmpZ key s<0):∀ t∈wtlT F B S,cmpZ key (tkT t)<0:=by
 cases S with
 | nil =>
  have:=List.length_eq_zero_iff.1 hl;subst this;intro t ht;simp [wtlT,wordT] at ht
 | cons s S =>
  have hs:=hS s rfl;rw [wtlT] at ho ⊢;intro t ht;rcases List.mem_cons.1 ht with rfl | ht
  ·exact hs
  ·have:=(List.pairwise_cons.1 ho).1 t ht
   unfold RkT at this;exact lt_trans10 hs (by simp only [tkT] at this ⊢;omega)
structure AtT {T:Type}(F:T->List PrT)(r:RwT T)(key:List Int)(k:T):Prop where
 lt:placeT r.ss key<r.ns.length
 at_:r.ns[placeT r.ss key]?=some k
 low:∀ t∈wpT F (r.ns.take (placeT r.ss key)) (r.ss.take (placeT r.ss key)),cmpZ (tkT t) key<=0/\(isS t=false->cmpZ (tkT t) key<0)
 high:∀ t∈wtlT F (r.ns.drop (placeT r.ss key+1)) (r.ss.drop (placeT r.ss key)),cmpZ key (tkT t)<0
theorem at_place {T:Type}{F:T->List PrT}{r:RwT T}(h:SepT F r.ns r.ss)(h0:r.ns≠[])(key:List Int):∃ k,AtT F r key k:=by
 have hl:r.ns.length=r.ss.length+1:=by
  rcases h.len with k | k
  ·exact k
  ·exact absurd (List.length_eq_zero_iff.1 k.1) h0
 have hp:=tw_le r.ss key;have hlt:placeT r.ss key<r.ns.length:=by omega
 have hat:r.ns[placeT r.ss key]?=some r.ns[placeT r.ss key]:=List.getElem?_eq_getElem hlt;have ho:=h.ord;rw [word_one hat hp,List.pairwise_append,List.pairwise_append] at ho;refine ⟨_,hlt,hat,wp_low _ _ ho.1 (tw_take r.ss key),wtl_high ho.2.1.2.1 (by rw [List.length_drop,List.length_drop];omega) (fun s hs=>?_)⟩;rw [List.getElem?_drop,Nat.add_zero] at hs;exact tw_drop r.ss key s hs
theorem wp_flat {T:Type}{F:T->List PrT}{p:PrT}:∀ (A:List T) (S:List (List Int)),A.length=S.length->p∈A.flatMap F->Sum.inl p∈wpT F A S
 | x::A,s::S,hl,hp=>by
  rw [List.flatMap_cons,List.mem_append] at hp;rw [wpT,List.mem_append];rcases hp with hp | hp
  ·exact .inl (List.mem_map_of_mem hp)
  ·exact .inr (List.mem_cons_of_mem _ (wp_flat A S (by simpa using hl) hp))
 | [],_,_,hp=>by simp at hp
 | _::_,[],hl,_=>by simp at hl
theorem wtl_flat {T:Type}{F:T->List PrT}{p:PrT}(B:List T)(S:List (List Int))(hp:p∈B.flatMap F):Sum.inl p∈wtlT F B S:=by
 have:=(flat_sub F B S.tail).subset (List.mem_map_of_mem (f:=Sum.inl) hp);cases S with
 | nil=>exact this
 | cons s S=>exact List.mem_cons_of_mem _ this
theorem AtT.sides {T:Type}{F:T->List PrT}{r:RwT T}{key:List Int}{k:T}(h:AtT F r key k) :
  r.ns.flatMap F=(r.ns.take (placeT r.ss key)).flatMap F++(F k++(r.ns.drop (placeT r.ss key+1)).flatMap F)/\(∀ p∈(r.ns.take (placeT r.ss key)).flatMap F,cmpZ p.key key<0)/\(∀ p∈(r.ns.drop (placeT r.ss key+1)).flatMap F,cmpZ key p.key<0):=by
 refine ⟨?_,fun p hp=>?_,fun p hp=>h.high _ (wtl_flat _ _ hp)⟩
 ·conv=>lhs;rw [one_at h.at_]
  simp
 ·refine (h.low _ (wp_flat _ _ ?_ hp)).2 rfl
  have:=tw_le r.ss key;rw [List.length_take,List.length_take];have:=h.lt;omega
theorem filter_all {L:List PrT}{q:PrT->Bool}(h:∀ p∈L,q p=true):L.filter q=L:=List.filter_eq_self.2 h
theorem filter_none {L:List PrT}{q:PrT->Bool}(h:∀ p∈L,q p=false):L.filter q=[]:=List.filter_eq_nil_iff.2 (fun p hp=>by rw [h p hp];simp)
theorem upd_mid {A M B:List PrT}{key:List Int}{now:List PrT}(hA:∀ p∈A,cmpZ p.key key<0)(hB:∀ p∈B,cmpZ key p.key<0):updT (A++(M++B)) key now=A++(updT M key now++B):=by
 have hB2:∀ p∈B,0<cmpZ p.key key:=fun p hp=>by
  have:=hB p hp;have:=cmp_anti p.key key;omega
 unfold updT;simp only [List.filter_append];rw [filter_all (L:=A) (fun p hp=>by simpa using hA p hp),filter_none (L:=B) (fun p hp=>by have:=hB2 p hp;simp;omega),filter_none (L:=A) (fun p hp=>by have:=hA p hp;simp;omega),filter_all (L:=B) (fun p hp=>by simpa using hB2 p hp)];simp
theorem flat_repl {T:Type}{F:T->List PrT}{r:RwT T}{i:Nat}{b:RwT T}:(replT r i b).ns.flatMap F=(r.ns.take i).flatMap F++(b.ns.flatMap F++(r.ns.drop (i+1)).flatMap F):=by
 unfold replT
 split <;> simp
theorem ord_mid {W1 M M' W2:List Tok}(h:(W1++(M++W2)).Pairwise RkT)(hm:M'.Pairwise RkT)(h1:∀ t∈W1,∀ u∈M',RkT t u)(h2:∀ t∈M',∀ u∈W2,RkT t u):(W1++(M'++W2)).Pairwise RkT:=by
 rw [List.pairwise_append,List.pairwise_append] at *;refine ⟨h.1,⟨hm,h.2.1.2.1,h2⟩,fun t ht u hu=>?_⟩;rcases List.mem_append.1 hu with hu | hu
 ·exact h1 t ht u hu
 ·exact h.2.2 t ht u (List.mem_append_right _ hu)
theorem rok_repl {n:Nat}{r:RwT (NdT n)}{key:List Int}{k:NdT n}{b:RwT (NdT n)}(h:RokT n r)(hk:AtT (flatT n) r key k)(hb:RokT n b)(hf:∀ p∈b.ns.flatMap (flatT n),p.key=key∨p∈flatT n k):RokT n (replT r (placeT r.ss key) b):=by
 have hpl:=tw_le r.ss key
 have hl:r.ns.length=r.ss.length+1:=by
  have:=hk.lt;rcases h.sep.len with e | e
  ·exact e
  ·omega
 have hw:=h.sep.ord;rw [word_one hk.at_ hpl] at hw;have hlow:=hk.low;have hhigh:=hk.high;have hat:=hk.at_;generalize hi:placeT r.ss key=i at *
 have hkin:∀ x∈(replT r i b).ns,OkT n x:=by
  intro x hx
  have hx2:x∈r.ns.take i∨x∈b.ns∨x∈r.ns.drop (i+1):=by
   unfold replT at hx
   split at hx <;> simpa using hx
  rcases hx2 with hx | hx | hx
  ·exact h.ok x (List.mem_of_mem_take hx)
  ·exact hb.ok x hx
  ·exact h.ok x (List.mem_of_mem_drop hx)
 have hsin:∀ s∈(replT r i b).ss,Vs s:=by
  intro s hs
  have hs2:(∃ j,s∈r.ss.take j)∨s∈b.ss∨(∃ j,s∈r.ss.drop j):=by
   unfold replT at hs
   split at hs
   ·simp only [List.mem_append] at hs
    rcases hs with hs | hs | hs
    ·exact .inl ⟨_,hs⟩
    ·exact .inr (.inl hs)
    ·exact .inr (.inr ⟨_,hs⟩)
   ·simp only [List.mem_append] at hs
    rcases hs with hs | hs | hs
    ·exact .inl ⟨_,hs⟩
    ·exact .inr (.inl hs)
    ·exact .inr (.inr ⟨_,hs⟩)
  rcases hs2 with ⟨j,hs⟩ | hs | ⟨j,hs⟩
  ·exact h.vs s (List.mem_of_mem_take hs)
  ·exact hb.vs s hs
  ·exact h.vs s (List.mem_of_mem_drop hs)
 refine ⟨hkin,?_,hsin⟩
 by_cases h0:b.ns.length=0
 ·have bs0:b.ss=[]:=by
   rcases hb.sep.len with e | e
   ·omega
   ·exact List.length_eq_zero_iff.1 e.2
  have bn0:b.ns=[]:=List.length_eq_zero_iff.1 h0
  have e:replT r i b=⟨r.ns.take i++r.ns.drop (i+1),r.ss.take (i - 1)++r.ss.drop (min (i - 1+1) r.ss.length)⟩:=by
   unfold replT;rw [if_pos h0,bs0,bn0];simp
  rw [e]
  by_cases i0:i=0
  ·subst i0
   simp only [List.take_zero,List.nil_append,Nat.zero_sub,Nat.zero_add] at *;refine ⟨?_,hw.sublist ?_⟩
   ·rw [List.length_drop,List.length_drop]
    omega
   ·refine List.Sublist.trans ?_ (List.sublist_append_right _ _)
    refine List.Sublist.trans ?_ (List.sublist_append_right _ _);rw [List.drop_zero];cases hss:r.ss with
    | nil=>simp [wtlT]
    | cons s S =>
     rw [show min 1 (s::S).length=1 by simp];rw [List.drop_succ_cons,List.drop_zero,wtlT];exact List.sublist_cons_self _ _
  ·have e1:min (i - 1+1) r.ss.length=i:=by omega
   rw [e1];refine ⟨.inl ?_,?_⟩
   ·simp only [List.length_append,List.length_take,List.length_drop]
    omega
   ·have hz:r.ns[i - 1]?=some r.ns[i - 1]:=List.getElem?_eq_getElem (by omega)
    have hs:r.ss[i - 1]?=some r.ss[i - 1]:=List.getElem?_eq_getElem (by omega)
    have en:r.ns.take i=r.ns.take (i - 1)++[r.ns[i - 1]]:=by
     have:=List.take_add_one (l:=r.ns) (i:=i - 1);rw [show i - 1+1=i by omega,hz] at this;exact this
    have es:r.ss.take i=r.ss.take (i - 1)++[r.ss[i - 1]]:=by
     have:=List.take_add_one (l:=r.ss) (i:=i - 1);rw [show i - 1+1=i by omega,hs] at this;exact this
    rw [en,es,wp_snoc _ _ _ _ _ (by rw [List.length_take,List.length_take];omega)] at hw;rw [en,List.append_assoc,word_pre _ _ _ _ _ (by rw [List.length_take,List.length_take];omega),List.cons_append,List.nil_append,word_cons];refine hw.sublist ?_;simp only [List.append_assoc];refine List.Sublist.append (List.Sublist.refl _) (List.Sublist.append (List.Sublist.refl _) ?_);refine List.Sublist.trans ?_ (List.sublist_append_right _ _);exact List.sublist_append_right _ _
 ·have bl:b.ns.length=b.ss.length+1:=by
   rcases hb.sep.len with e | e
   ·exact e
   ·omega
  have bn:b.ns≠[]:=fun e=>h0 (by rw [e];rfl)
  have e:replT r i b=⟨r.ns.take i++(b.ns++r.ns.drop (i+1)),r.ss.take i++(b.ss++r.ss.drop i)⟩:=by
   unfold replT;rw [if_neg h0]
  rw [e];refine ⟨.inl ?_,?_⟩
  ·simp only [List.length_append,List.length_take,List.length_drop]
   omega
  ·rw [word_pre _ _ _ _ _ (by rw [List.length_take,List.length_take];omega),word_mid _ _ _ _ _ bl]
   have hmid:=hw;rw [List.pairwise_append] at hmid;have hmid2:=List.pairwise_append.1 hmid.2.1
   have lowp:∀ t∈wpT (flatT n) (r.ns.take i) (r.ss.take i),∀ p,Sum.inl p∈wordT (flatT n) b.ns b.ss->RkT t (.inl p):=by
    intro t ht p hp;rcases hf p (word_pairs _ _ hp) with e | e
    ·have:=hlow t ht
     show cmpZ (tkT t) p.key<0∨(cmpZ (tkT t) p.key=0/\isS t=true/\false=false)
     rw [e]
     by_cases z:cmpZ (tkT t) key=0
     ·refine .inr ⟨z,?_,rfl⟩
      cases hS:isS t with
      | true=>rfl
      | false =>
       have:=this.2 hS;omega
     ·exact .inl (by have:=this.1;omega)
    ·exact hmid.2.2 t ht _ (List.mem_append_left _ (List.mem_map_of_mem e))
   have highp:∀ u∈wtlT (flatT n) (r.ns.drop (i+1)) (r.ss.drop i),∀ p,Sum.inl p∈wordT (flatT n) b.ns b.ss->RkT (.inl p) u:=by
    intro u hu p hp;rcases hf p (word_pairs _ _ hp) with e | e
    ·have:=hhigh u hu
     refine .inl ?_
     show cmpZ p.key (tkT u)<0
     rw [e];exact this
    ·exact hmid2.2.2 _ (List.mem_map_of_mem e) u hu
   refine ord_mid hw hb.sep.ord (fun t ht u hu=>?_) (fun t ht u hu=>?_)
   ·cases hbn:b.ns with
    | nil=>exact absurd hbn bn
    | cons x xs =>
     have hord:=hb.sep.ord;rw [hbn] at hord hu;obtain ⟨p,hp,hall⟩:=word_first (flat_ne n x (hb.ok x (by rw [hbn];exact List.mem_cons_self))) hord;have hb1:=lowp t ht p (by rw [hbn];exact hp);rcases hall u hu with rfl | k
     ·exact hb1
     ·exact rk_trans hb1 k
   ·obtain ⟨p,hp,k⟩:=word_last bl (flat_ne_all hb.ok) hb.sep.ord t ht
    have hb2:=highp u hu p hp;rcases k with rfl | k
    ·exact hb2
    ·exact rk_trans k hb2
end Go.Proofs.YteaahinjcfjngaaGreat
namespace Go.Proofs.YteaahinjcfjngaaGreat
structure NowT (key:List Int)(now:List PrT):Prop where
 one:now.length<=1
 key:∀ p∈now,p.key=key
 vp:∀ p∈now,Vp p
theorem bcut10 {A B l:List (List Int)}{s:List Int}(hs:l.Sublist (A++([s]++B)))(hk:∀ x∈l,x.length<=255)(hfit:bsize (A++B)<=4092)(hbig:4092<bsize l):2<=cutB l/\cutB l<l.length/\bsize (l.take (cutB l - 1))<=4092/\bsize (l.drop (cutB l))<=4092:=by
 obtain ⟨l1,l2,e,h1,h2⟩:=List.sublist_append_iff.1 hs;rw [List.cons_append,List.nil_append] at h2;rcases List.sublist_cons_iff.1 h2 with h2 | ⟨l3,e2,h3⟩
 ·have:=bsize_le10 (h1.append h2)
  rw [<- e] at this;omega
 ·subst e2
  exact bcut (s:=s) e rfl hk (Nat.le_trans (bsize_le10 (h1.append h3)) hfit) hbig (cutB_best l)
theorem changed_all:∀ (n:Nat) (x:NdT n) (key:List Int) (now:List PrT) (r:RwT (NdT n)),OkT n x->NowT key now->changedT n x key now=some r ->
  r.ns.flatMap (flatT n)=updT (flatT n x) key now/\RokT n r/\r.ns.length<=2
 | 0,x,key,now,r,hx,hn,hr=>by
  rw [changedT] at hr
  split at hr
  ·cases hr
  ·cases hr
   rw [upd_leaf hx.2.1,flat_settleL]
   have hc:=ok_settleL (ps:=updT (LfT.ps x) key now) (upd_srt hx.2.1 hn.key hn.one) (fun p hp=>by
    rcases upd_mem hp with h | h
    ·exact hn.vp p h
    ·exact hx.2.2.2 p h) (upd_cut hx.2.1 hx.2.2.1 hx.2.2.2 (fun p hp=>⟨hn.key p hp,hn.vp p hp⟩) hn.one)
   exact ⟨rfl,hc.1,hc.2.1⟩
 | n+1,x,key,now,r,hx,hn,hr=>by
  rw [changedT] at hr;obtain ⟨x1,x2,x3,x4,x5⟩:=hx;obtain ⟨k,hk⟩:=at_place x3 x1 key;have hat:=hk.at_;rw [hat] at hr;simp only [Option.map_eq_some_iff] at hr;obtain ⟨b,hb,rfl⟩:=hr;have hok:=x2 k (List.mem_of_getElem? hat);obtain ⟨b1,b2,b3⟩:=changed_all n k key now b hok hn hb
  have hin:∀ p∈b.ns.flatMap (flatT n),p.key=key∨p∈flatT n k:=by
   intro p hp;rw [b1] at hp;rcases upd_mem hp with h | h
   ·exact .inl (hn.key p h)
   ·exact .inr h
  have hrr:RokT n (BnT.row (T:=NdT n) x):=⟨x2,x3,x5⟩;have hq:=rok_repl hrr hk b2 hin;have hfl:=flat_repl (F:=flatT n) (r:=BnT.row (T:=NdT n) x) (i:=placeT (BnT.row (T:=NdT n) x).ss key) (b:=b);obtain ⟨s1,s2,s3⟩:=hk.sides
  have hss:(replT (BnT.row (T:=NdT n) x) (placeT (BnT.row (T:=NdT n) x).ss key) b).ss.Sublist (BnT.row (T:=NdT n) x).ss∨∃ A s B,(replT (BnT.row (T:=NdT n) x) (placeT (BnT.row (T:=NdT n) x).ss key) b).ss=A++([s]++B)/\A++B=(BnT.row (T:=NdT n) x).ss:=by
   have hsl:=b2.sep.len;unfold replT
   split
   ·rename_i h0
    have e0:b.ss=[]:=List.length_eq_zero_iff.1 (by omega);refine .inl ?_
    show (_++(b.ss++_)).Sublist _
    rw [e0,List.nil_append]
    conv=>rhs;rw [<- List.take_append_drop (placeT (BnT.row (T:=NdT n) x).ss key - 1) (BnT.row (T:=NdT n) x).ss]
    refine List.Sublist.append (List.Sublist.refl _) (List.drop_sublist_drop_left _ ?_);have:=tw_le (BnT.row (T:=NdT n) x).ss key;omega
   ·rename_i h0
    show (_++(b.ss++_)).Sublist _∨_
    match hbs:b.ss,hsl with
    | [],_ =>
     refine .inl ?_;rw [List.nil_append,List.take_append_drop];exact List.Sublist.refl _
    | [s],_=>exact .inr ⟨_,s,_,rfl,List.take_append_drop _ _⟩
    | _::_::_,h =>
     simp only [List.length_cons] at h;omega
  generalize placeT (BnT.row (T:=NdT n) x).ss key=i at *;generalize replT (BnT.row (T:=NdT n) x) i b=q at *;have ht:=ok_tidy (ok_joined n) (i+b.ns.length - (i - 1)) q (i - 1) hq;have hsub:=sub_tidy (J:=joinsT n) (D:=joinedT n) (i+b.ns.length - (i - 1)) q (i - 1);have hft:=flat_tidy (J:=joinsT n) (D:=joinedT n) (F:=flatT n) (flat_joined n) (i+b.ns.length - (i - 1)) q (i - 1);generalize tidyT (joinsT n) (joinedT n) (i+b.ns.length - (i - 1)) q (i - 1)=t at *
  have hs:=ok_settleB ht (fun hbig=>by
   rcases hss with h | ⟨A,s,B,e1,e2⟩
   ·have:=bsize_le10 (hsub.trans h)
    omega
   ·exact bcut10 (by rw [e1] at hsub;exact hsub) (fun y hy=>(ht.vs y hy).k2) (by rw [e2];exact x4) hbig)
  refine ⟨?_,hs⟩;rw [flat_settleB,hft,hfl,flatT,s1,upd_mid s2 s3,b1]
def flatO:Option TrT->List PrT
 | none=>[]
 | some t=>flatT t.lv t.root
def OkO:Option TrT->Prop
 | none=>True
 | some t=>OkT t.lv t.root
theorem empty_ok {key:List Int}{now:List PrT}(hn:NowT key now){r:RwT (NdT 0)}(hr:changedT 0 (⟨0,[]⟩:LfT) key now=some r):r.ns.flatMap (flatT 0)=updT [] key now/\RokT 0 r/\r.ns.length<=2:=by
 rw [changedT] at hr
 split at hr
 ·cases hr
 ·cases hr
  have hs:Srt ([]:List PrT):=List.Pairwise.nil;rw [flat_settleL]
  show _=_/\_
  have e:=upd_leaf (key:=key) (now:=now) hs;rw [e];have hf:size (its ([]:List PrT))<=4092:=by decide
  have hc:=ok_settleL (ps:=updT [] key now) (upd_srt hs hn.key hn.one) (fun p hp=>by
   rcases upd_mem hp with h | h
   ·exact hn.vp p h
   ·simp at h) (upd_cut hs hf (fun p hp=>by simp at hp) (fun p hp=>⟨hn.key p hp,hn.vp p hp⟩) hn.one)
  exact ⟨rfl,hc.1,hc.2.1⟩
end Go.Proofs.YteaahinjcfjngaaGreat
namespace Go.Proofs.YteaahinjcfjngaaGreat
structure NoT where
 no:Int
 lv:Nat
 ps:List PrT
 ss:List (List Int)
 ks:List Nat
def tellL {T:Type}(f:Nat->T->List NoT):Nat->List T->List NoT
 | _,[]=>[]
 | k,y::ys=>f k y++tellL f (k+(f k y).length) ys
def placesL {T:Type}(f:Nat->T->List NoT):Nat->List T->List Nat
 | _,[]=>[]
 | k,y::ys=>(k+(f k y).length - 1)::placesL f (k+(f k y).length) ys
def tellT:(n:Nat)->Nat->NdT n->List NoT
 | 0,_,x=>[⟨LfT.no x,0,LfT.ps x,[],[]⟩]
 | n+1,k,x=>tellL (tellT n) k (BnT.row (T:=NdT n) x).ns++[⟨BnT.no (T:=NdT n) x,n+1,[],(BnT.row (T:=NdT n) x).ss,placesL (tellT n) k (BnT.row (T:=NdT n) x).ns⟩]
theorem tellL_snoc {T:Type}(f:Nat->T->List NoT):∀ (L:List T) (k:Nat) (x:T),tellL f k (L++[x])=tellL f k L++f (k+(tellL f k L).length) x
 | [],k,x=>by simp [tellL]
 | y::L,k,x=>by
  rw [List.cons_append,tellL,tellL,tellL_snoc f L,List.append_assoc,List.length_append,Nat.add_assoc]
theorem placesL_snoc {T:Type}(f:Nat->T->List NoT):∀ (L:List T) (k:Nat) (x:T),placesL f k (L++[x])=placesL f k L++[k+(tellL f k (L++[x])).length - 1]
 | [],k,x=>by simp [tellL,placesL]
 | y::L,k,x=>by
  rw [List.cons_append,placesL,placesL,placesL_snoc f L,tellL,List.length_append,<- Nat.add_assoc]
  rfl
theorem takeS {T:Type}{L:List T}{i:Nat}{x:T}(h:L[i]?=some x):L.take (i+1)=L.take i++[x]:=by
 rw [List.take_add_one,h]
 rfl
theorem placesL_len {T:Type}(f:Nat->T->List NoT):∀ (L:List T) (k:Nat),(placesL f k L).length=L.length
 | [],_=>rfl
 | y::L,k=>by rw [placesL,List.length_cons,placesL_len f L,List.length_cons]
def sumT {T:Type}(f:T->Nat):List T->Nat
 | []=>0
 | y::ys=>f y+sumT f ys
def sizeT:(n:Nat)->NdT n->Nat
 | 0,_=>1
 | n+1,x=>sumT (sizeT n) (BnT.row (T:=NdT n) x).ns+1
theorem tellL_len {T:Type}{f:Nat->T->List NoT}{g:T->Nat}(h:∀ k x,(f k x).length=g x):∀ (L:List T) (k:Nat),(tellL f k L).length=sumT g L
 | [],_=>rfl
 | y::L,k=>by rw [tellL,List.length_append,h,tellL_len h L,sumT]
theorem tell_len:∀ (n k:Nat) (x:NdT n),(tellT n k x).length=sizeT n x
 | 0,_,_=>rfl
 | n+1,k,x=>by
  rw [tellT,List.length_append,tellL_len (fun k x=>tell_len n k x),sizeT]
  rfl
theorem sumT_take {T:Type}(g:T->Nat){L:List T}:∀ (i:Nat),sumT g (L.take i)<=sumT g L:=by
 induction L with
 | nil=>intro i;simp
 | cons y L ih =>
  intro i;cases i with
  | zero=>simp [sumT]
  | succ i =>
   rw [List.take_succ_cons,sumT,sumT];have:=ih i;omega
def tellO:Option TrT->List NoT
 | none=>[]
 | some ⟨n,x⟩=>tellT n 0 x
end Go.Proofs.YteaahinjcfjngaaGreat
namespace Go.Proofs.YteaahinjcfjngaaGreat
def cst (L:List It):Nat:=(headB L).length+2*L.length
def laid (L:List It)(i:Nat):List Int :=
 headB L++(slots (pre L) (cst L) (L.take i)++(List.replicate (2*(L.length - i)) 0++(cells (pre L) (L.take i)++List.replicate (4092 - (cst L+(cells (pre L) (L.take i)).length)) 0)))
end Go.Proofs.YteaahinjcfjngaaGreat
namespace Go.Proofs.YteaahinjcfjngaaGreat
def NjR (n:Nat)(r:RwT (NdT n)):Prop:=∀ (i:Nat) (a:NdT n) (s:List Int) (b:NdT n),r.ns[i]?=some a->r.ss[i]?=some s->r.ns[i+1]?=some b->joinsT n a s b=false
def NjT:(n:Nat)->NdT n->Prop
 | 0,_=>True
 | n+1,x=>NjR n (BnT.row (T:=NdT n) x)/\∀ k∈(BnT.row (T:=NdT n) x).ns,NjT n k
def NjO:Option TrT->Prop
 | none=>True
 | some t=>NjT t.lv t.root
end Go.Proofs.YteaahinjcfjngaaGreat
namespace Go.Proofs.YteaahinjcfjngaaGreat
theorem sumT_app {T:Type}(g:T->Nat):∀ (A B:List T),sumT g (A++B)=sumT g A+sumT g B
 | [],B=>by simp [sumT]
 | x::A,B=>by
  rw [List.cons_append,sumT,sumT,sumT_app g A B];omega
def RkO:Option TrT->Prop
 | some ⟨n+1,x⟩=>2<=(BnT.row (T:=NdT n) x).ns.length
 | _=>True
end Go.Proofs.YteaahinjcfjngaaGreat
namespace Go.Proofs.YteaahinjcfjngaaGreat
def firstK (L:List PrT):List Int:=(L.headD pr0).key
def lastK (L:List PrT):List Int:=(L.getLastD pr0).key
theorem last_ge:∀ {L:List PrT},Srt L->∀ p∈L,cmpZ p.key (lastK L)<=0
 | [],_,p,hp=>by simp at hp
 | [x],_,p,hp=>by
  have:p=x:=by simpa using hp
  subst this
  show cmpZ p.key p.key<=0
  rw [cmp_self];omega
 | x::y::L,h,p,hp=>by
  have h1:=List.pairwise_cons.1 h;have ih:=last_ge h1.2;have e:lastK (x::y::L)=lastK (y::L):=by simp [lastK,List.getLastD]
  rw [e];rcases List.mem_cons.1 hp with rfl | hp
  ·have h2:=h1.1 y (by simp)
   have h3:=ih y (by simp);exact Int.le_of_lt (lt_trans10 h2 h3)
  ·exact ih p hp
theorem first_le:∀ {L:List PrT},Srt L->∀ p∈L,cmpZ (firstK L) p.key<=0
 | [],_,p,hp=>by simp at hp
 | x::L,h,p,hp=>by
  have h1:=List.pairwise_cons.1 h
  show cmpZ x.key p.key<=0
  rcases List.mem_cons.1 hp with rfl | hp
  ·rw [cmp_self];omega
  ·exact Int.le_of_lt (h1.1 p hp)
theorem sep_onB {T:Type}{F:T->List PrT}{x:T}(h:Srt (F x)):SepT F [x] []:=⟨.inl rfl,by
 show ((F x).map Sum.inl++wordT F [] []).Pairwise RkT
 rw [show wordT F [] []=[] from rfl,List.append_nil];exact srt_map.1 h⟩
theorem lastK_app {A B:List PrT}(h:B≠[]):lastK (A++B)=lastK B:=by
 unfold lastK;rw [List.getLastD_eq_getLast?,List.getLastD_eq_getLast?,List.getLast?_append];cases e:B.getLast? with
 | none=>exact absurd (List.getLast?_eq_none_iff.1 e) h
 | some x=>rfl
theorem sep_ends {n:Nat}:∀ (k:Nat) (ns:List (NdT n)) (ss:List (List Int)),ns.length=k+1->ss.length=k->(∀ x∈ns,OkT n x)->(∀ i x s y,ns[i]?=some x->ss[i]?=some s->ns[i+1]?=some y->cmpZ (lastK (flatT n x)) s<0/\cmpZ s (firstK (flatT n y))<=0)->SepT (flatT n) ns ss
 | 0,ns,ss,h1,h2,h3,_=>by
  match ns,ss,h1,h2,h3 with
  | [x],[],_,_,h3=>exact sep_onB (flat_srt n x (h3 x (by simp)))
 | k+1,ns,ss,h1,h2,h3,h4=>by
  obtain ⟨xs,y,rfl⟩:∃ xs y,ns=xs++[y]:=⟨ns.dropLast,ns.getLast (by intro e;rw [e] at h1;simp at h1),(List.dropLast_concat_getLast _).symm⟩;obtain ⟨ts,s,rfl⟩:∃ ts s,ss=ts++[s]:=⟨ss.dropLast,ss.getLast (by intro e;rw [e] at h2;simp at h2),(List.dropLast_concat_getLast _).symm⟩;have l1:xs.length=k+1:=by simpa using h1
  have l2:ts.length=k:=by simpa using h2
  have ih:=sep_ends k xs ts l1 l2 (fun x hx=>h3 x (List.mem_append_left _ hx)) (fun i x t z e1 e2 e3=>by
   have b1:=(List.getElem?_eq_some_iff.1 e1).1;have b2:=(List.getElem?_eq_some_iff.1 e2).1;have b3:=(List.getElem?_eq_some_iff.1 e3).1;exact h4 i x t z (by rw [List.getElem?_append_left b1];exact e1) (by rw [List.getElem?_append_left b2];exact e2) (by rw [List.getElem?_append_left b3];exact e3))
  have hy:=h3 y (by simp);obtain ⟨x,hx⟩:∃ x,xs[k]?=some x:=⟨_,List.getElem?_eq_getElem (by omega)⟩;have hm:=h4 k x s y (by rw [List.getElem?_append_left (by omega)];exact hx) (by rw [List.getElem?_append_right (by omega),l2,Nat.sub_self];rfl) (by rw [List.getElem?_append_right (by omega),l1,Nat.sub_self];rfl);have hs:SepT (flatT n) [y] []:=sep_onB (flat_srt n y hy);have hne:flatT n x≠[]:=flat_ne n x (h3 x (List.mem_append_left _ (List.mem_of_getElem? hx)))
  have e1:xs=xs.take k++[x]:=by
   have:=one_at hx;rw [List.drop_of_length_le (by omega)] at this;exact this
  have hsr:=srt_flat ih
  have hl:lastK (xs.flatMap (flatT n))=lastK (flatT n x):=by
   rw [e1,List.flatMap_append];simp only [List.flatMap_cons,List.flatMap_nil,List.append_nil];exact lastK_app hne
  have:=sep_concat ih hs (fun e=>by rw [e] at l1;simp at l1) (by simp) (fun z hz=>flat_ne n z (h3 z (List.mem_append_left _ hz))) (fun z hz=>flat_ne n z (h3 z (List.mem_append_right _ hz)))
   (fun p hp=>lt_trans11 (by rw [<- hl];exact last_ge hsr p hp) hm.1)
   (fun p hp=>by
    simp only [List.flatMap_cons,List.flatMap_nil,List.append_nil] at hp;exact le_trans10 hm.2 (first_le (flat_srt n y hy) p hp))
  simpa using this
def tellP (k:Nat)(L:List TrT):List NoT:=tellL (fun k t=>tellT t.lv k t.root) k L
def atP (k:Nat)(L:List TrT):List Nat:=placesL (fun k t=>tellT t.lv k t.root) k L
theorem tellL_app {T:Type}(f:Nat->T->List NoT):∀ (A B:List T) (k:Nat),tellL f k (A++B)=tellL f k A++tellL f (k+(tellL f k A).length) B
 | [],B,k=>by simp [tellL]
 | y::A,B,k=>by
  rw [List.cons_append,tellL,tellL,tellL_app f A B,List.append_assoc,List.length_append,Nat.add_assoc]
theorem placesL_app {T:Type}(f:Nat->T->List NoT):∀ (A B:List T) (k:Nat),placesL f k (A++B)=placesL f k A++placesL f (k+(tellL f k A).length) B
 | [],B,k=>by simp [tellL,placesL]
 | y::A,B,k=>by
  rw [List.cons_append,placesL,placesL,placesL_app f A B,List.cons_append,tellL,List.length_append,Nat.add_assoc]
def upN (n:Nat)(ns:List (NdT n)):List TrT:=ns.map fun x=>⟨n,x⟩
theorem tell_upN (n:Nat):∀ (ns:List (NdT n)) (k:Nat),tellP k (upN n ns)=tellL (tellT n) k ns
 | [],_=>rfl
 | x::ns,k=>by
  have ih:=tell_upN n ns (k+(tellT n k x).length);unfold tellP upN at *;rw [List.map_cons,tellL,tellL,ih]
theorem at_upN (n:Nat):∀ (ns:List (NdT n)) (k:Nat),atP k (upN n ns)=placesL (tellT n) k ns
 | [],_=>rfl
 | x::ns,k=>by
  have ih:=at_upN n ns (k+(tellT n k x).length);unfold atP upN at *;rw [List.map_cons,placesL,placesL,ih]
theorem tell_leaf (L:List TrT)(x:LfT):tellP 0 (L++[⟨0,x⟩])=tellP 0 L++[⟨x.no,0,x.ps,[],[]⟩]/\atP 0 (L++[⟨0,x⟩])=atP 0 L++[(tellP 0 L).length]:=by
 unfold tellP atP;rw [tellL_app,placesL_app];refine ⟨rfl,?_⟩
 congr 1
 simp [placesL,tellT]
theorem tell_branch (L:List TrT)(n:Nat)(no:Int)(ns:List (NdT n))(ss:List (List Int)):tellP 0 (L++[⟨n+1,(⟨no,⟨ns,ss⟩⟩:BnT (NdT n))⟩])=tellP 0 (L++upN n ns)++[⟨no,n+1,[],ss,atP (tellP 0 L).length (upN n ns)⟩]/\atP 0 (L++[⟨n+1,(⟨no,⟨ns,ss⟩⟩:BnT (NdT n))⟩])=atP 0 L++[(tellP 0 (L++upN n ns)).length]:=by
 have e1:tellP 0 (L++upN n ns)=tellP 0 L++tellL (tellT n) (tellP 0 L).length ns:=by
  show tellL _ 0 (L++upN n ns)=_
  rw [tellL_app,Nat.zero_add];exact congrArg _ (tell_upN n ns _)
 rw [e1,at_upN];refine ⟨?_,?_⟩
 ·show tellL _ 0 (L++[_])=_
  rw [tellL_app,Nat.zero_add,List.append_assoc]
  congr 1
  simp [tellL,tellT];exact ⟨rfl,rfl⟩
 ·show placesL _ 0 (L++[_])=_
  rw [placesL_app,Nat.zero_add]
  congr 1
  simp only [placesL,tellT,List.length_append,List.length_cons,List.length_nil,List.cons.injEq,and_true]
  show (tellP 0 L).length+((tellL (tellT n) (tellP 0 L).length ns).length+1) - 1=_
  omega
end Go.Proofs.YteaahinjcfjngaaGreat
