import Derived.Test.YteaahinjcfjngaaGreatQ3
import Derived.Test.YteaahinjcfjngaaGreatQ1
namespace Go.Proofs.YteaahinjcfjngaaGreat
structure It where
 key:List Int
 val:List Int
 size:Int
 first:Int
def it0:It:=⟨[],[],0,0⟩
def pre:List It->Nat
 | []=>0
 | x::L=>comAll x.key x.key.length (L.map It.key)
def lg (s:Int):Nat:=if s<0 then 0 else if 262144<s then 262144 else s.toNat
def tg (s:Int):Nat:=if 512<lg s then 2*lg s+1 else 2*lg s
def tl (s:Int):Nat:=if 512<lg s then 4 else lg s
def vl (n:Nat):Nat:=(vform n).length
def cl (p:Nat)(x:It):Nat:=vl (x.key.length - p)+(x.key.length - p)+vl (tg x.size)+tl x.size
def sums (p:Nat):List It->Nat
 | []=>0
 | x::L=>2+cl p x+sums p L
def size (L:List It):Nat:=3+vl (pre L)+pre L+sums (pre L) L
def ws (x:It):Bool:=!(decide (1<=x.key.length) && decide (x.key.length<=255)) || decide (x.size<0) || decide (262144<x.size)
def wv (x:It):Bool:=if 512<x.size then decide (x.val.length≠0) || decide (x.first<2) || decide (524287<=x.first) else decide ((x.val.length:Int)≠x.size) || decide (x.first≠0)
def ups (L:List It):Bool:=(List.range (L.length - 1)).all fun i=>decide (cmpZ (L.getD i it0).key (L.getD (i+1) it0).key<0)
def wrong (L:List It):Int:=if L.length=0 then 40 else if L.any ws then 41 else if L.any wv then 40 else if ups L then 0 else 30
def cb (p:Nat)(x:It):List Int:=vform (x.key.length - p)++(x.key.drop p++(vform (tg x.size)++(if 512<x.size then lb 4 x.first.toNat else x.val)))
def slots (p a:Nat):List It->List Int
 | []=>[]
 | x::L=>lb 2 a++slots p (a+(cb p x).length) L
def cells (p:Nat):List It->List Int
 | []=>[]
 | x::L=>cb p x++cells p L
def headB (L:List It):List Int:=lb 1 1++(lb 2 L.length++(vform (pre L)++(L.headD it0).key.take (pre L)))
def used (L:List It):List Int:=headB L++(slots (pre L) ((headB L).length+2*L.length) L++cells (pre L) L)
def body (L:List It):List Int:=used L++List.replicate (4092 - (used L).length) 0
theorem com_prefix:∀ (a b:List Int) (n:Nat),n<=com a b->a.take n=b.take n
 | _,_,0,_=>by simp
 | [],b,n+1,h=>by rw [com_nil] at h;omega
 | a::as,[],n+1,h=>by rw [com_nil2] at h;omega
 | a::as,b::bs,n+1,h=>by
  rw [com_cons] at h
  by_cases e:a=b
  ·rw [if_pos e] at h
   rw [List.take_succ_cons,List.take_succ_cons,e,com_prefix as bs n (by omega)]
  ·rw [if_neg e] at h;omega
theorem comAll_each (f:List Int):∀ (l:List (List Int)) (n:Nat),∀ s∈l,comAll f n l<=com f s
 | [],_,s,h=>by cases h
 | t::l,n,s,h=>by
  rw [comAll_cons];rcases List.mem_cons.1 h with rfl | h
  ·exact Nat.le_trans (comAll_le f l _) (Nat.min_le_right _ _)
  ·exact comAll_each f l _ s h
theorem comAll_max (f:List Int):∀ (l:List (List Int)) (n m:Nat),m<=n->(∀ s∈l,m<=com f s)->m<=comAll f n l
 | [],_,_,h,_=>h
 | t::l,n,m,h,k=>by
  rw [comAll_cons];exact comAll_max f l _ m (by have:=k t List.mem_cons_self;omega) (fun s hs=>k s (List.mem_cons_of_mem _ hs))
theorem com_of_take:∀ (a b:List Int) (n:Nat),n<=a.length->n<=b.length->a.take n=b.take n->n<=com a b
 | _,_,0,_,_,_=>Nat.zero_le _
 | [],_,n+1,h,_,_=>by simp at h
 | _::_,[],n+1,_,h,_=>by simp at h
 | a::as,b::bs,n+1,h1,h2,h=>by
  rw [List.take_succ_cons,List.take_succ_cons] at h;injection h with e1 e2
  rw [com_cons,if_pos e1];have:=com_of_take as bs n (by simpa using h1) (by simpa using h2) e2;omega
theorem pre_each {L:List It}:∀ x∈L,pre L<=x.key.length/\x.key.take (pre L)=(L.headD it0).key.take (pre L):=by
 cases L with
 | nil=>intro x h;cases h
 | cons y L =>
  intro x h;have hp:pre (y::L)=comAll y.key y.key.length (L.map It.key):=rfl;rcases List.mem_cons.1 h with rfl | h
  ·exact ⟨by rw [hp];exact comAll_le _ _ _,rfl⟩
  ·have h1:pre (y::L)<=com y.key x.key:=by rw [hp];exact comAll_each _ _ _ _ (List.mem_map_of_mem h)
   exact ⟨Nat.le_trans h1 (com_le2 _ _),(com_prefix _ _ _ h1).symm⟩
theorem pre_mono {L M:List It}(h:∀ x∈M,x∈L)(hM:M≠[]):pre L<=pre M:=by
 cases M with
 | nil=>exact absurd rfl hM
 | cons y M =>
  show pre L<=comAll y.key y.key.length (M.map It.key)
  have hy:=pre_each y (h y List.mem_cons_self);refine comAll_max _ _ _ _ hy.1 fun s hs=>?_
  obtain ⟨x,hx,rfl⟩:=List.mem_map.1 hs;have hx:=pre_each x (h x (List.mem_cons_of_mem _ hx));exact com_of_take _ _ _ hy.1 hx.1 (hy.2.trans hx.2.symm)
theorem vl_le (n:Nat):vl n<=10:=vform_le n
theorem vl_pos (n:Nat):1<=vl n:=lf_pos 10 n (by omega)
theorem vl_small {n:Nat}(h:n<128):vl n=1:=by
 unfold vl vform;rw [lf,if_pos h];rfl
theorem vl_two {n:Nat}(h:128<=n)(h2:n<16384):vl n=2:=by
 unfold vl vform;rw [lf,if_neg (by omega),lf,if_pos (by omega)];rfl
theorem lg_le (s:Int):lg s<=262144:=by 
 unfold lg
 split
 ·omega
 ·split <;> omega
theorem tl_le (s:Int):tl s<=512:=by unfold tl;split <;> omega
theorem tg_lt (s:Int):tg s<1048576:=by
 have:=lg_le s;unfold tg;split <;> omega
theorem cl_le (p:Nat)(x:It):cl p x<=x.key.length+532:=by
 have h1:=vl_le (x.key.length - p);have h2:=vl_le (tg x.size);have h3:=tl_le x.size;unfold cl;omega
theorem sums_le (p K:Nat):∀ L:List It,(∀ x∈L,x.key.length<=K)->sums p L<=L.length*(K+534)
 | [],_=>by simp [sums]
 | x::L,h=>by
  have h1:=cl_le p x;have h2:=h x List.mem_cons_self;have h3:=sums_le p K L (fun y hy=>h y (List.mem_cons_of_mem _ hy));rw [sums,List.length_cons,Nat.add_mul];omega
theorem sums_snoc (p:Nat):∀ (L:List It) (i:Nat),i<L.length->sums p (L.take (i+1))=sums p (L.take i)+(2+cl p (L.getD i it0))
 | x::L,0,_=>by simp [sums]
 | x::L,i+1,h=>by
  have:=sums_snoc p L i (by simpa using h);simp only [List.take_succ_cons,sums,List.getD_cons_succ];omega
theorem vl_mono {a b:Nat}(h:a<=b)(hb:b<16384):vl a<=vl b/\vl b<=vl a+1:=by
 by_cases h1:b<128
 ·rw [vl_small h1,vl_small (by omega)];omega
 ·rw [vl_two (by omega) hb]
  by_cases h2:a<128
  ·rw [vl_small h2];omega
  ·rw [vl_two (by omega) (by omega)];omega
theorem cl_pos (p:Nat)(x:It):2<=cl p x:=by
 have:=vl_pos (x.key.length - p);have:=vl_pos (tg x.size);unfold cl;omega
end Go.Proofs.YteaahinjcfjngaaGreat
namespace Go.Proofs.YteaahinjcfjngaaGreat
def i64 (x:Nat):Int:=if x<9223372036854775808 then (x:Int) else (x:Int) - 18446744073709551616
end Go.Proofs.YteaahinjcfjngaaGreat
