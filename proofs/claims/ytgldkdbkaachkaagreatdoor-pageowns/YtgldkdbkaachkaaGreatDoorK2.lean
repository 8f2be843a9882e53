import Derived.Lib.BitFns
import Derived.Lib.ItoaNum
import Derived.Laws.BitsAllLaws
namespace Go.Proofs.YtgldkdbkaachkaaGreatDoor
def lf:Nat->Nat->List Int
 | 0,_=>[]
 | f+1,x=>if x<128 then [(x:Int)] else ((x % 128+128:Nat):Int)::lf f (x / 128)
def ah (x:Nat):List Int:=lf 10 x
theorem cP (f x:Nat)(h:x<128):lf (f+1) x=[(x:Int)]:=by rw [lf,if_pos h]
theorem iB (f x:Nat)(h:¬ x<128):lf (f+1) x=((x % 128+128:Nat):Int)::lf f (x / 128):=by rw [lf,if_neg h]
theorem LW:∀ (f k x:Nat),1<=k->k<=f->x<128 ^ k->(2<=k->128 ^ (k - 1)<=x)->(lf f x).length=k
 | 0,k,x,h1,h2,_,_=>by omega
 | f+1,k,x,h1,h2,h3,h4=>by
  by_cases hx:x<128
  ·rw [cP f x hx]
   by_cases hk:2<=k
   ·have:=h4 hk
    have h5:128 ^ 1<=128 ^ (k - 1):=Nat.pow_le_pow_right (by omega) (by omega);omega
   ·simp;omega
  ·rw [iB f x hx,List.length_cons]
   have hk:2<=k:=by
    rcases Nat.lt_or_ge k 2 with h | h
    ·have:k=1:=by omega
     subst this;omega
    ·exact h
   obtain ⟨j,rfl⟩:∃ j,k=j+1:=⟨k - 1,by omega⟩;rw [LW f j (x / 128) (by omega) (by omega) ?_ ?_]
   ·rw [Nat.pow_succ] at h3;omega
   ·intro hj
    have:=h4 hk;rw [Nat.add_sub_cancel,show j=(j - 1)+1 by omega,Nat.pow_succ] at this;omega
theorem YN (k:Nat):128 ^ k=2 ^ (7*k):=by rw [Nat.pow_mul]
theorem Dv (x:Nat):x ||| 1=x/\x % 2=1∨x ||| 1=x+1/\x % 2=0:=by
 rcases Nat.mod_two_eq_zero_or_one x with h | h
 ·right;refine ⟨?_,h⟩
  exact nat_join 1 x 1 (by simpa using h) (by omega)
 ·left;refine ⟨?_,h⟩
  have e:x=(x - 1) ||| 1:=by rw [nat_join 1 (x - 1) 1 (by simp;omega) (by omega)];omega
  rw [e,Nat.or_assoc,Nat.or_self]
theorem xQ (x:Nat)(hx:x<18446744073709551616):(Lib.bitLen (x ||| 1)+6) / 7=(ah x).length/\Lib.bitLen (x ||| 1)<=64:=by
 have h64:x ||| 1<2 ^ 64:=Nat.or_lt_two_pow (by omega) (by omega)
 have hle:Lib.bitLen (x ||| 1)<=64:=Lib.bitLen_le _ 64 (Nat.le_refl _) h64;have hne:x ||| 1≠0:=by rcases Dv x with h | h <;> omega
 obtain ⟨a,b,c⟩:=Lib.bitLenAux_bounds 64 (x ||| 1) h64 hne;unfold Lib.bitLen at *;generalize Lib.bitLenAux 64 (x ||| 1)=L at *;refine ⟨?_,hle⟩
 symm
 unfold ah;refine LW 10 ((L+6) / 7) x (by omega) (by omega) ?_ ?_
 ·rw [YN]
  have:2 ^ L<=2 ^ (7*((L+6) / 7)):=Nat.pow_le_pow_right (by omega) (by omega);rcases Dv x with h | h <;> omega
 ·intro hk
  rw [YN];have h1:2 ^ (7*((L+6) / 7 - 1))<=2 ^ (L - 1):=Nat.pow_le_pow_right (by omega) (by omega)
  have h2:2 ^ (7*((L+6) / 7 - 1)) % 2=0:=by
   rw [show 7*((L+6) / 7 - 1)=(7*((L+6) / 7 - 1) - 1)+1 by omega,Nat.pow_succ];omega
  rcases Dv x with h | h <;> omega
theorem Dw:∀ (f x:Nat),1<=f->1<=(lf f x).length
 | f+1,x,_=>by
  by_cases hx:x<128
  ·rw [cP f x hx];simp
  ·rw [iB f x hx];simp
theorem TU:∀ (f x:Nat),(lf f x).length<=f
 | 0,x=>by simp [lf]
 | f+1,x=>by
  by_cases hx:x<128
  ·rw [cP f x hx];simp
  ·rw [iB f x hx];have:=TU f (x / 128);simp;omega
theorem TV:∀ (f x:Nat),∀ z∈lf f x,0<=z/\z<=255
 | 0,x=>by intro z h;simp [lf] at h
 | f+1,x=>by
  intro z h
  by_cases hx:x<128
  ·rw [cP f x hx] at h;simp at h;omega
  ·rw [iB f x hx] at h
   rcases List.mem_cons.1 h with rfl | h
   ·omega
   ·exact TV f (x / 128) z h
theorem wO (x:Nat):1<=(ah x).length:=Dw 10 x (by omega)
theorem jS (x:Nat):(ah x).length<=10:=TU 10 x
theorem VB (b:Nat)(h:b<256):b ||| 128=b % 128+128:=by
 have:∀ i:Fin 256,i.val ||| 128=i.val % 128+128:=by decide +kernel
 exact this ⟨b,h⟩
def lb:Nat->Nat->List Int
 | 0,_=>[]
 | k+1,x=>((x % 256:Nat):Int)::lb k (x / 256)
theorem aL:∀ (k x:Nat),(lb k x).length=k
 | 0,_=>rfl
 | k+1,x=>by simp [lb,aL k]
theorem ia:∀ (k x:Nat),lb (k+1) x=lb k x++[((x / 256 ^ k % 256:Nat):Int)]
 | 0,x=>by simp [lb]
 | k+1,x=>by
  rw [lb,ia k (x / 256),lb,List.cons_append,Nat.div_div_eq_div_mul,Nat.pow_succ,Nat.mul_comm 256]
theorem jC:∀ (k x:Nat),∀ z∈lb k x,0<=z/\z<=255
 | 0,x=>by intro z h;simp [lb] at h
 | k+1,x=>by
  intro z h;rcases List.mem_cons.1 h with rfl | h
  ·omega
  ·exact jC k _ z h
def le:Nat->List Int->Nat
 | 0,_=>0
 | _+1,[]=>0
 | k+1,z::zs=>z.toNat+256*le k zs
theorem dQ:∀ (k:Nat) (zs:List Int),(∀ z∈zs,0<=z/\z<=255)->le k zs<256 ^ k
 | 0,_,_=>by simp [le]
 | k+1,[],_=>by simp [le];exact Nat.pos_of_ne_zero (by simp)
 | k+1,z::zs,h=>by
  have:=dQ k zs (fun y hy=>h y (List.mem_cons_of_mem _ hy));have hz:=h z List.mem_cons_self;rw [le,Nat.pow_succ];omega
theorem jD:∀ (k x:Nat) (t:List Int),le k (lb k x++t)=x % 256 ^ k
 | 0,x,t=>by simp [le,Nat.mod_one]
 | k+1,x,t=>by
  rw [lb,List.cons_append,le,jD k,Nat.pow_succ,Nat.mul_comm (256 ^ k),Nat.mod_mul,Int.toNat_natCast]
theorem Gh:∀ (k:Nat) (zs:List Int),k<zs.length->le (k+1) zs=le k zs+(zs.getD k 0).toNat*256 ^ k
 | 0,z::zs,_=>by simp [le]
 | k+1,z::zs,h=>by
  have:=Gh k zs (by simpa using h);rw [le,this,le,Nat.pow_succ];simp only [List.getD_cons_succ];rw [Nat.mul_add,Nat.add_assoc,Nat.mul_left_comm,Nat.mul_comm (256 ^ k) 256]
def jJ (a i:Nat)(z:Int):Nat × Nat × Int :=
 if i=9/\1<z then (0,0,12) else if 0<i/\z=0 then (0,0,11) else (a+z.toNat*128 ^ i,i+1,0)
def scan:Nat->Nat->Nat->List Int->Nat × Nat × Int
 | 0,_,_,_=>(0,0,12)
 | _+1,_,_,[]=>(0,0,10)
 | f+1,i,a,z::zs=>if z<128 then jJ a i z else scan f (i+1) (a+(z - 128).toNat*128 ^ i) zs
def rv (zs:List Int):Nat × Nat × Int:=scan 10 0 0 zs
theorem Gi:∀ (f i a y:Nat) (t:List Int),1<=f->f+i=10->y<2*128 ^ (f - 1)->(0<i->1<=y)->scan f i a (lf f y++t)=(a+y*128 ^ i,i+(lf f y).length,0)
 | f+1,i,a,y,t,_,h2,h3,h4=>by
  by_cases hy:y<128
  ·rw [cP f y hy,List.singleton_append,scan,if_pos (by omega),jJ,if_neg,if_neg]
   ·simp
   ·intro h;have:=h4 h.1;omega
   ·intro h
    have:f=0:=by omega
    subst this;simp at h3;omega
  ·rw [iB f y hy,List.cons_append,scan,if_neg (by omega)]
   have hf:1<=f:=by
    rcases Nat.eq_zero_or_pos f with h | h
    ·subst h;simp at h3;omega
    ·exact h
   rw [Gi f (i+1) _ (y / 128) t hf (by omega) ?_ (by intro;omega)]
   ·rw [List.length_cons,show ((y % 128+128:Nat):Int) - 128=((y % 128:Nat):Int) by omega,Int.toNat_natCast,Nat.pow_succ]
    have e:a+y % 128*128 ^ i+y / 128*(128 ^ i*128)=a+y*128 ^ i:=by
     have:y*128 ^ i=(y % 128+128*(y / 128))*128 ^ i:=by rw [Nat.mod_add_div]
     rw [this,Nat.add_mul,Nat.mul_assoc 128,Nat.mul_comm 128,Nat.mul_assoc,Nat.add_assoc]
    rw [e,Nat.add_assoc,Nat.add_comm 1]
   ·rw [Nat.add_sub_cancel] at h3
    rw [show f=(f - 1)+1 by omega,Nat.pow_succ] at h3;omega
theorem LX (x:Nat)(t:List Int)(h:x<18446744073709551616):rv (ah x++t)=(x,(ah x).length,0):=by
 have:=Gi 10 0 0 x t (by omega) rfl (by simp;omega) (by omega);unfold rv ah;rw [this];simp
theorem wP:∀ (f i a:Nat) (zs:List Int) (x n:Nat),f+i=10->(∀ z∈zs,0<=z/\z<=255)->scan f i a zs=(x,n,0) ->
  ∃ y,x=a+y*128 ^ i/\n=i+(lf f y).length/\zs.take (lf f y).length=lf f y/\y<2*128 ^ (f - 1)/\(0<i->1<=y)/\1<=f/\(lf f y).length<=zs.length
 | 0,i,a,zs,x,n,_,_,h=>by simp [scan] at h
 | f+1,i,a,[],x,n,_,_,h=>by simp [scan] at h
 | f+1,i,a,z::zs,x,n,h2,hb,h=>by
  have hz:=hb z List.mem_cons_self;rw [scan] at h
  by_cases hs:z<128
  ·rw [if_pos hs,jJ] at h
   by_cases h9:i=9/\1<z
   ·rw [if_pos h9] at h;simp at h
   ·rw [if_neg h9] at h
    by_cases h0:0<i/\z=0
    ·rw [if_pos h0] at h;simp at h
    ·rw [if_neg h0] at h
     simp only [Prod.mk.injEq,and_true] at h;refine ⟨z.toNat,h.1.symm,?_,?_,?_,?_,by omega,?_⟩
     ·rw [cP f _ (by omega)];exact h.2.symm
     ·rw [cP f _ (by omega)];simp;omega
     ·rw [Nat.add_sub_cancel]
      rcases Nat.eq_zero_or_pos f with hf | hf
      ·subst hf;simp;omega
      ·have:128 ^ 1<=128 ^ f:=Nat.pow_le_pow_right (by omega) hf
       omega
     ·intro hi;omega
     ·rw [cP f _ (by omega)];simp
  ·rw [if_neg hs] at h
   obtain ⟨y,e1,e2,e3,e4,e5,e6,e7⟩:=wP f (i+1) _ zs x n (by omega) (fun u hu=>hb u (List.mem_cons_of_mem _ hu)) h;have hy:=e5 (by omega);have hq:((z - 128).toNat+128*y) / 128=y:=by omega
   have hr:((z - 128).toNat+128*y) % 128=(z - 128).toNat:=by omega
   have hl:lf (f+1) ((z - 128).toNat+128*y)=z::lf f y:=by
    rw [iB f _ (by omega),hq,hr]
    congr 1
    omega
   refine ⟨(z - 128).toNat+128*y,?_,?_,?_,?_,by omega,by omega,?_⟩
   ·rw [e1,Nat.pow_succ,Nat.add_mul,Nat.add_assoc,Nat.mul_comm (128 ^ i) 128,<- Nat.mul_assoc,Nat.mul_comm y 128]
   ·rw [hl,e2,List.length_cons];omega
   ·rw [hl,List.length_cons,List.take_succ_cons,e3]
   ·rw [Nat.add_sub_cancel,show f=(f - 1)+1 by omega,Nat.pow_succ];omega
   ·rw [hl];simp;exact e7
theorem sw (zs:List Int)(x n:Nat)(hb:∀ z∈zs,0<=z/\z<=255)(h:rv zs=(x,n,0)) :
  x<18446744073709551616/\n=(ah x).length/\zs.take n=ah x/\1<=n/\n<=zs.length:=by
 obtain ⟨y,e1,e2,e3,e4,_,_,e7⟩:=wP 10 0 0 zs x n rfl hb h;have hy:x=y:=by simpa using e1
 subst hy;have Ql:n=(ah x).length:=by rw [e2];unfold ah;simp
 refine ⟨?_,Ql,?_,?_,?_⟩
 ·simp at e4;omega
 ·rw [Ql];exact e3
 ·rw [Ql];exact wO x
 ·rw [Ql];exact e7
theorem Am:∀ (f i a:Nat) (zs:List Int),(scan f i a zs).2.2=0∨(scan f i a zs=(0,0,10)∨scan f i a zs=(0,0,11)∨scan f i a zs=(0,0,12))
 | 0,_,_,_=>by simp [scan]
 | f+1,_,_,[]=>by simp [scan]
 | f+1,i,a,z::zs=>by
  rw [scan]
  by_cases h:z<128
  ·rw [if_pos h,jJ]
   by_cases h1:i=9/\1<z
   ·rw [if_pos h1];simp
   ·rw [if_neg h1]
    by_cases h2:0<i/\z=0
    ·rw [if_pos h2];simp
    ·rw [if_neg h2];simp
  ·rw [if_neg h];exact Am f (i+1) _ zs
end Go.Proofs.YtgldkdbkaachkaaGreatDoor
