import Derived.Lib.BitFns
import Derived.Lib.ItoaNum
import Derived.Laws.BitsAllLaws
namespace Go.Proofs.YteaahinjcfjngaaGreat
def lf:Nat->Nat->List Int
 | 0,_=>[]
 | f+1,x=>if x<128 then [(x:Int)] else ((x % 128+128:Nat):Int)::lf f (x / 128)
def vform (x:Nat):List Int:=lf 10 x
theorem lf_small (f x:Nat)(h:x<128):lf (f+1) x=[(x:Int)]:=by rw [lf,if_pos h]
theorem lf_big (f x:Nat)(h:¬ x<128):lf (f+1) x=((x % 128+128:Nat):Int)::lf f (x / 128):=by rw [lf,if_neg h]
theorem lf_len:∀ (f k x:Nat),1<=k->k<=f->x<128 ^ k->(2<=k->128 ^ (k - 1)<=x)->(lf f x).length=k
 | 0,k,x,h1,h2,_,_=>by omega
 | f+1,k,x,h1,h2,h3,h4=>by
  by_cases hx:x<128
  ·rw [lf_small f x hx]
   by_cases hk:2<=k
   ·have:=h4 hk
    have h5:128 ^ 1<=128 ^ (k - 1):=Nat.pow_le_pow_right (by omega) (by omega);omega
   ·simp;omega
  ·rw [lf_big f x hx,List.length_cons]
   have hk:2<=k:=by
    rcases Nat.lt_or_ge k 2 with h | h
    ·have:k=1:=by omega
     subst this;omega
    ·exact h
   obtain ⟨j,rfl⟩:∃ j,k=j+1:=⟨k - 1,by omega⟩;rw [lf_len f j (x / 128) (by omega) (by omega) ?_ ?_]
   ·rw [Nat.pow_succ] at h3;omega
   ·intro hj
    have:=h4 hk;rw [Nat.add_sub_cancel,show j=(j - 1)+1 by omega,Nat.pow_succ] at this;omega
theorem pow7 (k:Nat):128 ^ k=2 ^ (7*k):=by rw [Nat.pow_mul]
theorem or_one (x:Nat):x ||| 1=x/\x % 2=1∨x ||| 1=x+1/\x % 2=0:=by
 rcases Nat.mod_two_eq_zero_or_one x with h | h
 ·right;refine ⟨?_,h⟩
  exact nat_join 1 x 1 (by simpa using h) (by omega)
 ·left;refine ⟨?_,h⟩
  have e:x=(x - 1) ||| 1:=by rw [nat_join 1 (x - 1) 1 (by simp;omega) (by omega)];omega
  rw [e,Nat.or_assoc,Nat.or_self]
theorem vlen_formula (x:Nat)(hx:x<18446744073709551616):(Lib.bitLen (x ||| 1)+6) / 7=(vform x).length/\Lib.bitLen (x ||| 1)<=64:=by
 have h64:x ||| 1<2 ^ 64:=Nat.or_lt_two_pow (by omega) (by omega)
 have hle:Lib.bitLen (x ||| 1)<=64:=Lib.bitLen_le _ 64 (Nat.le_refl _) h64;have hne:x ||| 1≠0:=by rcases or_one x with h | h <;> omega
 obtain ⟨a,b,c⟩:=Lib.bitLenAux_bounds 64 (x ||| 1) h64 hne;unfold Lib.bitLen at *;generalize Lib.bitLenAux 64 (x ||| 1)=L at *;refine ⟨?_,hle⟩
 symm
 unfold vform;refine lf_len 10 ((L+6) / 7) x (by omega) (by omega) ?_ ?_
 ·rw [pow7]
  have:2 ^ L<=2 ^ (7*((L+6) / 7)):=Nat.pow_le_pow_right (by omega) (by omega);rcases or_one x with h | h <;> omega
 ·intro hk
  rw [pow7];have h1:2 ^ (7*((L+6) / 7 - 1))<=2 ^ (L - 1):=Nat.pow_le_pow_right (by omega) (by omega)
  have h2:2 ^ (7*((L+6) / 7 - 1)) % 2=0:=by
   rw [show 7*((L+6) / 7 - 1)=(7*((L+6) / 7 - 1) - 1)+1 by omega,Nat.pow_succ];omega
  rcases or_one x with h | h <;> omega
theorem lf_pos:∀ (f x:Nat),1<=f->1<=(lf f x).length
 | f+1,x,_=>by
  by_cases hx:x<128
  ·rw [lf_small f x hx];simp
  ·rw [lf_big f x hx];simp
theorem lf_le:∀ (f x:Nat),(lf f x).length<=f
 | 0,x=>by simp [lf]
 | f+1,x=>by
  by_cases hx:x<128
  ·rw [lf_small f x hx];simp
  ·rw [lf_big f x hx];have:=lf_le f (x / 128);simp;omega
theorem vform_le (x:Nat):(vform x).length<=10:=lf_le 10 x
def lb:Nat->Nat->List Int
 | 0,_=>[]
 | k+1,x=>((x % 256:Nat):Int)::lb k (x / 256)
def le:Nat->List Int->Nat
 | 0,_=>0
 | _+1,[]=>0
 | k+1,z::zs=>z.toNat+256*le k zs
end Go.Proofs.YteaahinjcfjngaaGreat
