import Derived.Laws.FloatArith
namespace Go.Proofs.YteaahinjcfjngaaGreat
open Go.RowKit
theorem log2_two_pow_mul (m k:Nat)(h:m≠0):(m*2 ^ k).log2=m.log2+k:=by
 have h1:m*2 ^ k≠0:=Nat.mul_ne_zero h (Nat.ne_of_gt (Nat.two_pow_pos k));have h2:2 ^ m.log2<=m:=Nat.log2_self_le h;have h3:m<2 ^ (m.log2+1):=Nat.lt_log2_self;apply Nat.le_antisymm
 ·refine Nat.lt_succ_iff.1 ((Nat.log2_lt h1).2 ?_)
  rw [Nat.succ_eq_add_one,show m.log2+k+1=(m.log2+1)+k by omega,Nat.pow_add];exact Nat.mul_lt_mul_of_pos_right h3 (Nat.two_pow_pos k)
 ·refine (Nat.le_log2 h1).2 ?_
  rw [Nat.pow_add];exact Nat.mul_le_mul_right _ h2
def rhe (n g:Nat):Nat:=n / g+(decide (g<2*(n % g)) || (g==2*(n % g) && n / g % 2==1)).toNat
theorem cut_rhe (s:Bool)(n d:Nat):Ieee.Toward.even.cut s n d=rhe n (2 ^ d):=by
 unfold Ieee.Toward.cut rhe;simp only [Nat.one_shiftLeft];rcases Nat.le_total d (n.log2+2) with h | h
 ·rw [Nat.min_eq_left h]
 ·rw [Nat.min_eq_right h]
  have h3:n<2 ^ (n.log2+1):=Nat.lt_log2_self;have h4:2 ^ (n.log2+2)=2*2 ^ (n.log2+1):=by rw [Nat.pow_succ' (n:=n.log2+1)]
  have h5:2 ^ (n.log2+2)<=2 ^ d:=Nat.pow_le_pow_right (by omega) h;rw [Nat.div_eq_of_lt (by omega),Nat.div_eq_of_lt (by omega),Nat.mod_eq_of_lt (by omega),Nat.mod_eq_of_lt (by omega)];have e1:decide (2 ^ (n.log2+2)<2*n)=false:=decide_eq_false (by omega);have e2:decide (2 ^ d<2*n)=false:=decide_eq_false (by omega);have h6:n % 2 ^ d=n:=Nat.mod_eq_of_lt (by omega);rw [e1];simp [h6,e2]
theorem rhe_scale (n g k:Nat)(hk:0<k):rhe (n*k) (g*k)=rhe n g:=by
 unfold rhe;rw [Nat.mul_div_mul_right _ _ hk,Nat.mul_mod_mul_right]
 have e1:decide (g*k<2*(n % g*k))=decide (g<2*(n % g)):=by
  rw [<- Nat.mul_assoc];exact decide_eq_decide.2 (Nat.mul_lt_mul_right hk)
 have e2:(g*k==2*(n % g*k))=(g==2*(n % g)):=by
  rw [<- Nat.mul_assoc,Bool.eq_iff_iff,beq_iff_eq,beq_iff_eq];exact Nat.mul_right_cancel_iff hk
 rw [e1,e2]
theorem rhe_mono {n m g:Nat}(h:n<=m):rhe n g<=rhe m g:=by
 unfold rhe;have hd:n / g<=m / g:=Nat.div_le_div_right h;rcases Nat.lt_or_ge (n / g) (m / g) with h1 | h1
 ·exact Nat.le_trans (Nat.add_le_add_left (Bool.toNat_le _) _) (Nat.le_trans h1 (Nat.le_add_right _ _))
 ·have he:n / g=m / g:=Nat.le_antisymm hd h1
  rw [he];have h2:=Nat.div_add_mod n g;have h3:=Nat.div_add_mod m g;rw [he] at h2;have hr:n % g<=m % g:=by omega
  apply Nat.add_le_add_left
  by_cases hb:(decide (g<2*(m % g)) || (g==2*(m % g) && m / g % 2==1))=true
  ·rw [hb];exact Bool.toNat_le _
  ·have hc:(decide (g<2*(n % g)) || (g==2*(n % g) && m / g % 2==1))=false:=by
    simp only [Bool.or_eq_true,Bool.and_eq_true,decide_eq_true_eq,beq_iff_eq,not_or,not_and] at hb;simp only [Bool.or_eq_false_iff,Bool.and_eq_false_iff,decide_eq_false_iff_not,beq_eq_false_iff_ne];refine ⟨by omega,?_⟩
    by_cases hg:g=2*(n % g)
    ·right
     exact hb.2 (by omega)
    ·exact Or.inl hg
   rw [hc];exact Nat.zero_le _
theorem rhe_exact (k g:Nat)(hg:0<g):rhe (k*g) g=k:=by
 unfold rhe;rw [Nat.mul_div_cancel _ hg,Nat.mul_mod_left];have e1:decide (g<2*0)=false:=decide_eq_false (by omega);have e2:(g==2*0)=false:=beq_eq_false_iff_ne.2 (by omega);rw [e1,e2];rfl
theorem rhe_le {n k g:Nat}(hg:0<g)(h:n<=k*g):rhe n g<=k:=by
 have:=rhe_mono (g:=g) h
 rwa [rhe_exact k g hg] at this
theorem le_rhe {n k g:Nat}(hg:0<g)(h:k*g<=n):k<=rhe n g:=by
 have:=rhe_mono (g:=g) h
 rwa [rhe_exact k g hg] at this
def lsF (m:Nat)(p:Int):Int:=max (p+m.log2 - 52) (-1074)
def rgF (m:Nat)(p:Int):Nat:=if m=0 then 0 else (lsF m p+1074).toNat*2 ^ 52+rhe (m*2 ^ (p - lsF m p).toNat) (2 ^ (lsF m p - p).toNat)
def infF:Nat:=2047*2 ^ 52
theorem inf_eq:Ieee.double.infRung=infF:=by decide +kernel
theorem least_eq:Ieee.double.leastPlace=-1074:=by decide +kernel
theorem nearest_eq (s:Bool)(m:Nat)(p:Int):Ieee.double.nearest s m p=Ieee.double.word s (min (rgF m p) infF):=by
 unfold Ieee.Format.nearest rgF
 split
 ·congr 1
 ·rw [inf_eq]
  simp only [least_eq,cut_rhe,Nat.shiftLeft_eq]
  rfl
theorem rg_shift (m k:Nat)(p:Int):rgF (m*2 ^ k) (p - k)=rgF m p:=by
 unfold rgF
 by_cases hm:m=0
 ·rw [hm];simp
 have h1:m*2 ^ k≠0:=Nat.mul_ne_zero hm (Nat.ne_of_gt (Nat.two_pow_pos k));rw [if_neg hm,if_neg h1]
 have hl:lsF (m*2 ^ k) (p - k)=lsF m p:=by
  unfold lsF;rw [log2_two_pow_mul _ _ hm]
  congr 1
  omega
 rw [hl];generalize lsF m p=l
 congr 1
 rcases Int.lt_or_le p l with h | h
 ·rw [show (p - l).toNat=0 by omega,show (p - ↑k - l).toNat=0 by omega,show (l - (p - ↑k)).toNat=(l - p).toNat+k by omega,Nat.pow_add,Nat.pow_zero,Nat.mul_one,Nat.mul_one]
  exact rhe_scale _ _ _ (Nat.two_pow_pos k)
 ·rcases Int.lt_or_le (p - k) l with h2 | h2
  ·obtain ⟨a,ha⟩:∃ a:Nat,p - l=a:=⟨(p - l).toNat,by omega⟩
   rw [show (p - ↑k - l).toNat=0 by omega,show (l - (p - ↑k)).toNat=k - a by omega,show (p - l).toNat=a by omega,show (l - p).toNat=0 by omega,Nat.pow_zero,Nat.mul_one];have:=rhe_scale (m*2 ^ a) 1 (2 ^ (k - a)) (Nat.two_pow_pos _);rw [Nat.mul_assoc,<- Nat.pow_add,Nat.one_mul,show a+(k - a)=k by omega] at this;exact this
  ·obtain ⟨a,ha⟩:∃ a:Nat,p - l=k+a:=⟨(p - l).toNat - k,by omega⟩
   rw [show (p - ↑k - l).toNat=a by omega,show (l - (p - ↑k)).toNat=0 by omega,show (p - l).toNat=k+a by omega,show (l - p).toNat=0 by omega,Nat.pow_add,Nat.mul_assoc]
theorem log2_mono {m n:Nat}(h:m<=n)(hm:m≠0):m.log2<=n.log2:=(Nat.le_log2 (by omega)).2 (Nat.le_trans (Nat.log2_self_le hm) h)
theorem rg_mono {m n:Nat}{p:Int}(h:m<=n):rgF m p<=rgF n p:=by
 unfold rgF
 by_cases hm:m=0
 ·rw [if_pos hm];exact Nat.zero_le _
 have hn:n≠0:=by omega
 rw [if_neg hm,if_neg hn];have hll:=log2_mono h hm;have hls:lsF m p<=lsF n p:=by unfold lsF;omega
 have hlo:-1074<=lsF m p:=by unfold lsF;omega
 rcases Int.lt_or_eq_of_le hls with h1 | h1
 ·have hn2:lsF n p=p+n.log2 - 52:=by unfold lsF at h1 ⊢;omega
  have hm2:p+m.log2 - 52<=lsF m p:=by unfold lsF;omega
  have a1:rhe (m*2 ^ (p - lsF m p).toNat) (2 ^ (lsF m p - p).toNat)<=2*2 ^ 52:=by
   refine rhe_le (Nat.two_pow_pos _) ?_;have h3:m<2 ^ (m.log2+1):=Nat.lt_log2_self;refine Nat.le_trans (Nat.mul_le_mul_right _ (Nat.le_of_lt h3)) ?_;rw [<- Nat.pow_add,<- Nat.pow_succ',<- Nat.pow_add];exact Nat.pow_le_pow_right (by omega) (by omega)
  have a2:2 ^ 52<=rhe (n*2 ^ (p - lsF n p).toNat) (2 ^ (lsF n p - p).toNat):=by
   refine le_rhe (Nat.two_pow_pos _) ?_;have h3:2 ^ n.log2<=n:=Nat.log2_self_le hn;refine Nat.le_trans ?_ (Nat.mul_le_mul_right _ h3);rw [<- Nat.pow_add,<- Nat.pow_add];exact Nat.pow_le_pow_right (by omega) (by omega)
  have a3:(lsF m p+1074).toNat+1<=(lsF n p+1074).toNat:=by omega
  have a4:=Nat.mul_le_mul_right (2 ^ 52) a3;rw [Nat.add_mul,Nat.one_mul] at a4;rw [Nat.two_mul] at a1;refine Nat.le_trans (Nat.add_le_add_left a1 _) ?_;rw [<- Nat.add_assoc];exact Nat.add_le_add a4 a2
 ·rw [<- h1]
  exact Nat.add_le_add_left (rhe_mono (Nat.mul_le_mul_right _ h)) _
def LeF (m:Nat)(i:Int)(n:Nat)(j:Int):Prop:=m*2 ^ (i - min i j).toNat<=n*2 ^ (j - min i j).toNat
theorem rg_le {m n:Nat}{i j:Int}(h:LeF m i n j):rgF m i<=rgF n j:=by
 have h1:=rg_shift m (i - min i j).toNat i;have h2:=rg_shift n (j - min i j).toNat j;rw [show i - ((i - min i j).toNat:Int)=min i j by omega] at h1;rw [show j - ((j - min i j).toNat:Int)=min i j by omega] at h2;rw [<- h1,<- h2];exact rg_mono h
def mgF (r:Nat):Nat:=if r<2 ^ 52 then r else 2 ^ 52+r % 2 ^ 52
def exF (r:Nat):Nat:=if r<2 ^ 52 then 0 else r / 2 ^ 52 - 1
theorem rg_exact (r:Nat):rgF (mgF r) (-1074+(exF r:Int))=r:=by
 unfold mgF exF
 by_cases h:r<2 ^ 52
 ·rw [if_pos h,if_pos h]
  unfold rgF
  by_cases h0:r=0
  ·rw [if_pos h0,h0]
  rw [if_neg h0];have hl:r.log2<52:=(Nat.log2_lt h0).2 h;have hs:lsF r (-1074+((0:Nat):Int))=-1074:=by unfold lsF;omega
  rw [hs,show (-1074+1074:Int).toNat=0 from rfl,show (-1074+((0:Nat):Int) - -1074).toNat=0 from rfl,show (-1074 - (-1074+((0:Nat):Int))).toNat=0 from rfl,Nat.pow_zero,Nat.mul_one,Nat.zero_mul,Nat.zero_add];have:=rhe_exact r 1 (by omega)
  rwa [Nat.mul_one] at this
 ·rw [if_neg h,if_neg h]
  unfold rgF;have hr:r % 2 ^ 52<2 ^ 52:=Nat.mod_lt _ (Nat.two_pow_pos _);have hd:=Nat.div_add_mod r (2 ^ 52);have hq:1<=r / 2 ^ 52:=(Nat.le_div_iff_mul_le (Nat.two_pow_pos _)).2 (by omega);have hn:2 ^ 52+r % 2 ^ 52≠0:=by omega
  rw [if_neg hn]
  have hl:(2 ^ 52+r % 2 ^ 52).log2=52:=by
   apply Nat.le_antisymm
   ·exact Nat.lt_succ_iff.1 ((Nat.log2_lt hn).2 (by rw [show (Nat.succ 52)=52+1 from rfl,Nat.pow_succ];omega))
   ·exact (Nat.le_log2 hn).2 (by omega)
  have hs:lsF (2 ^ 52+r % 2 ^ 52) (-1074+((r / 2 ^ 52 - 1:Nat):Int))=-1074+((r / 2 ^ 52 - 1:Nat):Int):=by
   unfold lsF;rw [hl];omega
  rw [hs,show (-1074+((r / 2 ^ 52 - 1:Nat):Int)+1074).toNat=r / 2 ^ 52 - 1 by omega,show (-1074+((r / 2 ^ 52 - 1:Nat):Int) - (-1074+((r / 2 ^ 52 - 1:Nat):Int))).toNat=0 by omega,Nat.pow_zero,Nat.mul_one];have:=rhe_exact (2 ^ 52+r % 2 ^ 52) 1 (by omega);rw [Nat.mul_one] at this;rw [this,Nat.mul_comm];have h2:2 ^ 52*(r / 2 ^ 52 - 1)=2 ^ 52*(r / 2 ^ 52) - 2 ^ 52:=by rw [Nat.mul_sub,Nat.mul_one]
  have h3:2 ^ 52*1<=2 ^ 52*(r / 2 ^ 52):=Nat.mul_le_mul_left _ hq;omega
def valF (r:Nat):Nat:=mgF r*2 ^ exF r
theorem val_step (r:Nat):valF r<valF (r+1):=by
 unfold valF mgF exF
 by_cases h:r+1<2 ^ 52
 ·rw [if_pos (by omega),if_pos (by omega),if_pos h,if_pos h];omega
 rw [if_neg h,if_neg h]
 by_cases h1:r<2 ^ 52
 ·rw [if_pos h1,if_pos h1]
  have e:r+1=2 ^ 52:=by omega
  rw [e];have e2:2 ^ 52 / 2 ^ 52 - 1=0:=by decide +kernel
  rw [e2,Nat.pow_zero];omega
 ·rw [if_neg h1,if_neg h1]
  have hd:=Nat.div_add_mod r (2 ^ 52);have hr:r % 2 ^ 52<2 ^ 52:=Nat.mod_lt _ (Nat.two_pow_pos _);have hq:1<=r / 2 ^ 52:=(Nat.le_div_iff_mul_le (Nat.two_pow_pos _)).2 (by omega)
  by_cases h2:r % 2 ^ 52+1<2 ^ 52
  ·have e1:(r+1) / 2 ^ 52=r / 2 ^ 52:=by
    rw [Nat.div_eq_iff (Nat.two_pow_pos _)];generalize r / 2 ^ 52=q at *;rw [Nat.mul_comm] at hd;constructor <;> omega
   have e2:(r+1) % 2 ^ 52=r % 2 ^ 52+1:=by
    have:=Nat.div_add_mod (r+1) (2 ^ 52);rw [e1] at this;omega
   rw [e1,e2];exact Nat.mul_lt_mul_of_pos_right (by omega) (Nat.two_pow_pos _)
  ·have e1:(r+1) / 2 ^ 52=r / 2 ^ 52+1:=by
    rw [Nat.div_eq_iff (Nat.two_pow_pos _),Nat.add_mul,Nat.one_mul];generalize r / 2 ^ 52=q at *;rw [Nat.mul_comm] at hd;constructor <;> omega
   have e2:(r+1) % 2 ^ 52=0:=by
    have:=Nat.div_add_mod (r+1) (2 ^ 52);rw [e1,Nat.mul_add,Nat.mul_one] at this;omega
   rw [e1,e2,Nat.add_zero,show r / 2 ^ 52+1 - 1=(r / 2 ^ 52 - 1)+1 by omega,Nat.pow_succ _ (r / 2 ^ 52 - 1),<- Nat.mul_assoc,Nat.mul_right_comm];exact Nat.mul_lt_mul_of_pos_right (by omega) (Nat.two_pow_pos _)
theorem val_lt {r s:Nat}(h:r<s):valF r<valF s:=by
 induction s with
 | zero=>omega
 | succ s ih =>
  rcases Nat.lt_or_ge r s with h1 | h1
  ·exact Nat.lt_trans (ih h1) (val_step s)
  ·rw [show r=s by omega];exact val_step s
theorem val_le_iff {r s:Nat}:valF r<=valF s↔r<=s:=by
 constructor
 ·intro h
  rcases Nat.lt_or_ge s r with h1 | h1
  ·have:=val_lt h1;omega
  ·exact h1
 ·intro h
  rcases Nat.lt_or_eq_of_le h with h1 | h1
  ·exact Nat.le_of_lt (val_lt h1)
  ·rw [h1];exact Nat.le_refl _
theorem sign_eq:Ieee.double.signWeight=2048*2 ^ 52:=by decide +kernel
theorem binade_eq:Ieee.double.binade=2 ^ 52:=rfl
theorem read_rung {r:Nat}(h:r<infF):Ieee.double.read r=.number false (mgF r) (-1074+(exF r:Int)):=by
 unfold infF at h;unfold Ieee.Format.read;rw [sign_eq,binade_eq,inf_eq,least_eq];have h1:r / (2048*2 ^ 52)=0:=Nat.div_eq_of_lt (by omega);have h2:r % (2048*2 ^ 52)=r:=Nat.mod_eq_of_lt (by omega);simp only [h1,h2];unfold mgF exF
 by_cases h3:r<2 ^ 52
 ·rw [if_pos h3,if_pos h3,if_pos h3];rfl
 ·rw [if_neg h3,if_neg h3,if_neg h3,if_pos (by unfold infF;omega)];rfl
theorem read_inf:Ieee.double.read infF=.infinity false:=by decide +kernel
theorem cmp_int (a b:Nat):compare (a:Int) (b:Int)=compare a b:=by
 show compareOfLessAndEq (a:Int) (b:Int)=compareOfLessAndEq a b
 unfold compareOfLessAndEq;have e1:((a:Int)<b)↔a<b:=Int.ofNat_lt;have e2:((a:Int)=b)↔a=b:=Int.ofNat_inj;simp only [e1,e2]
theorem cmp_same {a b c d:Nat}(h1:a<b↔c<d)(h2:a=b↔c=d):compare a b=compare c d:=by
 show compareOfLessAndEq a b=compareOfLessAndEq c d
 unfold compareOfLessAndEq;simp only [h1,h2]
theorem order_num (m n:Nat)(i j:Int):Ieee.Datum.order (.number false m i) (.number false n j)=some (compare (m*2 ^ (i - min i j).toNat) (n*2 ^ (j - min i j).toNat)):=by
 unfold Ieee.Datum.order Ieee.signed;simp only [Nat.shiftLeft_eq,Bool.false_eq_true,if_false]
 congr 1
 exact cmp_int _ _
theorem order_rung {r s:Nat}(hr:r<=infF)(hs:s<=infF):Ieee.double.order r s=some (compare r s):=by
 unfold Ieee.Format.order;rcases Nat.lt_or_eq_of_le hr with h1 | rfl <;> rcases Nat.lt_or_eq_of_le hs with h2 | rfl
 ·rw [read_rung h1,read_rung h2,order_num]
  congr 1
  have hr2:mgF r*2 ^ (-1074+(exF r:Int) - min (-1074+(exF r:Int)) (-1074+(exF s:Int))).toNat*2 ^ (min (exF r) (exF s))=valF r:=by
   unfold valF;rw [Nat.mul_assoc,<- Nat.pow_add];congr 2;omega
  have hs2:mgF s*2 ^ (-1074+(exF s:Int) - min (-1074+(exF r:Int)) (-1074+(exF s:Int))).toNat*2 ^ (min (exF r) (exF s))=valF s:=by
   unfold valF;rw [Nat.mul_assoc,<- Nat.pow_add];congr 2;omega
  have hp:=Nat.two_pow_pos (min (exF r) (exF s))
  have hlt:valF r<valF s↔r<s:=by
   have:=val_le_iff (r:=s) (s:=r);omega
  have heq:valF r=valF s↔r=s:=by
   have:=val_le_iff (r:=s) (s:=r);have:=val_le_iff (r:=r) (s:=s);omega
  refine cmp_same ?_ ?_
  ·rw [<- hlt,<- hr2,<- hs2];exact (Nat.mul_lt_mul_right hp).symm
  ·rw [<- heq,<- hr2,<- hs2];exact (Nat.mul_right_cancel_iff hp).symm
 ·rw [read_rung h1,read_inf,Nat.compare_eq_lt.2 h1];rfl
 ·rw [read_rung h2,read_inf,Nat.compare_eq_gt.2 h2];rfl
 ·rw [read_inf];decide +kernel
def wdF (m:Nat)(p:Int):Nat:=min (rgF m p) infF
theorem near_pos (m:Nat)(p:Int):Ieee.double.nearest false m p=wdF m p:=nearest_eq false m p
theorem wd_le (m:Nat)(p:Int):wdF m p<=infF:=Nat.min_le_right _ _
theorem rg_zero (p:Int):rgF 0 p=0:=if_pos rfl
def rvF (v:Nat):Nat:=rgF v (-1074)
theorem rg_units (m k:Nat):rgF m (-1074+(k:Int))=rvF (m*2 ^ k):=by
 have:=rg_shift m k (-1074+(k:Int));rw [show (-1074+(k:Int) - k)=-1074 by omega] at this;exact this.symm
theorem rv_val (r:Nat):rvF (valF r)=r:=by
 unfold valF;rw [<- rg_units];exact rg_exact r
theorem rv_mono {v w:Nat}(h:v<=w):rvF v<=rvF w:=rg_mono h
theorem rv_le {v r:Nat}(h:v<=valF r):rvF v<=r:=by
 have:=rv_mono h;rwa [rv_val] at this
theorem le_rv {v r:Nat}(h:valF r<=v):r<=rvF v:=by
 have:=rv_mono h;rwa [rv_val] at this
theorem add_rung {x y:Nat}(hx:x<infF)(hy:y<infF):Ieee.double.add x y=some (min (rvF (valF x+valF y)) infF):=by
 unfold Ieee.Format.add;rw [read_rung hx,read_rung hy];unfold Ieee.Datum.sum Ieee.signed;simp only [Nat.shiftLeft_eq,Bool.false_eq_true,if_false,Option.map_some,Ieee.Format.write];have e2:∀ A B:Nat,((A:Int)+(B:Int)).natAbs=A+B:=by intro A B;omega
 have e1:∀ A B:Nat,(if (A:Int)+(B:Int)=0 then (false && false) else decide ((A:Int)+(B:Int)<0))=false:=by
  intro A B;split
  ·rfl
  ·exact decide_eq_false (by omega)
 rw [e1,e2,near_pos];unfold wdF;rw [show min (-1074+(exF x:Int)) (-1074+(exF y:Int))=-1074+((min (exF x) (exF y):Nat):Int) by omega,rg_units,Nat.add_mul,Nat.mul_assoc,Nat.mul_assoc,<- Nat.pow_add,<- Nat.pow_add];unfold valF;rw [show (-1074+(exF x:Int) - (-1074+((min (exF x) (exF y):Nat):Int))).toNat+min (exF x) (exF y)=exF x by omega,show (-1074+(exF y:Int) - (-1074+((min (exF x) (exF y):Nat):Int))).toNat+min (exF x) (exF y)=exF y by omega]
theorem sub_rung {x y:Nat}(hx:x<infF)(hy:y<=x):Ieee.double.sub x y=some (min (rvF (valF x - valF y)) infF):=by
 have hy2:y<infF:=Nat.lt_of_le_of_lt hy hx;have hv:valF y<=valF x:=val_le_iff.2 hy;unfold Ieee.Format.sub;rw [read_rung hx,read_rung hy2];unfold Ieee.Datum.opposite Ieee.Datum.sum Ieee.signed;simp only [Nat.shiftLeft_eq,Bool.false_eq_true,if_false,Bool.not_false,if_true,Option.map_some,Ieee.Format.write];obtain ⟨a,ha⟩:∃ a:Nat,a=min (exF x) (exF y):=⟨_,rfl⟩;rw [show min (-1074+(exF x:Int)) (-1074+(exF y:Int))=-1074+(a:Int) by omega]
 have e3:mgF y*2 ^ (-1074+(exF y:Int) - (-1074+(a:Int))).toNat*2 ^ a=valF y:=by
  unfold valF;rw [Nat.mul_assoc,<- Nat.pow_add];congr 2;omega
 have e4:mgF x*2 ^ (-1074+(exF x:Int) - (-1074+(a:Int))).toNat*2 ^ a=valF x:=by
  unfold valF;rw [Nat.mul_assoc,<- Nat.pow_add];congr 2;omega
 generalize mgF y*2 ^ (-1074+(exF y:Int) - (-1074+(a:Int))).toNat=B at *;generalize mgF x*2 ^ (-1074+(exF x:Int) - (-1074+(a:Int))).toNat=A at *
 have hab:B<=A:=by
  rw [<- e3,<- e4] at hv;exact Nat.le_of_mul_le_mul_right hv (Nat.two_pow_pos a)
 have e1:(if (A:Int)+-(B:Int)=0 then (false && true) else decide ((A:Int)+-(B:Int)<0))=false:=by
  split
  ·rfl
  ·exact decide_eq_false (by omega)
 rw [e1,near_pos,show ((A:Int)+-(B:Int)).natAbs=A - B by omega];unfold wdF;rw [rg_units,Nat.sub_mul,e3,e4]
theorem mul_rung {x y:Nat}(hx:x<infF)(hy:y<infF):Ieee.double.mul x y=some (wdF (mgF x*mgF y) (-1074+(exF x:Int)+(-1074+(exF y:Int)))):=by
 unfold Ieee.Format.mul;rw [read_rung hx,read_rung hy];unfold Ieee.Datum.product;simp only [Option.map_some,Ieee.Format.write,Bool.xor_self];rw [near_pos]
theorem mul_le_mul' {x y z u:Nat}(h:valF x*valF y<=valF z*valF u):wdF (mgF x*mgF y) (-1074+(exF x:Int)+(-1074+(exF y:Int)))<=wdF (mgF z*mgF u) (-1074+(exF z:Int)+(-1074+(exF u:Int))):=by
 unfold wdF
 have h1:rgF (mgF x*mgF y) (-1074+(exF x:Int)+(-1074+(exF y:Int)))<=rgF (mgF z*mgF u) (-1074+(exF z:Int)+(-1074+(exF u:Int))):=by
  refine rg_le ?_;unfold LeF;obtain ⟨a,ha⟩:∃ a:Nat,a=min (exF x+exF y) (exF z+exF u):=⟨_,rfl⟩;refine Nat.le_of_mul_le_mul_right ?_ (Nat.two_pow_pos a);rw [Nat.mul_assoc (mgF x*mgF y),Nat.mul_assoc (mgF z*mgF u),<- Nat.pow_add,<- Nat.pow_add,show (-1074+(exF x:Int)+(-1074+(exF y:Int)) - min (-1074+(exF x:Int)+(-1074+(exF y:Int))) (-1074+(exF z:Int)+(-1074+(exF u:Int)))).toNat+a=exF x+exF y by omega,show (-1074+(exF z:Int)+(-1074+(exF u:Int)) - min (-1074+(exF x:Int)+(-1074+(exF y:Int))) (-1074+(exF z:Int)+(-1074+(exF u:Int)))).toNat+a=exF z+exF u by omega,Nat.pow_add,Nat.pow_add,Nat.mul_mul_mul_comm,Nat.mul_mul_mul_comm (mgF z)];exact h
 omega
def oneF:Nat:=1023*2 ^ 52
theorem val_one:valF oneF=2 ^ 1074:=by decide +kernel
theorem mul_one' {y:Nat}(hy:y<infF):wdF (mgF oneF*mgF y) (-1074+(exF oneF:Int)+(-1074+(exF y:Int)))=y:=by
 have e1:mgF oneF=2 ^ 52:=by decide +kernel
 have e2:exF oneF=1022:=by decide +kernel
 rw [e1,e2,Nat.mul_comm];have:=rg_shift (mgF y) 52 (-1074+(exF y:Int));unfold wdF;rw [show (-1074+((1022:Nat):Int)+(-1074+(exF y:Int)))=(-1074+(exF y:Int) - ((52:Nat):Int)) by omega,this,rg_exact];exact Nat.min_eq_left (Nat.le_of_lt hy)
theorem mul_share {x y:Nat}(hx:x<=oneF)(hy:y<infF):wdF (mgF x*mgF y) (-1074+(exF x:Int)+(-1074+(exF y:Int)))<=y:=by
 have:=mul_le_mul' (x:=x) (y:=y) (z:=oneF) (u:=y) (Nat.mul_le_mul_right _ (val_le_iff.2 hx))
 rwa [mul_one' hy] at this
def stk (a n:Nat):Nat:=2*(a / n)+(a % n != 0).toNat
theorem bne_toNat (a:Nat):(a != 0).toNat=if a=0 then 0 else 1:=by
 by_cases h:a=0
 ·rw [if_pos h,h];rfl
 ·rw [if_neg h,bne_iff_ne.2 h];rfl
theorem stk_le {a n b m:Nat}(hn:0<n)(hm:0<m)(h:a*m<=b*n):stk a n<=stk b m:=by
 unfold stk;rw [bne_toNat,bne_toNat];have ha:=Nat.div_add_mod a n;have hb:=Nat.div_add_mod b m;have hbm:=Nat.mod_lt b hm
 have hf:a / n<=b / m:=by
  rw [Nat.le_div_iff_mul_le hm];refine Nat.le_of_mul_le_mul_right (c:=n) ?_ hn;refine Nat.le_trans ?_ h;rw [Nat.mul_right_comm];exact Nat.mul_le_mul_right _ (Nat.div_mul_le_self a n)
 rcases Nat.lt_or_eq_of_le hf with h1 | h1
 ·split <;> split <;> omega
 ·rw [h1]
  split
  ·exact Nat.le_add_right _ _
  ·rename_i h2
   refine Nat.le_of_eq ?_;rw [if_neg];intro h3;rw [h3,Nat.add_zero] at hb;have h4:(a / n)*n<a:=by rw [Nat.mul_comm];omega
   have h5:b*n=(a / n)*n*m:=by rw [h1,<- hb,Nat.mul_div_cancel_left _ hm,Nat.mul_comm m,Nat.mul_right_comm]
   rw [h5] at h;exact Nat.lt_irrefl _ (Nat.lt_of_le_of_lt (Nat.le_of_mul_le_mul_right h hm) h4)
theorem stk_two {a n:Nat}(hn:0<n):(stk (a*2) n=2*stk a n)∨(stk a n % 2=1/\(stk (a*2) n=2*stk a n+1∨stk (a*2) n+1=2*stk a n)):=by
 have ha:=Nat.div_add_mod a n;have hr:=Nat.mod_lt a hn;unfold stk;rw [bne_toNat,bne_toNat];rcases Nat.lt_or_ge (2*(a % n)) n with h | h
 ·have e1:a*2 / n=2*(a / n):=by
   rw [Nat.div_eq_iff hn,Nat.mul_assoc,Nat.mul_comm (a / n)];constructor <;> omega
  have e2:a*2 % n=2*(a % n):=by
   have:=Nat.div_add_mod (a*2) n;rw [e1,Nat.mul_left_comm] at this;omega
  rw [e1,e2]
  by_cases h0:a % n=0
  ·left;rw [if_pos (by omega),if_pos h0];omega
  ·right;rw [if_neg h0,if_neg (show ¬ 2*(a % n)=0 by omega)];omega
 ·have e1:a*2 / n=2*(a / n)+1:=by
   rw [Nat.div_eq_iff hn,Nat.add_mul,Nat.mul_assoc,Nat.mul_comm (a / n)];constructor <;> omega
  have e2:a*2 % n=2*(a % n) - n:=by
   have:=Nat.div_add_mod (a*2) n;rw [e1,Nat.mul_add,Nat.mul_left_comm,Nat.mul_one] at this;omega
  rw [e1,e2];rw [if_neg (show ¬ a % n=0 by omega)]
  by_cases h0:2*(a % n) - n=0
  ·left;rw [if_pos h0];omega
  ·right;rw [if_neg h0];omega
theorem rhe_near {t u h:Nat}(hh:0<h)(hu:u=2*t∨(t % 2=1/\(u=2*t+1∨u+1=2*t))):rhe u (8*h)=rhe t (4*h):=by
 have ht:=Nat.div_add_mod t (4*h);have hr:=Nat.mod_lt t (show 0<4*h by omega);obtain ⟨q,hq⟩:∃ q,q=t / (4*h):=⟨_,rfl⟩;obtain ⟨r,hr2⟩:∃ r,r=t % (4*h):=⟨_,rfl⟩
 have hod:t % 2=r % 2:=by
  rw [hr2,Nat.mod_mod_of_dvd];exact ⟨2*h,by omega⟩
 rw [<- hq,<- hr2] at ht;rw [<- hr2] at hr
 obtain ⟨r',hr'⟩:∃ r',u=8*h*q+r'/\r'<8*h/\(r'=2*r∨(r % 2=1/\(r'=2*r+1∨r'+1=2*r))):=by
  have e:8*h*q=2*(4*h*q):=by rw [<- Nat.mul_assoc,<- Nat.mul_assoc]
  refine ⟨u - 8*h*q,?_,?_,?_⟩ <;> (rw [e];omega)
 have e1:u / (8*h)=q:=by
  rw [hr'.1,Nat.mul_add_div (by omega),Nat.div_eq_of_lt hr'.2.1,Nat.add_zero]
 have e2:u % (8*h)=r':=by rw [hr'.1,Nat.mul_add_mod,Nat.mod_eq_of_lt hr'.2.1]
 unfold rhe;rw [e1,e2,<- hq,<- hr2]
 congr 2
 have e3:decide (8*h<2*r')=decide (4*h<2*r):=decide_eq_decide.2 (by omega)
 have e4:(8*h==2*r')=(4*h==2*r):=by
  rw [Bool.eq_iff_iff,beq_iff_eq,beq_iff_eq];omega
 rw [e3,e4]
theorem rg_near {t u:Nat}(p:Int)(ht:2 ^ 54<=t)(hu:u=2*t∨(t % 2=1/\(u=2*t+1∨u+1=2*t))):rgF u (p - 1)=rgF t p:=by
 have h0:t≠0:=by omega
 have h1:u≠0:=by omega
 have hl:54<=t.log2:=(Nat.le_log2 h0).2 ht
 have hlu:u.log2=t.log2+1:=by
  have a1:2 ^ t.log2<=t:=Nat.log2_self_le h0;have a2:t<2 ^ (t.log2+1):=Nat.lt_log2_self;have a3:2 ^ (t.log2+1)=2*2 ^ t.log2:=Nat.pow_succ';have a4:2 ^ (t.log2+1+1)=2*2 ^ (t.log2+1):=Nat.pow_succ';have a5:2 ^ t.log2=2*2 ^ (t.log2 - 1):=by rw [<- Nat.pow_succ'];congr 1;omega
  apply Nat.le_antisymm
  ·exact Nat.lt_succ_iff.1 ((Nat.log2_lt h1).2 (by rw [Nat.succ_eq_add_one,a4];omega))
  ·exact (Nat.le_log2 h1).2 (by omega)
 unfold rgF;rw [if_neg h0,if_neg h1];have hs:lsF u (p - 1)=lsF t p:=by unfold lsF;rw [hlu];omega
 have hge:p+2<=lsF t p:=by unfold lsF;omega
 rw [hs];obtain ⟨d,hd⟩:∃ d:Nat,lsF t p=p+2+d:=⟨(lsF t p - p - 2).toNat,by omega⟩
 congr 1
 rw [hd,show (p - (p+2+(d:Int))).toNat=0 by omega,show (p - 1 - (p+2+(d:Int))).toNat=0 by omega,show (p+2+(d:Int) - p).toNat=2+d by omega,show (p+2+(d:Int) - (p - 1)).toNat=3+d by omega,Nat.pow_zero,Nat.mul_one,Nat.mul_one,Nat.pow_add,Nat.pow_add];exact rhe_near (Nat.two_pow_pos d) hu
theorem stk_up {a n:Nat}(p:Int)(hn:0<n)(ha:2 ^ 53*n<=a)(k:Nat):rgF (stk (a*2 ^ k) n) (p - k)=rgF (stk a n) p:=by
 induction k with
 | zero=>rw [Nat.pow_zero,Nat.mul_one];congr 1;omega
 | succ k ih =>
  rw [<- ih,Nat.pow_succ,<- Nat.mul_assoc,show p - ((k+1:Nat):Int)=p - k - 1 by omega];refine rg_near _ ?_ (stk_two hn)
  have h1:2 ^ 53<=a*2 ^ k / n:=by
   rw [Nat.le_div_iff_mul_le hn];exact Nat.le_trans ha (Nat.le_mul_of_pos_right _ (Nat.two_pow_pos k))
  unfold stk;omega
def moF (m n:Nat):Nat:=54+n.log2 - m.log2
theorem mo_ge {m n:Nat}(hm:m≠0):2 ^ 53*n<=m*2 ^ moF m n:=by
 have h1:2 ^ m.log2<=m:=Nat.log2_self_le hm;have h2:n<2 ^ (n.log2+1):=Nat.lt_log2_self;refine Nat.le_trans (Nat.mul_le_mul_left _ (Nat.le_of_lt h2)) (Nat.le_trans ?_ (Nat.mul_le_mul_right _ h1));rw [<- Nat.pow_add,<- Nat.pow_add];exact Nat.pow_le_pow_right (by omega) (by unfold moF;omega)
def quF (m n:Nat)(p:Int):Nat:=rgF (stk (m*2 ^ moF m n) n) (p - moF m n - 1)
theorem qu_le {m n m' n':Nat}{p p':Int}(hn:0<n)(hn':0<n')(h:m*n'*2 ^ (p - min p p').toNat<=m'*n*2 ^ (p' - min p p').toNat):quF m n p<=quF m' n' p':=by
 by_cases hm:m=0
 ·unfold quF
  rw [hm,Nat.zero_mul,show stk 0 n=0 by unfold stk;rw [Nat.zero_div,Nat.zero_mod];rfl,rg_zero];exact Nat.zero_le _
 have hm':m'≠0:=by
  intro h0;rw [h0,Nat.zero_mul,Nat.zero_mul] at h;have:0<m*n'*2 ^ (p - min p p').toNat:=Nat.mul_pos (Nat.mul_pos (by omega) hn') (Nat.two_pow_pos _);omega
 obtain ⟨T,hT⟩:∃ T:Int,T=max ((moF m n:Int) - p) ((moF m' n':Int) - p'):=⟨_,rfl⟩;have u1:=stk_up (p - moF m n - 1) hn (mo_ge (n:=n) hm) (T+p - moF m n).toNat;have u2:=stk_up (p' - moF m' n' - 1) hn' (mo_ge (n:=n') hm') (T+p' - moF m' n').toNat;unfold quF;rw [<- u1,<- u2,show p - (moF m n:Int) - 1 - ((T+p - moF m n).toNat:Int)=-T - 1 by omega,show p' - (moF m' n':Int) - 1 - ((T+p' - moF m' n').toNat:Int)=-T - 1 by omega];refine rg_mono (stk_le hn hn' ?_);obtain ⟨d,hd⟩:∃ d:Nat,(d:Int)=T+min p p':=⟨(T+min p p').toNat,by omega⟩;rw [Nat.mul_assoc m,Nat.mul_assoc m',<- Nat.pow_add,<- Nat.pow_add,show moF m n+(T+p - moF m n).toNat=(p - min p p').toNat+d by omega,show moF m' n'+(T+p' - moF m' n').toNat=(p' - min p p').toNat+d by omega,Nat.pow_add,Nat.pow_add]
 have e:∀ A B C D:Nat,A*(B*C)*D=A*D*B*C:=by
  intro A B C D;rw [Nat.mul_right_comm,<- Nat.mul_assoc]
 rw [e,e];exact Nat.mul_le_mul_right _ h
theorem mg_pos {r:Nat}(h:0<r):0<mgF r:=by unfold mgF;split <;> omega
theorem div_rung {x y:Nat}(hx:x<infF)(hy:y<infF)(h0:0<y):Ieee.double.div x y=some (min (quF (mgF x) (mgF y) ((exF x:Int) - exF y)) infF):=by
 unfold Ieee.Format.div;rw [read_rung hx,read_rung hy];unfold Ieee.Datum.quotient;have hp:=mg_pos h0;simp only [if_neg (show ¬ mgF y=0 by omega),Option.map_some,Ieee.Format.write,Bool.xor_self,Nat.shiftLeft_eq];rw [near_pos];unfold wdF quF;have e:(Ieee.double.fractionBits+2+(mgF y).log2 - (mgF x).log2)=moF (mgF x) (mgF y):=rfl;rw [e,show (-1074+(exF x:Int) - (-1074+(exF y:Int)) - (moF (mgF x) (mgF y):Int) - 1)=(exF x:Int) - exF y - moF (mgF x) (mgF y) - 1 by omega]
 rfl
theorem div_ratio {x y x' y':Nat}(hv:valF x*valF y'<=valF x'*valF y)(hx:x<infF)(hx':x'<infF)(h0:0<y)(h0':0<y')(hyi:y<infF)(hyi':y'<infF):∃ r r',Ieee.double.div x y=some r/\Ieee.double.div x' y'=some r'/\r<=r'/\r'<=infF:=by
 refine ⟨_,_,div_rung hx hyi h0,div_rung hx' hyi' h0',?_,Nat.min_le_right _ _⟩
 have h1:quF (mgF x) (mgF y) ((exF x:Int) - exF y)<=quF (mgF x') (mgF y') ((exF x':Int) - exF y'):=by
  refine qu_le (mg_pos h0) (mg_pos h0') ?_;unfold valF at hv;obtain ⟨d,hd⟩:∃ d:Nat,(d:Int)=min ((exF x:Int) - exF y) ((exF x':Int) - exF y')+exF y+exF y':=⟨(min ((exF x:Int) - exF y) ((exF x':Int) - exF y')+exF y+exF y').toNat,by omega⟩;refine Nat.le_of_mul_le_mul_right ?_ (Nat.two_pow_pos d);rw [Nat.mul_assoc,Nat.mul_assoc (mgF x'*mgF y),<- Nat.pow_add,<- Nat.pow_add,show ((exF x:Int) - exF y - min ((exF x:Int) - exF y) ((exF x':Int) - exF y')).toNat+d=exF x+exF y' by omega,show ((exF x':Int) - exF y' - min ((exF x:Int) - exF y) ((exF x':Int) - exF y')).toNat+d=exF x'+exF y by omega,Nat.pow_add,Nat.pow_add,Nat.mul_mul_mul_comm,Nat.mul_mul_mul_comm (mgF x')];exact hv
 omega
theorem div_mono {x y x' y':Nat}(hx:x<=x')(hx':x'<infF)(hy':0<y')(hy:y'<=y)(hyi:y<infF):∃ r r',Ieee.double.div x y=some r/\Ieee.double.div x' y'=some r'/\r<=r'/\r'<=infF :=
 div_ratio (Nat.mul_le_mul (val_le_iff.2 hx) (val_le_iff.2 hy)) (Nat.lt_of_le_of_lt hx hx') hx' (Nat.lt_of_lt_of_le hy' hy) hy' hyi (Nat.lt_of_le_of_lt hy hyi)
theorem int_rung {k:Nat}(hk:k<2 ^ 53):∃ r,Ieee.double.nearest false k 0=r/\r<infF/\valF r=k*2 ^ 1074/\(0<k->0<r):=by
 by_cases h0:k=0
 ·exact ⟨0,by rw [h0];decide +kernel,by unfold infF;omega,by rw [h0];decide +kernel,fun h=>absurd h (by omega)⟩
 have hl:k.log2<53:=(Nat.log2_lt h0).2 hk;have a1:2 ^ k.log2<=k:=Nat.log2_self_le h0;have a2:k<2 ^ (k.log2+1):=Nat.lt_log2_self
 have b1:2 ^ 52<=k*2 ^ (52 - k.log2):=by
  refine Nat.le_trans ?_ (Nat.mul_le_mul_right _ a1);rw [<- Nat.pow_add];exact Nat.pow_le_pow_right (by omega) (by omega)
 have b2:k*2 ^ (52 - k.log2)<2 ^ 53:=by
  refine Nat.lt_of_lt_of_le (Nat.mul_lt_mul_of_pos_right a2 (Nat.two_pow_pos _)) ?_;rw [<- Nat.pow_add];exact Nat.pow_le_pow_right (by omega) (by omega)
 obtain ⟨M,hM⟩:∃ M,M=k*2 ^ (52 - k.log2):=⟨_,rfl⟩;rw [<- hM] at b1 b2
 have hr:(k.log2+1022)*2 ^ 52+M<infF:=by
  unfold infF;have:(k.log2+1022)*2 ^ 52<=(52+1022)*2 ^ 52:=Nat.mul_le_mul_right _ (by omega);omega
 have hd:((k.log2+1022)*2 ^ 52+M) / 2 ^ 52=k.log2+1023:=by
  rw [Nat.mul_comm,Nat.mul_add_div (Nat.two_pow_pos _),show M / 2 ^ 52=1 by omega]
 have hm:((k.log2+1022)*2 ^ 52+M) % 2 ^ 52=M - 2 ^ 52:=by
  rw [Nat.mul_comm,Nat.mul_add_mod];omega
 have hge:¬ ((k.log2+1022)*2 ^ 52+M<2 ^ 52):=by omega
 have hv:valF ((k.log2+1022)*2 ^ 52+M)=k*2 ^ 1074:=by
  unfold valF mgF exF;rw [if_neg hge,if_neg hge,hd,hm,show 2 ^ 52+(M - 2 ^ 52)=M by omega,hM,Nat.mul_assoc,<- Nat.pow_add,show 52 - k.log2+(k.log2+1023 - 1)=1074 by omega]
 refine ⟨(k.log2+1022)*2 ^ 52+M,?_,hr,hv,fun _=>by omega⟩;rw [near_pos];unfold wdF;have:=rg_units k 1074;rw [show (-1074+((1074:Nat):Int))=0 from rfl] at this;rw [this,<- hv,rv_val];exact Nat.min_eq_left (Nat.le_of_lt hr)
def inF (k:Nat):Nat:=Ieee.double.nearest false k 0
theorem in_lt {k:Nat}(hk:k<2 ^ 53):inF k<infF:=by obtain ⟨r,h1,h2,h3,h4⟩:=int_rung hk;unfold inF;rw [h1];exact h2
theorem in_val {k:Nat}(hk:k<2 ^ 53):valF (inF k)=k*2 ^ 1074:=by obtain ⟨r,h1,h2,h3,h4⟩:=int_rung hk;unfold inF;rw [h1];exact h3
theorem in_pos {k:Nat}(hk:k<2 ^ 53)(h:0<k):0<inF k:=by obtain ⟨r,h1,h2,h3,h4⟩:=int_rung hk;unfold inF;rw [h1];exact h4 h
theorem floatOf_nat (k:Nat):floatOfInt .f64 (k:Int)=inF k:=by
 show Ieee.double.write (.number (decide ((k:Int)<0)) (k:Int).natAbs 0)=inF k
 rw [decide_eq_false (by omega),Int.natAbs_natCast]
 rfl
theorem cut_zero (s:Bool)(n d:Nat):Ieee.Toward.zero.cut s n d=n / 2 ^ d:=by
 unfold Ieee.Toward.cut;simp only [Nat.one_shiftLeft,Bool.toNat_false,Nat.add_zero];rcases Nat.le_total d (n.log2+2) with h | h
 ·rw [Nat.min_eq_left h]
 ·rw [Nat.min_eq_right h]
  have h3:n<2 ^ (n.log2+1):=Nat.lt_log2_self;have h4:2 ^ (n.log2+2)=2*2 ^ (n.log2+1):=by rw [Nat.pow_succ' (n:=n.log2+1)]
  have h5:2 ^ (n.log2+2)<=2 ^ d:=Nat.pow_le_pow_right (by omega) h;rw [Nat.div_eq_of_lt (by omega),Nat.div_eq_of_lt (by omega)]
theorem pow_split (a b c:Nat)(h:a=b+c):2 ^ a=2 ^ b*2 ^ c:=by rw [h,Nat.pow_add]
theorem toInt_rung {r:Nat}(h:r<infF):(FloatKind.f64.decode r).toInt .zero=some ((valF r / 2 ^ 1074:Nat):Int):=by
 show (Ieee.double.read r).toInt .zero=_
 rw [read_rung h];unfold Ieee.Datum.toInt Ieee.Datum.integral;simp only [cut_zero,Nat.shiftLeft_eq];unfold Ieee.signed;simp only [Bool.false_eq_true,if_false,Nat.shiftLeft_eq,Nat.pow_zero,Nat.mul_one]
 congr 2
 unfold valF;rcases Nat.le_total (exF r) 1074 with h1 | h1
 ·rw [show (-1074+(exF r:Int)).toNat=0 by omega,show (-(-1074+(exF r:Int))).toNat=1074 - exF r by omega,Nat.pow_zero,Nat.mul_one]
  have e:2 ^ 1074=2 ^ (1074 - exF r)*2 ^ exF r:=by rw [<- Nat.pow_add];congr 1;omega
  rw [e,Nat.mul_div_mul_right _ _ (Nat.two_pow_pos _)]
 ·rw [show (-1074+(exF r:Int)).toNat=exF r - 1074 by omega,show (-(-1074+(exF r:Int))).toNat=0 by omega,Nat.pow_zero,Nat.div_one]
  have e:=pow_split (exF r) (exF r - 1074) 1074 (by omega);have hp:0<2 ^ 1074:=Nat.two_pow_pos 1074;rw [e,<- Nat.mul_assoc,Nat.mul_div_cancel _ hp]
theorem root_ge (n:Nat):∀ t r,r<=Ieee.Datum.rootFrom n t r:=by
 intro t
 induction t with
 | zero=>intro r;exact Nat.le_refl r
 | succ t ih =>
  intro r;unfold Ieee.Datum.rootFrom;simp only
  split
  ·exact Nat.le_trans (Nat.le_add_right _ _) (ih _)
  ·exact ih r
theorem root_one {n:Nat}(hn:1<=n):∀ t,1<=Ieee.Datum.rootFrom n (t+1) 0:=by
 intro t
 induction t with
 | zero =>
  unfold Ieee.Datum.rootFrom;simp only;rw [if_pos (by rw [Nat.zero_add,Nat.shiftLeft_zero,Nat.mul_one];exact hn)];exact Nat.le_trans (by rw [Nat.zero_add,Nat.shiftLeft_zero];omega) (root_ge n 0 _)
 | succ t ih =>
  unfold Ieee.Datum.rootFrom;simp only
  split
  ·refine Nat.le_trans ?_ (root_ge n (t+1) _)
   rw [Nat.one_shiftLeft,Nat.zero_add];exact Nat.two_pow_pos _
  ·exact ih
def lowF:Nat:=(1023 - 600)*2 ^ 52
theorem sqrt_zero:Ieee.double.sqrt 0=some 0:=by decide +kernel
theorem low_eq:rgF 1 (-600)=lowF:=by decide +kernel
theorem low_lt:lowF<infF:=by decide +kernel
theorem sqrt_pos {x:Nat}(h0:0<x)(h:x<infF):∃ r,Ieee.double.sqrt x=some r/\lowF<=r/\r<=infF:=by
 unfold Ieee.Format.sqrt;rw [read_rung h];unfold Ieee.Datum.root;have hm:=mg_pos h0;simp only [if_neg (show ¬ mgF x=0 by omega),Bool.false_eq_true,if_false,Option.map_some,Ieee.Format.write,Nat.shiftLeft_eq];refine ⟨_,rfl,?_⟩;rw [near_pos];refine ⟨?_,wd_le _ _⟩;unfold wdF;refine Nat.le_min.2 ⟨?_,Nat.le_of_lt low_lt⟩;rw [<- low_eq];obtain ⟨M,hM⟩:∃ M:Nat,M=2*(Ieee.double.fractionBits+2) - (mgF x).log2:=⟨_,rfl⟩;have hMle:M<=108:=by rw [hM];exact Nat.sub_le _ _
 rw [<- hM];obtain ⟨K,hK⟩:∃ K:Nat,K=M+((-1074+(exF x:Int) - M) % 2).toNat:=⟨_,rfl⟩;rw [<- hK];obtain ⟨n,hn⟩:∃ n,n=mgF x*2 ^ K:=⟨_,rfl⟩;rw [<- hn];have hn1:1<=n:=by rw [hn];exact Nat.mul_pos hm (Nat.two_pow_pos _)
 have hw:=root_one hn1 (n.log2 / 2);generalize Ieee.Datum.rootFrom n (n.log2 / 2+1) 0=w at *;refine rg_le ?_;unfold LeF;have hpl:-600<=(-1074+(exF x:Int) - K) / 2 - 1:=by omega
 generalize (-1074+(exF x:Int) - K) / 2 - 1=p at *;rw [show (-600 - min (-600) p).toNat=0 by omega,Nat.pow_zero,Nat.mul_one];exact Nat.mul_pos (by omega) (Nat.two_pow_pos _)
theorem inf_div (k:Nat)(hk:k<infF):Ieee.double.div infF k=some infF:=by
 unfold Ieee.Format.div;rw [read_inf,read_rung hk];exact congrArg some (by decide +kernel)
theorem low_div:∃ r,Ieee.double.div lowF (inF 4092)=some r/\0<r:=by
 have h:((Ieee.double.div lowF (inF 4092)).map (fun r=>decide (0<r)))=some true:=by decide +kernel
 rcases hd:Ieee.double.div lowF (inF 4092) with _ | r
 ·rw [hd] at h;cases h
 ·rw [hd] at h;exact ⟨r,rfl,of_decide_eq_true (Option.some.inj h)⟩
def uF:Nat:=2 ^ 1074
theorem u_pos:0<uF:=by rw [uF];exact Nat.two_pow_pos 1074
theorem in_valU {k:Nat}(hk:k<2 ^ 53):valF (inF k)=k*uF:=by rw [in_val hk,uF]
theorem val_oneU:valF oneF=uF:=by rw [val_one,uF]
theorem some_getD {o:Option Nat}{x:Nat}(h:o=some x):o.getD 0=x:=by rw [h,Option.getD_some]
def quW (a b:Nat):Nat:=(Ieee.double.div (inF a) (inF b)).getD 0
theorem qu_some {a b:Nat}(ha:a<2 ^ 53)(hb:b<2 ^ 53)(h0:0<b):Ieee.double.div (inF a) (inF b)=some (quW a b)/\quW a b<=infF:=by
 obtain ⟨r,r',h1,_,h3,h4⟩:=div_mono (Nat.le_refl (inF a)) (in_lt ha) (in_pos hb h0) (Nat.le_refl _) (in_lt hb);unfold quW;rw [h1];exact ⟨rfl,Nat.le_trans h3 h4⟩
theorem qu_ratio {a b c d:Nat}(ha:a<2 ^ 53)(hb:b<2 ^ 53)(hc:c<2 ^ 53)(hd:d<2 ^ 53)(hb0:0<b)(hd0:0<d)(h:a*d<=c*b):quW a b<=quW c d:=by
 obtain ⟨r,r',h1,h2,h3,h4⟩:=div_ratio (x:=inF a) (y:=inF b) (x':=inF c) (y':=inF d) (by
  rw [in_valU ha,in_valU hb,in_valU hc,in_valU hd,Nat.mul_mul_mul_comm,Nat.mul_mul_mul_comm c];exact Nat.mul_le_mul_right _ h) (in_lt ha) (in_lt hc) (in_pos hb hb0) (in_pos hd hd0) (in_lt hb) (in_lt hd)
 unfold quW;rw [h1,h2];exact h3
theorem qu_zero {b:Nat}(hb:b<2 ^ 53)(h0:0<b):quW 0 b=0:=by
 have h1:=div_rung (x:=inF 0) (y:=inF b) (in_lt (by decide)) (in_lt hb) (in_pos hb h0);have h2:mgF (inF 0)=0:=by decide +kernel
 unfold quW;rw [h1,h2];unfold quF;rw [Nat.zero_mul,show stk 0 (mgF (inF b))=0 by unfold stk;rw [Nat.zero_div,Nat.zero_mod];rfl,rg_zero];exact Nat.zero_min _
theorem qu_low:0<quW 1 (2 ^ 52):=by decide +kernel
theorem qu_pos {a b:Nat}(ha:a<2 ^ 53)(hb:b<=2 ^ 52)(h0:0<b)(h1:0<a):0<quW a b:=by
 exact Nat.lt_of_lt_of_le qu_low (qu_ratio (by decide) (by decide) ha (by omega) (by decide) h0 (by
  have:=Nat.mul_le_mul_right (2 ^ 52) h1;omega))
def rtW (q:Nat):Nat:=(Ieee.double.sqrt q).getD 0
theorem sqrt_inf:Ieee.double.sqrt infF=some infF:=by
 unfold Ieee.Format.sqrt;rw [read_inf];exact congrArg some (by decide +kernel)
theorem rt_some {q:Nat}(h:q<=infF):Ieee.double.sqrt q=some (rtW q)/\rtW q<=infF/\(q=0->rtW q=0)/\(0<q->lowF<=rtW q):=by
 unfold rtW;rcases Nat.lt_or_eq_of_le h with h1 | rfl
 ·by_cases h0:q=0
  ·rw [h0,sqrt_zero]
   exact ⟨rfl,Nat.zero_le _,fun _=>rfl,fun h=>absurd h (by decide)⟩
  ·obtain ⟨r,e1,e2,e3⟩:=sqrt_pos (Nat.pos_of_ne_zero h0) h1
   rw [e1];exact ⟨rfl,e3,fun e=>absurd e h0,fun _=>e2⟩
 ·rw [sqrt_inf]
  exact ⟨rfl,Nat.le_refl _,fun e=>absurd e (by decide),fun _=>Nat.le_of_lt low_lt⟩
def shW (r:Nat):Nat:=(Ieee.double.div r (inF 4092)).getD 0
theorem sh_some {r:Nat}(h:r<=infF):Ieee.double.div r (inF 4092)=some (shW r)/\shW r<=infF/\(r=0->shW r=0)/\(lowF<=r->0<shW r):=by
 have hb:(4092:Nat)<2 ^ 53:=by decide
 rcases Nat.lt_or_eq_of_le h with h1 | rfl
 ·obtain ⟨q,q',e1,_,e3,e4⟩:=div_mono (Nat.le_refl r) h1 (in_pos hb (by decide)) (Nat.le_refl _) (in_lt hb)
  have hs:shW r=q:=some_getD e1;refine ⟨by rw [e1,hs],by rw [hs];exact Nat.le_trans e3 e4,fun e=>?_,fun e=>?_⟩
  ·have:=qu_zero hb (by decide)
   rw [e];have h0:inF 0=0:=by decide +kernel
   unfold quW at this;rw [h0] at this;exact this
  ·obtain ⟨l,hl,hl0⟩:=low_div
   obtain ⟨a,b,f1,f2,f3,_⟩:=div_mono e h1 (in_pos hb (by decide)) (Nat.le_refl _) (in_lt hb);rw [hl] at f1;rw [e1] at f2;rw [hs,Option.some.inj f2,];exact Nat.lt_of_lt_of_le (by rw [<- Option.some.inj f1];exact hl0) f3
 ·have e:=inf_div (inF 4092) (in_lt hb)
  have hs:shW infF=infF:=some_getD e;rw [hs];exact ⟨e,Nat.le_refl _,fun e=>absurd e (by decide),fun _=>by decide⟩
theorem sh_in (k:Nat):shW (inF k)=quW k 4092:=rfl
def spW (S N:Nat):Nat:=shW (rtW (quW S N))
theorem sp_zero {S N:Nat}(hS:S<2 ^ 53)(hN:N<=2 ^ 52)(h0:0<N):(spW S N=0↔S=0)/\spW S N<=infF:=by
 obtain ⟨a1,a2⟩:=qu_some hS (show N<2 ^ 53 by omega) h0;obtain ⟨b1,b2,b3,b4⟩:=rt_some a2;obtain ⟨c1,c2,c3,c4⟩:=sh_some b2;refine ⟨⟨fun h=>?_,fun h=>?_⟩,c2⟩
 ·rcases Nat.eq_zero_or_pos S with e | e
  ·exact e
  ·have:=c4 (b4 (qu_pos hS hN h0 e))
   unfold spW at h;omega
 ·refine c3 (b3 ?_)
  rw [h];exact qu_zero (by omega) h0
def negF:Nat:=2 ^ 63
def ShF (q:Nat):Prop:=q<=oneF∨q=negF
theorem one_lt:oneF<infF:=by decide +kernel
theorem read_neg:Ieee.double.read negF=.number true 0 (-1074):=by decide +kernel
theorem neg_mul {y:Nat}(hy:y<infF):Ieee.double.mul negF y=some negF:=by
 unfold Ieee.Format.mul;rw [read_neg,read_rung hy];unfold Ieee.Datum.product;simp only [Option.map_some,Ieee.Format.write,Nat.zero_mul,Bool.xor_false];unfold Ieee.Format.nearest;rw [if_pos rfl];exact congrArg some (by decide +kernel)
theorem neg_sub:Ieee.double.sub negF 0=some negF:=by decide +kernel
theorem neg_int:(FloatKind.f64.decode negF).toInt .zero=some 0:=by decide +kernel
theorem add_neg {x:Nat}(hx:x<infF):Ieee.double.add x negF=some x:=by
 unfold Ieee.Format.add;rw [read_neg,read_rung hx];unfold Ieee.Datum.sum Ieee.signed;simp only [Nat.shiftLeft_eq,Bool.false_eq_true,if_false,if_true,Nat.zero_mul,Option.map_some,Ieee.Format.write];have hm:min (-1074+(exF x:Int)) (-1074)=-1074:=by omega
 rw [hm,show (-1074+(exF x:Int) - -1074).toNat=exF x by omega];have e:((mgF x*2 ^ exF x:Nat):Int)+-((0:Nat):Int)=((valF x:Nat):Int):=by show _=((mgF x*2 ^ exF x:Nat):Int);omega
 rw [e]
 have e1:(if ((valF x:Nat):Int)=0 then (false && true) else decide (((valF x:Nat):Int)<0))=false:=by
  split
  ·rfl
  ·exact decide_eq_false (by omega)
 rw [e1,Int.natAbs_natCast,near_pos];unfold wdF;have:=rv_val x;unfold rvF at this;rw [this,Nat.min_eq_left (Nat.le_of_lt hx)]
def ppW (q L:Nat):Nat:=(Ieee.double.mul q (inF L)).getD 0
def ipW (q L:Nat):Nat:=if q<=oneF then valF (ppW q L) / uF else 0
def ffW (q L:Nat):Nat:=(Ieee.double.sub (ppW q L) (inF (ipW q L))).getD 0
def ggW (q L d:Nat):Nat:=(Ieee.double.mul (ffW q L) (inF d)).getD 0
def hhW (q L d s:Nat):Nat:=(Ieee.double.add (inF s) (ggW q L d)).getD 0
theorem pp_some {q L:Nat}(hq:q<=oneF)(hL:L<2 ^ 53):Ieee.double.mul q (inF L)=some (ppW q L)/\ppW q L<=inF L/\ipW q L<=L/\ipW q L*uF<=valF (ppW q L)/\valF (ppW q L)<(ipW q L+1)*uF:=by
 have h1:=mul_rung (x:=q) (y:=inF L) (Nat.lt_of_le_of_lt hq one_lt) (in_lt hL);have h2:ppW q L=wdF (mgF q*mgF (inF L)) (-1074+(exF q:Int)+(-1074+(exF (inF L):Int))):=some_getD h1;have h3:ppW q L<=inF L:=by rw [h2];exact mul_share hq (in_lt hL)
 have h4:=val_le_iff.2 h3;rw [in_valU hL] at h4;have h5:ipW q L=valF (ppW q L) / uF:=if_pos hq;refine ⟨by rw [h1,h2],h3,?_,?_,?_⟩
 ·rw [h5];exact Nat.div_le_of_le_mul (by rw [Nat.mul_comm];exact h4)
 ·rw [h5];exact Nat.div_mul_le_self _ _
 ·rw [h5]
  have:=Nat.lt_mul_div_succ (valF (ppW q L)) u_pos;rw [Nat.mul_comm] at this;exact this
theorem ff_some {q L:Nat}(hq:q<=oneF)(hL:L<2 ^ 53):Ieee.double.sub (ppW q L) (inF (ipW q L))=some (ffW q L)/\ffW q L=min (rvF (valF (ppW q L) - ipW q L*uF)) infF/\ffW q L<=oneF:=by
 obtain ⟨_,h2,h3,h4,h5⟩:=pp_some hq hL;have hi:ipW q L<2 ^ 53:=by omega
 have hle:inF (ipW q L)<=ppW q L:=by rw [<- val_le_iff,in_valU hi];exact h4
 have h6:=sub_rung (x:=ppW q L) (y:=inF (ipW q L)) (Nat.lt_of_le_of_lt h2 (in_lt hL)) hle;rw [in_valU hi] at h6;have h7:ffW q L=min (rvF (valF (ppW q L) - ipW q L*uF)) infF:=some_getD h6;refine ⟨by rw [h6,h7],h7,?_⟩;rw [h7];refine Nat.le_trans (Nat.min_le_left _ _) (rv_le ?_);rw [val_oneU];rw [Nat.add_mul,Nat.one_mul] at h5;exact Nat.sub_le_of_le_add (by rw [Nat.add_comm];exact Nat.le_of_lt h5)
theorem gg_some {q L d:Nat}(hq:q<=oneF)(hL:L<2 ^ 53)(hd:d<2 ^ 53):Ieee.double.mul (ffW q L) (inF d)=some (ggW q L d)/\ggW q L d=wdF (mgF (ffW q L)*mgF (inF d)) (-1074+(exF (ffW q L):Int)+(-1074+(exF (inF d):Int)))/\ggW q L d<=inF d:=by
 obtain ⟨_,_,h3⟩:=ff_some hq hL;have h1:=mul_rung (x:=ffW q L) (y:=inF d) (Nat.lt_of_le_of_lt h3 one_lt) (in_lt hd);have h2:ggW q L d=wdF (mgF (ffW q L)*mgF (inF d)) (-1074+(exF (ffW q L):Int)+(-1074+(exF (inF d):Int))):=some_getD h1;exact ⟨by rw [h1,h2],h2,by rw [h2];exact mul_share h3 (in_lt hd)⟩
theorem hh_some {q L d s:Nat}(hq:q<=oneF)(hL:L<2 ^ 53)(hd:d<2 ^ 52)(hs:s<2 ^ 52):Ieee.double.add (inF s) (ggW q L d)=some (hhW q L d s)/\hhW q L d s=min (rvF (s*uF+valF (ggW q L d))) infF/\inF s<=hhW q L d s/\hhW q L d s<=inF (s+d)/\hhW q L d s<infF:=by
 obtain ⟨_,_,h3⟩:=gg_some hq hL (show d<2 ^ 53 by omega);have hs2:s<2 ^ 53:=by omega
 have hd2:d<2 ^ 53:=by omega
 have hsd:s+d<2 ^ 53:=by omega
 have h1:=add_rung (x:=inF s) (y:=ggW q L d) (in_lt hs2) (Nat.lt_of_le_of_lt h3 (in_lt hd2));rw [in_valU hs2] at h1;have h2:hhW q L d s=min (rvF (s*uF+valF (ggW q L d))) infF:=some_getD h1;have h4:inF s<=rvF (s*uF+valF (ggW q L d)):=le_rv (by rw [in_valU hs2];exact Nat.le_add_right _ _)
 have h5:rvF (s*uF+valF (ggW q L d))<=inF (s+d):=rv_le (by
  rw [in_valU hsd,Nat.add_mul];have:=val_le_iff.2 h3;rw [in_valU hd2] at this;exact Nat.add_le_add_left this _)
 have h6:=in_lt hsd;have h7:=in_lt hs2;refine ⟨by rw [h1,h2],h2,?_,?_,?_⟩ <;> rw [h2]
 ·exact Nat.le_min.2 ⟨h4,Nat.le_of_lt h7⟩
 ·exact Nat.le_trans (Nat.min_le_left _ _) h5
 ·exact Nat.lt_of_le_of_lt (Nat.min_le_left _ _) (Nat.lt_of_le_of_lt h5 h6)
def qqW (S:Nat->Nat)(q L:Nat):Nat:=if ipW q L=L then inF (S L) else hhW q L (S (ipW q L+1) - S (ipW q L)) (S (ipW q L))
end Go.Proofs.YteaahinjcfjngaaGreat
