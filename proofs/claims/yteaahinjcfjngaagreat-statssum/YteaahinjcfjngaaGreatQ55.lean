import Derived.Test.YteaahinjcfjngaaGreatQ10
set_option maxRecDepth 100000
set_option maxHeartbeats 1000000
namespace Go.Proofs.YteaahinjcfjngaaGreat
open Go.RowKit
theorem refVLen_any (x:Nat)(w:World)(hx:x<18446744073709551616) :
  Calls Tryz.prog 83 #[.int .u64 x] w fun e w'=>e=.returned (.int .i64 ((vform x).length:Nat))/\w'=w:=by
 have hvl:=vform_le x;go_enter Tryz.func83,Tryz.ntmps83;go_wp2;go_loopw [0,3] (fun sx sn wr=>∃ (f y c:Nat),1<=f/\y<2*128 ^ (f - 1)/\sx=.int .u64 y/\y<18446744073709551616/\sn=.int .i64 c/\c+(lf f y).length=(vform x).length+1/\wr=w) (fun sx _ _=>(intOf sx).toNat)
 case atStart=>exact ⟨10,x,1,by omega,by simp;omega,rfl,hx,rfl,Nat.add_comm _ _,rfl⟩
 case round =>
  obtain ⟨f,y,c,hf1,hy,rfl,hy64,rfl,hc,rfl⟩:=hrel;obtain ⟨f',rfl⟩:∃ f',f=f'+1:=⟨f - 1,by omega⟩;have HC:Hid (c+(lf (f'+1) y).length=(vform x).length+1):=hc;have hcb:c<=11:=by omega
  have HY:Hid (y<2*128 ^ (f'+1 - 1)):=hy;clear hc hy
  by_cases hlt:y<128
  ·have hfin:c=(vform x).length:=by have:=HC.out;rw [lf_small f' y hlt] at this;simp at this;omega
   have HF:Hid (c=(vform x).length):=hfin;clear hfin;go_wp2;go_ret;rw [<- HF.out];exact ⟨rfl,rfl⟩
  ·have h1:=HC.out
   have hy:=HY.out;rw [lf_big f' y hlt,List.length_cons] at h1
   have hf':1<=f':=by
    rcases Nat.eq_zero_or_pos f' with h | h
    ·subst h;simp at hy;omega
    ·exact h
   have hy2:y / 128<2*128 ^ (f' - 1):=by
    rw [Nat.add_sub_cancel,show f'=(f' - 1)+1 by omega,Nat.pow_succ] at hy;omega
   have HC2:Hid ((c+1)+(lf f' (y / 128)).length=(vform x).length+1):=by show _=_;omega
   have HY2:Hid (y / 128<2*128 ^ (f' - 1)):=hy2;clear h1 hy hy2 HC HY;go_wp2;go_roundw
   case rel=>exact ⟨f',y / 128,c+1,hf',HY2.out,by go_num,by omega,by go_num,HC2.out,trivial⟩
   case measure=>simp [intOf];omega
end Go.Proofs.YteaahinjcfjngaaGreat
