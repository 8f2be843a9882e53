import Derived.Test.YteaahinjcfjngaaGreatQ1
import Derived.Lib.BitFns
import Derived.Lib.ItoaNum
import Derived.Test.YteaahinjcfjngaaGreatRows
import Derived.Test.YteaahinjcfjngaaGreatQ6
set_option maxRecDepth 100000
set_option maxHeartbeats 1000000
namespace Go.Proofs.YteaahinjcfjngaaGreat
open Go.RowKit
theorem tab_size:(Lib.len8tab.size:Int)=256:=by decide +kernel
theorem tab_fin:∀ i:Fin Lib.len8tab.size,Lib.len8tab[i.val].toNat=Lib.bitLen i.val/\Lib.bitLen i.val<=8:=by decide +kernel
theorem tab_at (i:Nat)(h:i<Lib.len8tab.size):Lib.len8tab[i].toNat=Lib.bitLen i/\Lib.bitLen i<=8:=tab_fin ⟨i,h⟩
theorem way_end (k p:Nat)(x:Int)(i:Nat)(h:i<Lib.len8tab.size)(hp:p=2 ^ k)(h0:0<=x)(h1:x<=18446744073709551615)(hk:k<=56)(hlo:p<=x.toNat)(hi:i=x.toNat / p) :
  wrap64 ((k:Int)+wrap64 (Lib.len8tab[i].toNat:Int))=(Lib.bitLen x.toNat:Int):=by
 obtain ⟨e,l⟩:=tab_at i h;rw [e]
 have hb:Lib.bitLen x.toNat=k+Lib.bitLen i:=by
  rw [hi,hp];exact Lib.bitLen_shift k x.toNat (by omega) (by omega)
 rw [IntWalk.wrap64_in (Lib.bitLen i:Int) ⟨by omega,by omega⟩,IntWalk.wrap64_in _ ⟨by omega,by omega⟩,hb];omega
theorem way_end0 (x:Int)(h:x.toNat<Lib.len8tab.size):wrap64 (wrap64 (Lib.len8tab[x.toNat].toNat:Int))=(Lib.bitLen x.toNat:Int):=by
 obtain ⟨e,l⟩:=tab_at x.toNat h;rw [e,IntWalk.wrap64_in (Lib.bitLen x.toNat:Int) ⟨by omega,by omega⟩,IntWalk.wrap64_in _ ⟨by omega,by omega⟩]
theorem len64_any (x:Int)(w:World)(h0:0<=x)(h1:x<=18446744073709551615) :
  Calls Tryz.prog 100 #[.int .u64 x] w fun e w'=>e=.returned (.int .i64 (Lib.bitLen x.toNat))/\w'=w:=by
 have hts:=tab_size;go_enter Tryz.func100,Tryz.ntmps100;go_wp2
 all_goals (go_ret;refine ⟨congrArg Ending.returned (congrArg (Value.int IntKind.i64) ?_),rfl⟩)
 ·exact way_end 56 72057594037927936 x _ _ rfl h0 h1 (by omega) (by omega) (by omega)
 ·exact way_end 48 281474976710656 x _ _ rfl h0 h1 (by omega) (by omega) (by omega)
 ·exact way_end 40 1099511627776 x _ _ rfl h0 h1 (by omega) (by omega) (by omega)
 ·exact way_end 32 4294967296 x _ _ rfl h0 h1 (by omega) (by omega) (by omega)
 ·exact way_end 24 16777216 x _ _ rfl h0 h1 (by omega) (by omega) (by omega)
 ·exact way_end 16 65536 x _ _ rfl h0 h1 (by omega) (by omega) (by omega)
 ·exact way_end 8 256 x _ _ rfl h0 h1 (by omega) (by omega) (by omega)
 ·exact way_end0 x _
theorem or_u64_one (x:Nat)(h:x<18446744073709551616):bits BinOp.or IntKind.u64 (x:Int) 1=((x ||| 1:Nat):Int):=by
 have:=u64_or_nat x 1 h (by omega);simpa using this
theorem vlen_calls (x:Nat)(w:World)(h1:x<18446744073709551616):Calls Tryz.prog 116 #[.int .u64 x] w fun e w'=>e=.returned (.int .i64 ((vform x).length:Nat))/\w'=w:=by
 obtain ⟨hv,hl⟩:=vlen_formula x h1;have h64:x ||| 1<2 ^ 64:=Nat.or_lt_two_pow (by omega) (by omega)
 have HV:Hid ((Lib.bitLen (x ||| 1)+6) / 7=(vform x).length):=hv;clear hv;go_enter Tryz.func116,Tryz.ntmps116
 go_wp2_with fail
 rw [or_u64_one x h1];generalize x ||| 1=y at *
 refine (len64_any _ _ (by omega) (by omega)).mono ?_;rintro e w' ⟨rfl,rfl⟩;rw [Int.toNat_natCast];generalize Lib.bitLen y=L at *;go_wp2;go_ret;refine ⟨congrArg Ending.returned (congrArg (Value.int IntKind.i64) ?_),rfl⟩;rw [<- HV.out];omega
structure Qt (w w':World):Prop where
 os:w'.os=w.os
 tape:w'.tape=w.tape
 output:w'.output=w.output
 heap:w'.heap=w.heap
theorem Qt.refl (w:World):Qt w w:=⟨rfl,rfl,rfl,rfl⟩
theorem Qt.drew {w w':World}(h:Qt w w'):Qt w w'.drew:=⟨h.os,h.tape,h.output,h.heap⟩
theorem Qt.trans {a b c:World}(h:Qt a b)(k:Qt b c):Qt a c:=⟨k.os.trans h.os,k.tape.trans h.tape,k.output.trans h.output,k.heap.trans h.heap⟩
theorem Qt.grown {w w':World}(h:Qt w w')(row:Option Nat):w.grownBy w' row:=⟨h.os,h.tape,h.output,by rw [h.heap];exact Nat.le_refl _,fun _ _ _=>by rw [h.heap]⟩
theorem Qt.cell {w w':World}(h:Qt w w')(a:Addr):w'.cell? a=w.cell? a:=World.cell?_of_block (by rw [h.heap])
theorem gZq {a b c:World}{row:Option Nat}(h:a.grownBy b row)(k:b.grownBy c row):a.grownBy c row :=
 ⟨k.os.trans h.os,k.tape.trans h.tape,k.output.trans h.output,Nat.le_trans h.size k.size,fun i hi hne=>(k.block i (Nat.lt_of_lt_of_le hi h.size) hne).trans (h.block i hi hne)⟩
theorem grown_any {a b:World}{row:Option Nat}(h:a.grownBy b none):a.grownBy b row:=⟨h.os,h.tape,h.output,h.size,fun i hi _=>h.block i hi (by simp)⟩
theorem Qt.drewN (w:World)(n:Nat):Qt w (w.drewN n):=⟨rfl,rfl,rfl,rfl⟩
theorem pow7i (z:Int)(i:Nat)(hz:0<=z):z*2 ^ (7*i)=((z.toNat*128 ^ i:Nat):Int):=by
 have e:(2:Nat) ^ (7*i)=128 ^ i:=by rw [Nat.pow_mul]
 have e2:(2:Int) ^ (7*i)=((128 ^ i:Nat):Int):=by rw [<- e];simp
 rw [e2,Int.natCast_mul,Int.toNat_of_nonneg hz]
theorem or_place (a i:Nat)(z:Int)(hz:0<=z)(ha:a<128 ^ i)(hb:z.toNat*128 ^ i<18446744073709551616)(ha64:a<18446744073709551616) :
  bits BinOp.or IntKind.u64 (a:Int) (z*2 ^ (7*i))=((a+z.toNat*128 ^ i:Nat):Int):=by
 rw [pow7i z i hz,u64_or_nat a _ ha64 hb,Nat.or_comm,nat_join (7*i) _ _ ?_ ?_,Nat.add_comm]
 ·rw [Nat.pow_mul];exact Nat.mul_mod_left _ _
 ·rw [Nat.pow_mul];exact ha
theorem or_shift (a i:Nat)(z:Int)(hz:0<=z)(ha:a<128 ^ i)(hb:z.toNat*128 ^ i<18446744073709551616)(ha64:a<18446744073709551616) :
  bits BinOp.or IntKind.u64 (a:Int) (IntKind.u64.wrap (z*2 ^ (7*i)))=((a+z.toNat*128 ^ i:Nat):Int):=by
 rw [IntKind.wrap_u64];have h1:z*2 ^ (7*i) % 18446744073709551616=z*2 ^ (7*i):=by rw [pow7i z i hz];omega
 rw [h1];exact or_place a i z hz ha hb ha64
theorem pow_le_9 (i:Nat)(hi:i<=9):128 ^ i<=9223372036854775808:=by
 have:128 ^ i<=128 ^ 9:=Nat.pow_le_pow_right (by omega) hi;omega
theorem pow_le_8 (i:Nat)(hi:i<=8):128 ^ i<=72057594037927936:=by
 have:128 ^ i<=128 ^ 8:=Nat.pow_le_pow_right (by omega) hi;omega
theorem mul_small (z:Int)(i:Nat)(hi:i<=8)(hz:z<=127):z.toNat*128 ^ i<18446744073709551616:=by
 have h:=pow_le_8 i hi;have:z.toNat*128 ^ i<=127*128 ^ i:=Nat.mul_le_mul_right _ (by omega);omega
theorem drop_at {zs:List Int}{k:Nat}(h:k<zs.length):zs.drop k=zs.getD k 0::zs.drop (k+1):=by
 rw [List.drop_eq_getElem_cons h];simp [List.getD,List.getElem?_eq_getElem h]
theorem scan_more {zs:List Int}{k a:Nat}{z:Int}(hk:k<10)(hl:k<zs.length)(hz:z=zs.getD k 0)(h128:¬ z<128)(h:scan (10 - k) k a (zs.drop k)=rv zs) :
  scan (10 - (k+1)) (k+1) (a+(z - 128).toNat*128 ^ k) (zs.drop (k+1))=rv zs:=by
 rw [<- h,drop_at hl,<- hz,show 10 - k=(9 - k)+1 by omega,scan,if_neg h128,show 10 - (k+1)=9 - k by omega]
def LeastRel (zs:List Int)(M:Nat)(w:World)(sx si:Value)(wr:World):Prop :=
 ∃ (k:Nat) (X:Int),k<=M/\si=.int .i64 k/\sx=.int .u64 X/\wr=w/\(k<10->∃ a:Nat,X=(a:Int)/\a<128 ^ k/\scan (10 - k) k a (zs.drop k)=rv zs)/\(k=10->rv zs=(0,0,12))
theorem LeastRel.start (zs:List Int)(M:Nat)(w:World):LeastRel zs M w (.int .u64 0) (.int .i64 0) w :=
 ⟨0,0,Nat.zero_le _,rfl,rfl,rfl,fun _=>⟨0,rfl,by simp,rfl⟩,fun h=>by omega⟩
theorem LeastRel.next {zs:List Int}{M k a:Nat}{z:Int}{w:World}(hk:k<M)(hM:M<=10)(hl:k<zs.length)(hz:z=zs.getD k 0)(hz1:z<=255)(h128:¬ z<128)(ha:a<128 ^ k)(h:scan (10 - k) k a (zs.drop k)=rv zs)
  (X':Int) (hX:X'=bits BinOp.or IntKind.u64 (a:Int) (IntKind.u64.wrap ((z - 128)*2 ^ (7*k)))) (I:Int) (hI:I=(k:Int)+1):LeastRel zs M w (.int .u64 X') (.int .i64 I) w:=by
 have hm:=scan_more (by omega) hl hz h128 h;have ha64:a<18446744073709551616:=by have:=pow_le_9 k (by omega);omega
 subst hX hI;refine ⟨k+1,_,by omega,by go_num,rfl,rfl,fun hk1=>⟨a+(z - 128).toNat*128 ^ k,?_,?_,hm⟩,fun hk1=>?_⟩
 ·exact or_shift a k (z - 128) (by omega) ha (mul_small (z - 128) k (by omega) (by omega)) ha64
 ·have:(z - 128).toNat*128 ^ k<=127*128 ^ k:=Nat.mul_le_mul_right _ (by omega)
  rw [Nat.pow_succ];omega
 ·rw [<- hm,hk1];rfl
theorem pow8i (z:Int)(i:Nat)(hz:0<=z):z*2 ^ (8*i)=((z.toNat*256 ^ i:Nat):Int):=by
 have e:(2:Nat) ^ (8*i)=256 ^ i:=by rw [Nat.pow_mul]
 have e2:(2:Int) ^ (8*i)=((256 ^ i:Nat):Int):=by rw [<- e];simp
 rw [e2,Int.natCast_mul,Int.toNat_of_nonneg hz]
theorem or_byte (a i:Nat)(z:Int)(hz:0<=z)(hz1:z<=255)(hi:i<=7)(ha:a<256 ^ i) :
  bits BinOp.or IntKind.u64 (a:Int) (IntKind.u64.wrap (z*2 ^ (8*i)))=((a+z.toNat*256 ^ i:Nat):Int):=by
 have hp:256 ^ i<=256 ^ 7:=Nat.pow_le_pow_right (by omega) hi;have hb:z.toNat*256 ^ i<=255*256 ^ i:=Nat.mul_le_mul_right _ (by omega);have h1:z*2 ^ (8*i) % 18446744073709551616=z*2 ^ (8*i):=by rw [pow8i z i hz];omega
 rw [IntKind.wrap_u64,h1,pow8i z i hz,u64_or_nat a _ (by omega) (by omega),Nat.or_comm,nat_join (8*i) _ _ ?_ ?_,Nat.add_comm]
 ·rw [Nat.pow_mul];exact Nat.mul_mod_left _ _
 ·rw [Nat.pow_mul];exact ha
def GetRel (bs:List Int)(w:World)(sx si:Value)(wr:World):Prop :=
 ∃ (k a:Nat),k<=bs.length/\si=.int .i64 k/\sx=.int .u64 (a:Int)/\wr=w/\a=le k bs
theorem GetRel.next {bs:List Int}{k a:Nat}{z:Int}{w:World}(hk:k<bs.length)(h8:bs.length<=8)(hb:Bt bs)(hz:z=bs.getD k 0)(ha:a=le k bs)
  (X':Int) (hX:X'=bits BinOp.or IntKind.u64 (a:Int) (IntKind.u64.wrap (z*2 ^ (8*k)))) (I:Int) (hI:I=(k:Int)+1):GetRel bs w (.int .u64 X') (.int .i64 I) w:=by
 subst hX hI;have hz':=hb.getD k;rw [<- hz] at hz';have hlt:=le_lt k bs hb;refine ⟨k+1,le (k+1) bs,by omega,by go_num,?_,rfl,rfl⟩;rw [or_byte a k z hz'.1 hz'.2 (by omega) (by rw [ha];exact hlt),le_snoc k bs hk,ha,hz]
end Go.Proofs.YteaahinjcfjngaaGreat
