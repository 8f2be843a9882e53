import Derived.Test.YteaahinjcfjngaaGreatQ1
import Derived.Lib.BitFns
import Derived.Lib.ItoaNum
import Derived.Test.YteaahinjcfjngaaGreatRows
import Derived.Test.YteaahinjcfjngaaGreatQ6
set_option maxRecDepth 100000
set_option maxHeartbeats 1000000
namespace Go.Proofs.YteaahinjcfjngaaGreat
open Go.RowKit
theorem tab_size:(Lib.len8tab.size:Int)=256:=by decide +kernel
theorem tab_fin:∀ i:Fin Lib.len8tab.size,Lib.len8tab[i.val].toNat=Lib.bitLen i.val/\Lib.bitLen i.val<=8:=by decide +kernel
theorem tab_at (i:Nat)(h:i<Lib.len8tab.size):Lib.len8tab[i].toNat=Lib.bitLen i/\Lib.bitLen i<=8:=tab_fin ⟨i,h⟩
theorem way_end (k p:Nat)(x:Int)(i:Nat)(h:i<Lib.len8tab.size)(hp:p=2 ^ k)(h0:0<=x)(h1:x<=18446744073709551615)(hk:k<=56)(hlo:p<=x.toNat)(hi:i=x.toNat / p) :
  wrap64 ((k:Int)+wrap64 (Lib.len8tab[i].toNat:Int))=(Lib.bitLen x.toNat:Int):=by
 obtain ⟨e,l⟩:=tab_at i h;rw [e]
 have hb:Lib.bitLen x.toNat=k+Lib.bitLen i:=by
  rw [hi,hp];exact Lib.bitLen_shift k x.toNat (by omega) (by omega)
 rw [IntWalk.wrap64_in (Lib.bitLen i:Int) ⟨by omega,by omega⟩,IntWalk.wrap64_in _ ⟨by omega,by omega⟩,hb];omega
theorem way_end0 (x:Int)(h:x.toNat<Lib.len8tab.size):wrap64 (wrap64 (Lib.len8tab[x.toNat].toNat:Int))=(Lib.bitLen x.toNat:Int):=by
 obtain ⟨e,l⟩:=tab_at x.toNat h;rw [e,IntWalk.wrap64_in (Lib.bitLen x.toNat:Int) ⟨by omega,by omega⟩,IntWalk.wrap64_in _ ⟨by omega,by omega⟩]
theorem len64_any (x:Int)(w:World)(h0:0<=x)(h1:x<=18446744073709551615) :
  Calls Tryz.prog 100 #[.int .u64 x] w fun e w'=>e=.returned (.int .i64 (Lib.bitLen x.toNat))/\w'=w:=by
 have hts:=tab_size;go_enter Tryz.func100,Tryz.ntmps100;go_wp2
 all_goals (go_ret;refine ⟨congrArg Ending.returned (congrArg (Value.int IntKind.i64) ?_),rfl⟩)
 ·exact way_end 56 72057594037927936 x _ _ rfl h0 h1 (by omega) (by omega) (by omega)
 ·exact way_end 48 281474976710656 x _ _ rfl h0 h1 (by omega) (by omega) (by omega)
 ·exact way_end 40 1099511627776 x _ _ rfl h0 h1 (by omega) (by omega) (by omega)
 ·exact way_end 32 4294967296 x _ _ rfl h0 h1 (by omega) (by omega) (by omega)
 ·exact way_end 24 16777216 x _ _ rfl h0 h1 (by omega) (by omega) (by omega)
 ·exact way_end 16 65536 x _ _ rfl h0 h1 (by omega) (by omega) (by omega)
 ·exact way_end 8 256 x _ _ rfl h0 h1 (by omega) (by omega) (by omega)
 ·exact way_end0 x _
theorem or_u64_one (x:Nat)(h:x<18446744073709551616):bits BinOp.or IntKind.u64 (x:Int) 1=((x ||| 1:Nat):Int):=by
 have:=u64_or_nat x 1 h (by omega);simpa using this
theorem vlen_calls (x:Nat)(w:World)(h1:x<18446744073709551616):Calls Tryz.prog 116 #[.int .u64 x] w fun e w'=>e=.returned (.int .i64 ((vform x).length:Nat))/\w'=w:=by
 obtain ⟨hv,hl⟩:=vlen_formula x h1;have h64:x ||| 1<2 ^ 64:=Nat.or_lt_two_pow (by omega) (by omega)
 have HV:Hid ((Lib.bitLen (x ||| 1)+6) / 7=(vform x).length):=hv;clear hv;go_enter Tryz.func116,Tryz.ntmps116
 go_wp2_with fail
 rw [or_u64_one x h1];generalize x ||| 1=y at *
 refine (len64_any _ _ (by omega) (by omega)).mono ?_;rintro e w' ⟨rfl,rfl⟩;rw [Int.toNat_natCast];generalize Lib.bitLen y=L at *;go_wp2;go_ret;refine ⟨congrArg Ending.returned (congrArg (Value.int IntKind.i64) ?_),rfl⟩;rw [<- HV.out];omega
structure Qt (w w':World):Prop where
 os:w'.os=w.os
 tape:w'.tape=w.tape
 output:w'.output=w.output
 heap:w'.heap=w.heap
theorem Qt.refl (w:World):Qt w w:=⟨rfl,rfl,rfl,rfl⟩
theorem Qt.drew {w w':World}(h:Qt w w'):Qt w w'.drew:=⟨h.os,h.tape,h.output,h.heap⟩
theorem Qt.trans {a b c:World}(h:Qt a b)(k:Qt b c):Qt a c:=⟨k.os.trans h.os,k.tape.trans h.tape,k.output.trans h.output,k.heap.trans h.heap⟩
theorem Qt.grown {w w':World}(h:Qt w w')(row:Option Nat):w.grownBy w' row:=⟨h.os,h.tape,h.output,by rw [h.heap];exact Nat.le_refl _,fun _ _ _=>by rw [h.heap]⟩
theorem Qt.cell {w w':World}(h:Qt w w')(a:Addr):w'.cell? a=w.cell? a:=World.cell?_of_block (by rw [h.heap])
theorem gZq {a b c:World}{row:Option Nat}(h:a.grownBy b row)(k:b.grownBy c row):a.grownBy c row :=
 ⟨k.os.trans h.os,k.tape.trans h.tape,k.output.trans h.output,Nat.le_trans h.size k.size,fun i hi hne=>(k.block i (Nat.lt_of_lt_of_le hi h.size) hne).trans (h.block i hi hne)⟩
theorem grown_any {a b:World}{row:Option Nat}(h:a.grownBy b none):a.grownBy b row:=⟨h.os,h.tape,h.output,h.size,fun i hi _=>h.block i hi (by simp)⟩
theorem Qt.drewN (w:World)(n:Nat):Qt w (w.drewN n):=⟨rfl,rfl,rfl,rfl⟩
end Go.Proofs.YteaahinjcfjngaaGreat
