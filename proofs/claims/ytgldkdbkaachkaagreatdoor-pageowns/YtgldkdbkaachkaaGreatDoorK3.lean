import Derived.Test.YtgldkdbkaachkaaGreatDoorK1
import Derived.Test.YtgldkdbkaachkaaGreatDoorRows
import Derived.Test.YtgldkdbkaachkaaGreatDoorK2
import Derived.Lib.BitFns
import Derived.Lib.ItoaNum
set_option maxRecDepth 100000
set_option maxHeartbeats 1000000
namespace Go.Proofs.YtgldkdbkaachkaaGreatDoor
open Go.RowKit
variable {e z:Int}{zs:List Int}{G R a k p:Nat}{b c w w':World}
theorem bF:(Tryz.prog.info? 5).map (fun i=>(i.zero,i.size,i.bytes))=some (some (.int .u8 0),1,1):=by kernel_rfl
theorem iJ (ao:Option Addr)(n cap:Nat)(zs:List Int)(room:Nat)(w:World)(hb:ai w ao n cap zs)(hr:room<=16)(hn:n<=140737488351232) :
  Calls Tryz.prog 237 #[.slice ao n cap,.int .i64 room] w fun e w' =>
   e=.returned (.slice (some ⟨w.heap.size,0,none⟩) n (n+room)) /\
   w'.ownsRow w.heap.size 5 1 (.slice (some ⟨w.heap.size,0,none⟩) n (n+room)) n (zs.map (Value.int .u8))/\w.grownBy w' none/\w.heap.size<w'.heap.size:=by
 obtain ⟨i0,hi,hz0,hz1,hz2⟩:=info_parts bF;have HB:Hid (ai w ao n cap zs):=hb;clear hb;go_enter Tryz.func237,Tryz.ntmps237
 go_wp2_with (at_make;refine wpList_make_own _ rfl _ _ 25 rfl w.heap.size 5 i0 (.int .u8 0) 1 Tryz.underlying25 hi hz0 hz1 _ _ _ (n+room) rfl rfl (by omega) ?b2 ?b3 (Nat.le_refl _) ?_)
 case b2=>rw [hz2];omega
 case b3=>unfold maxLen;omega
 intro w0 aR ej;have hb0:=HB.out.ae ej
 go_wp2_with (at_builtin;refine wpList_append_fits_any _ rfl _ _ 25 rfl w.heap.size 5 i0 1 Tryz.underlying25 hi hz1 w.heap.size 0 (n+room) _ rfl aR _ n _ (zs.map (Value.int .u8)) rfl (by rw [List.length_map,hb0.len,Nat.mul_one]) hb0.nil hb0.cells (ints_oneCell _ _) (by omega) ?_)
 intro w1 hown1 gF
 have hg:w.grownBy w1 none:=⟨gF.os.trans ej.os,gF.tape.trans ej.tape,gF.output.trans ej.output,Nat.le_trans ej.size gF.size,
  fun k hk _=>(gF.block k (by have:=ej.size;omega) (by intro e;have:=Option.some.inj e;omega)).trans (ej.block k hk (by simp))⟩
 have hs:w.heap.size<w1.heap.size:=(hown1.lt w.heap.size rfl).2;go_wp2;go_ret;exact ⟨rfl,hown1,hg,hs⟩
theorem LY:(Lib.len8tab.size:Int)=256:=by decide +kernel
theorem Qm:∀ i:Fin Lib.len8tab.size,Lib.len8tab[i.val].toNat=Lib.bitLen i.val/\Lib.bitLen i.val<=8:=by decide +kernel
theorem LZ (i:Nat)(h:i<Lib.len8tab.size):Lib.len8tab[i].toNat=Lib.bitLen i/\Lib.bitLen i<=8:=Qm ⟨i,h⟩
theorem jg (k p:Nat)(x:Int)(i:Nat)(h:i<Lib.len8tab.size)(hp:p=2 ^ k)(h0:0<=x)(h1:x<=18446744073709551615)(hk:k<=56)(hlo:p<=x.toNat)(hi:i=x.toNat / p) :
  wrap64 ((k:Int)+wrap64 (Lib.len8tab[i].toNat:Int))=(Lib.bitLen x.toNat:Int):=by
 obtain ⟨e,l⟩:=LZ i h;rw [e]
 have hb:Lib.bitLen x.toNat=k+Lib.bitLen i:=by
  rw [hi,hp];exact Lib.bitLen_shift k x.toNat (by omega) (by omega)
 rw [IntWalk.wrap64_in (Lib.bitLen i:Int) ⟨by omega,by omega⟩,IntWalk.wrap64_in _ ⟨by omega,by omega⟩,hb];omega
theorem Ma (x:Int)(h:x.toNat<Lib.len8tab.size):wrap64 (wrap64 (Lib.len8tab[x.toNat].toNat:Int))=(Lib.bitLen x.toNat:Int):=by
 obtain ⟨e,l⟩:=LZ x.toNat h;rw [e,IntWalk.wrap64_in (Lib.bitLen x.toNat:Int) ⟨by omega,by omega⟩,IntWalk.wrap64_in _ ⟨by omega,by omega⟩]
theorem iK (x:Int)(w:World)(h0:0<=x)(h1:x<=18446744073709551615) :
  Calls Tryz.prog 273 #[.int .u64 x] w fun e w'=>e=.returned (.int .i64 (Lib.bitLen x.toNat))/\w'=w:=by
 have hts:=LY;go_enter Tryz.func273,Tryz.ntmps273;go_wp2
 all_goals (go_ret;refine ⟨congrArg Ending.returned (congrArg (Value.int IntKind.i64) ?_),rfl⟩)
 ·exact jg 56 72057594037927936 x _ _ rfl h0 h1 (by omega) (by omega) (by omega)
 ·exact jg 48 281474976710656 x _ _ rfl h0 h1 (by omega) (by omega) (by omega)
 ·exact jg 40 1099511627776 x _ _ rfl h0 h1 (by omega) (by omega) (by omega)
 ·exact jg 32 4294967296 x _ _ rfl h0 h1 (by omega) (by omega) (by omega)
 ·exact jg 24 16777216 x _ _ rfl h0 h1 (by omega) (by omega) (by omega)
 ·exact jg 16 65536 x _ _ rfl h0 h1 (by omega) (by omega) (by omega)
 ·exact jg 8 256 x _ _ rfl h0 h1 (by omega) (by omega) (by omega)
 ·exact Ma x _
theorem Mb:IntKind.u64.wrap (bits BinOp.xor IntKind.u8 IntKind.u8.max 0)=255:=by decide +kernel
theorem Qn:Lib.bitLen (Int.toNat 255)=8:=by decide +kernel
theorem nA (w:World):Calls Tryz.prog 265 #[] w fun e w'=>e=.returned (.int .i64 1)/\w'=w:=by
 go_enter Tryz.func265,Tryz.ntmps265
 go_wp2_with fail
 rw [Mb];refine (iK _ _ (by omega) (by omega)).mono ?_;rintro e w' ⟨rfl,rfl⟩;rw [Qn];go_wp2;go_ret;exact ⟨rfl,rfl⟩
theorem Iy:IntKind.u64.wrap (bits BinOp.xor IntKind.u16 IntKind.u16.max 0)=65535:=by decide +kernel
theorem Mc:Lib.bitLen (Int.toNat 65535)=16:=by decide +kernel
theorem lj (w:World):Calls Tryz.prog 275 #[] w fun e w'=>e=.returned (.int .i64 2)/\w'=w:=by
 go_enter Tryz.func275,Tryz.ntmps275
 go_wp2_with fail
 rw [Iy];refine (iK _ _ (by omega) (by omega)).mono ?_;rintro e w' ⟨rfl,rfl⟩;rw [Mc];go_wp2;go_ret;exact ⟨rfl,rfl⟩
theorem Iz:IntKind.u64.wrap (bits BinOp.xor IntKind.u32 IntKind.u32.max 0)=4294967295:=by decide +kernel
theorem Md:Lib.bitLen (Int.toNat 4294967295)=32:=by decide +kernel
theorem lq (w:World):Calls Tryz.prog 260 #[] w fun e w'=>e=.returned (.int .i64 4)/\w'=w:=by
 go_enter Tryz.func260,Tryz.ntmps260
 go_wp2_with fail
 rw [Iz];refine (iK _ _ (by omega) (by omega)).mono ?_;rintro e w' ⟨rfl,rfl⟩;rw [Md];go_wp2;go_ret;exact ⟨rfl,rfl⟩
theorem IA:bits BinOp.xor IntKind.u64 IntKind.u64.max 0=18446744073709551615:=by decide +kernel
theorem Me:Lib.bitLen (Int.toNat 18446744073709551615)=64:=by decide +kernel
theorem wQ (w:World):Calls Tryz.prog 286 #[] w fun e w'=>e=.returned (.int .i64 8)/\w'=w:=by
 go_enter Tryz.func286,Tryz.ntmps286
 go_wp2_with fail
 rw [IA];refine (iK _ _ (by omega) (by omega)).mono ?_;rintro e w' ⟨rfl,rfl⟩;rw [Me];go_wp2;go_ret;exact ⟨rfl,rfl⟩
theorem Dx (x:Nat)(h:x<18446744073709551616):bits BinOp.or IntKind.u64 (x:Int) 1=((x ||| 1:Nat):Int):=by
 have:=u64_or_nat x 1 h (by omega);simpa using this
theorem gG (x:Nat)(w:World)(h1:x<18446744073709551616):Calls Tryz.prog 231 #[.int .u64 x] w fun e w'=>e=.returned (.int .i64 ((ah x).length:Nat))/\w'=w:=by
 obtain ⟨hv,hl⟩:=xQ x h1;have h64:x ||| 1<2 ^ 64:=Nat.or_lt_two_pow (by omega) (by omega)
 have HV:Hid ((Lib.bitLen (x ||| 1)+6) / 7=(ah x).length):=hv;clear hv;go_enter Tryz.func231,Tryz.ntmps231
 go_wp2_with fail
 rw [Dx x h1];generalize x ||| 1=y at *
 refine (iK _ _ (by omega) (by omega)).mono ?_;rintro e w' ⟨rfl,rfl⟩;rw [Int.toNat_natCast];generalize Lib.bitLen y=L at *;go_wp2;go_ret;refine ⟨congrArg Ending.returned (congrArg (Value.int IntKind.i64) ?_),rfl⟩;rw [<- HV.out];omega
theorem fE{wr w1:World}(o:Obj)(hg:w.grownBy wr none)(hs:w.heap.size<wr.heap.size)(h:(wr.alloc o).grownBy w1 (some w.heap.size)):w.grownBy w1 none/\w.heap.size<w1.heap.size:=by
 have hs1:(wr.alloc o).heap.size=wr.heap.size+1:=by simp
 refine ⟨⟨h.os.trans hg.os,h.tape.trans hg.tape,h.output.trans hg.output,?_,fun k hk _=>?_⟩,?_⟩
 ·have:=h.size;omega
 ·rw [h.block k (by omega) (by intro e;have:=Option.some.inj e;omega),Below.heap_alloc wr o k (by omega)]
  exact hg.block k hk (by simp)
 ·have:=h.size;omega
theorem Mf (ao:Option Addr)(n cap:Nat)(zs:List Int)(x:Nat)(w:World)(hb:ai w ao n cap zs)(hn:n<=140737488351232)(hx:x<18446744073709551616) :
  Calls Tryz.prog 235 #[.slice ao n cap,.int .u64 x] w fun e w' =>
   e=.returned (.slice (some ⟨w.heap.size,0,none⟩) (n+(ah x).length) (n+(ah x).length)) /\
   w'.ownsRow w.heap.size 5 1 (.slice (some ⟨w.heap.size,0,none⟩) (n+(ah x).length) (n+(ah x).length)) (n+(ah x).length) ((zs++ah x).map (Value.int .u8))/\w.grownBy w' none/\w.heap.size<w'.heap.size:=by
 obtain ⟨i0,hi,hz0,hz1,hz2⟩:=info_parts bF;have HL:Hid (zs.length=n):=hb.len;have YO:=wO x;have hv2:=jS x;go_enter Tryz.func235,Tryz.ntmps235
 go_wp2_with fail
 refine (gG x _ hx).mono ?_;rintro e w' ⟨rfl,rfl⟩
 go_wp2_with fail
 refine (iJ ao n cap zs (ah x).length _ hb (by omega) hn).mono ?_;rintro e w0 ⟨rfl,aR,hg0,hs0⟩;clear hb;go_wp2
 go_loopw [5,1] (fun out sx wr=>∃ (f y:Nat) (pre:List Int),1<=f/\f<=10/\y<2*128 ^ (f - 1)/\sx=.int .u64 y/\y<18446744073709551616/\pre++lf f y=zs++ah x /\
   out=.slice (some ⟨w'.heap.size,0,none⟩) pre.length (n+(ah x).length) /\
   wr.ownsRow w'.heap.size 5 1 (.slice (some ⟨w'.heap.size,0,none⟩) pre.length (n+(ah x).length)) pre.length (pre.map (Value.int .u8))/\w'.grownBy wr none/\w'.heap.size<wr.heap.size)
  (fun _ sx _=>(intOf sx).toNat)
 case atStart=>exact ⟨10,x,zs,by omega,by omega,by simp;omega,rfl,hx,rfl,by rw [HL.out],by rw [HL.out];exact aR,hg0,hs0⟩
 case round =>
  obtain ⟨f,y,pre,Dy,hf2,hy,rfl,VC,hpre,rfl,hown,hg,hs⟩:=hrel;have HP:Hid (pre++lf f y=zs++ah x):=hpre;have hlen:pre.length+(lf f y).length=n+(ah x).length:=by have:=congrArg List.length hpre;simp at this;have:=HL.out;omega
  have hfl:=Dw f y Dy;have hroom:pre.length+1<=n+(ah x).length:=by omega
  have HY:Hid (y<2*128 ^ (f - 1)):=hy;clear hpre hlen hfl hy
  by_cases hlt:y<128
  ·go_wp2_with (at_builtin;refine wpList_append_fits _ rfl _ _ 25 rfl w'.heap.size 5 i0 1 Tryz.underlying25 hi hz1 w'.heap.size pre.length (n+(ah x).length) _ rfl (hown.alloc _) ⟨wr.heap.size,0,none⟩ 1 1 [.int .u8 (y:Int)] rfl rfl (cell_one_new _ _ _) (by intro u hu;simp at hu;subst hu;rfl) hroom ?_)
   intro w1 hown1 hg1;obtain ⟨hg2,hs2⟩:=fE _ hg hs hg1;have nC:pre++[(y:Int)]=zs++ah x:=by rw [<- HP.out];obtain ⟨f',rfl⟩:∃ f',f=f'+1:=⟨f - 1,by omega⟩;rw [cP f' y hlt]
   have jQ:pre.length+1=n+(ah x).length:=by have:=congrArg List.length nC;simp at this;have:=HL.out;omega
   have hown2:w1.ownsRow w'.heap.size 5 1 (.slice (some ⟨w'.heap.size,0,none⟩) (n+(ah x).length) (n+(ah x).length)) (n+(ah x).length) ((zs++ah x).map (Value.int .u8)):=by
    rw [<- nC,<- jQ,List.map_append];exact jQ ▸ hown1
   have HF:Hid (pre.length+1=n+(ah x).length):=jQ;clear hown1 nC jQ hg1 hown;go_wp2;go_ret;rw [HF.out];exact ⟨rfl,hown2,hg2,hs2⟩
  ·have ig:bits BinOp.or IntKind.u8 ((y:Int) % 256) 128=((y % 128+128:Nat):Int):=by
    have:=u8_or_nat (y % 256) 128 (by omega) (by omega);rw [show ((y % 256:Nat):Int)=(y:Int) % 256 by omega] at this;have e:=VB (y % 256) (by omega);rw [show (128:Int)=((128:Nat):Int) from rfl,this,e];omega
   have XP:Hid (bits BinOp.or IntKind.u8 ((y:Int) % 256) 128=((y % 128+128:Nat):Int)):=ig;clear ig
   go_wp2_with (at_builtin;refine wpList_append_fits _ rfl _ _ 25 rfl w'.heap.size 5 i0 1 Tryz.underlying25 hi hz1 w'.heap.size pre.length (n+(ah x).length) _ rfl (hown.alloc _) ⟨wr.heap.size,0,none⟩ 1 1 [.int .u8 (bits BinOp.or IntKind.u8 ((y:Int) % 256) 128)] rfl rfl (cell_one_new _ _ _) (by intro u hu;simp at hu;subst hu;rfl) hroom ?_)
   intro w1 hown1 hg1;obtain ⟨hg2,hs2⟩:=fE _ hg hs hg1;rw [XP.out] at hown1;clear hg1 hown;obtain ⟨f',rfl⟩:∃ f',f=f'+1:=⟨f - 1,by omega⟩;have hy:=HY.out;have hp:=HP.out;rw [iB f' y hlt] at hp
   have hf':1<=f':=by
    rcases Nat.eq_zero_or_pos f' with h | h
    ·subst h;simp at hy;omega
    ·exact h
   have jE:y / 128<2*128 ^ (f' - 1):=by
    rw [Nat.add_sub_cancel,show f'=(f' - 1)+1 by omega,Nat.pow_succ] at hy;omega
   have IB:(pre++[((y % 128+128:Nat):Int)])++lf f' (y / 128)=zs++ah x:=by rw [<- hp];simp
   have Qo:Hid ((pre++[((y % 128+128:Nat):Int)])++lf f' (y / 128)=zs++ah x):=IB;have De:Hid (y / 128<2*128 ^ (f' - 1)):=jE;clear hp IB hy jE XP HP HY;go_wp2;go_roundw
   case rel=>exact ⟨f',y / 128,pre++[((y % 128+128:Nat):Int)],hf',by omega,De.out,by go_num,by omega,Qo.out,by simp,by simpa using hown1,hg2,hs2⟩
   case measure=>simp [intOf];omega
theorem jT (x:Nat)(w:World)(hx:x<18446744073709551616) :
  Calls Tryz.prog 235 #[.slice none 0 0,.int .u64 x] w fun e w' =>
   e=.returned (.slice (some ⟨w.heap.size,0,none⟩) (ah x).length (ah x).length)/\ai w' (some ⟨w.heap.size,0,none⟩) (ah x).length (ah x).length (ah x)/\w.grownBy w' none/\w.heap.size<w'.heap.size:=by
 refine (Mf none 0 0 [] x w (ai.empty w) (by omega) hx).mono ?_;rintro e w' ⟨rfl,hown,hg,hs⟩;simp only [Nat.zero_add,List.nil_append] at hown;simp only [Nat.zero_add];exact ⟨trivial,ai.aP hown,hg,hs⟩
theorem ep (x k:Nat):(x:Int) / 2 ^ (8*k) % 256=((x / 256 ^ k % 256:Nat):Int):=by
 have e:(2:Nat) ^ (8*k)=256 ^ k:=by rw [Nat.pow_mul]
 have e2:(2:Int) ^ (8*k)=((256 ^ k:Nat):Int):=by rw [<- e];simp
 rw [e2];simp
theorem Mg (ao:Option Addr)(n cap:Nat)(zs:List Int)(x:Nat)(w:World)(hb:ai w ao n cap zs)(hn:n<=140737488351232)(hx:x<256) :
  Calls Tryz.prog 219 #[.slice ao n cap,.int .u8 x] w fun e w' =>
   e=.returned (.slice (some ⟨w.heap.size,0,none⟩) (n+1) (n+1)) /\
   w'.ownsRow w.heap.size 5 1 (.slice (some ⟨w.heap.size,0,none⟩) (n+1) (n+1)) (n+1) ((zs++lb 1 x).map (Value.int .u8))/\w.grownBy w' none/\w.heap.size<w'.heap.size:=by
 obtain ⟨i0,hi,hz0,hz1,hz2⟩:=info_parts bF;go_enter Tryz.func219,Tryz.ntmps219
 go_wp2_with fail
 refine (nA _).mono ?_;rintro e w' ⟨rfl,rfl⟩
 go_wp2_with fail
 refine (iJ ao n cap zs 1 _ hb (by omega) hn).mono ?_;rintro e w0 ⟨rfl,aR,hg0,hs0⟩;clear hb;go_wp2
 go_loopw [6,13] (fun out si wr=>∃ (k:Nat),k<=1/\si=.int .i64 k /\
   out=.slice (some ⟨w'.heap.size,0,none⟩) (n+k) (n+1) /\
   wr.ownsRow w'.heap.size 5 1 (.slice (some ⟨w'.heap.size,0,none⟩) (n+k) (n+1)) (n+k) ((zs++lb k x).map (Value.int .u8))/\w'.grownBy wr none/\w'.heap.size<wr.heap.size)
  (fun _ si _=>1 - (intOf si).toNat)
 case atStart=>exact ⟨0,by omega,rfl,rfl,by simpa [lb] using aR,hg0,hs0⟩
 case round =>
  obtain ⟨k,hk,rfl,rfl,hown,hg,hs⟩:=hrel
  by_cases hlt:k<1
  ·go_wp2_with (at_builtin;refine wpList_append_fits _ rfl _ _ 25 rfl w'.heap.size 5 i0 1 Tryz.underlying25 hi hz1 w'.heap.size (n+k) (n+1) _ rfl (hown.alloc _) ⟨wr.heap.size,0,none⟩ 1 1 [.int .u8 ((x:Int) / 2 ^ (8*k) % 256)] rfl rfl (cell_one_new _ _ _) (by intro u hu;simp at hu;subst hu;rfl) (by omega) ?_)
   intro w1 hown1 hg1;obtain ⟨hg2,hs2⟩:=fE _ hg hs hg1;clear hg1 hown
   have hown2:w1.ownsRow w'.heap.size 5 1 (.slice (some ⟨w'.heap.size,0,none⟩) (n+(k+1)) (n+1)) (n+(k+1)) ((zs++lb (k+1) x).map (Value.int .u8)):=by
    rw [ia,List.map_append,List.map_append,<- Nat.add_assoc,<- ep];exact hown1
   clear hown1;go_wp2;go_roundw
   case rel=>exact ⟨k+1,by omega,by go_num,rfl,hown2,hg2,hs2⟩
   case measure=>simp [intOf];omega
  ·have hk2:k=1:=by omega
   subst hk2;go_wp2;go_ret;exact ⟨rfl,hown,hg,hs⟩
theorem Gj (ao:Option Addr)(n cap:Nat)(zs:List Int)(x:Nat)(w:World)(hb:ai w ao n cap zs)(hn:n<=140737488351232)(hx:x<65536) :
  Calls Tryz.prog 234 #[.slice ao n cap,.int .u16 x] w fun e w' =>
   e=.returned (.slice (some ⟨w.heap.size,0,none⟩) (n+2) (n+2)) /\
   w'.ownsRow w.heap.size 5 1 (.slice (some ⟨w.heap.size,0,none⟩) (n+2) (n+2)) (n+2) ((zs++lb 2 x).map (Value.int .u8))/\w.grownBy w' none/\w.heap.size<w'.heap.size:=by
 obtain ⟨i0,hi,hz0,hz1,hz2⟩:=info_parts bF;go_enter Tryz.func234,Tryz.ntmps234
 go_wp2_with fail
 refine (lj _).mono ?_;rintro e w' ⟨rfl,rfl⟩
 go_wp2_with fail
 refine (iJ ao n cap zs 2 _ hb (by omega) hn).mono ?_;rintro e w0 ⟨rfl,aR,hg0,hs0⟩;clear hb;go_wp2
 go_loopw [6,13] (fun out si wr=>∃ (k:Nat),k<=2/\si=.int .i64 k /\
   out=.slice (some ⟨w'.heap.size,0,none⟩) (n+k) (n+2) /\
   wr.ownsRow w'.heap.size 5 1 (.slice (some ⟨w'.heap.size,0,none⟩) (n+k) (n+2)) (n+k) ((zs++lb k x).map (Value.int .u8))/\w'.grownBy wr none/\w'.heap.size<wr.heap.size)
  (fun _ si _=>2 - (intOf si).toNat)
 case atStart=>exact ⟨0,by omega,rfl,rfl,by simpa [lb] using aR,hg0,hs0⟩
 case round =>
  obtain ⟨k,hk,rfl,rfl,hown,hg,hs⟩:=hrel
  by_cases hlt:k<2
  ·go_wp2_with (at_builtin;refine wpList_append_fits _ rfl _ _ 25 rfl w'.heap.size 5 i0 1 Tryz.underlying25 hi hz1 w'.heap.size (n+k) (n+2) _ rfl (hown.alloc _) ⟨wr.heap.size,0,none⟩ 1 1 [.int .u8 ((x:Int) / 2 ^ (8*k) % 256)] rfl rfl (cell_one_new _ _ _) (by intro u hu;simp at hu;subst hu;rfl) (by omega) ?_)
   intro w1 hown1 hg1;obtain ⟨hg2,hs2⟩:=fE _ hg hs hg1;clear hg1 hown
   have hown2:w1.ownsRow w'.heap.size 5 1 (.slice (some ⟨w'.heap.size,0,none⟩) (n+(k+1)) (n+2)) (n+(k+1)) ((zs++lb (k+1) x).map (Value.int .u8)):=by
    rw [ia,List.map_append,List.map_append,<- Nat.add_assoc,<- ep];exact hown1
   clear hown1;go_wp2;go_roundw
   case rel=>exact ⟨k+1,by omega,by go_num,rfl,hown2,hg2,hs2⟩
   case measure=>simp [intOf];omega
  ·have hk2:k=2:=by omega
   subst hk2;go_wp2;go_ret;exact ⟨rfl,hown,hg,hs⟩
theorem xR (ao:Option Addr)(n cap:Nat)(zs:List Int)(x:Nat)(w:World)(hb:ai w ao n cap zs)(hn:n<=140737488351232)(hx:x<4294967296) :
  Calls Tryz.prog 215 #[.slice ao n cap,.int .u32 x] w fun e w' =>
   e=.returned (.slice (some ⟨w.heap.size,0,none⟩) (n+4) (n+4)) /\
   w'.ownsRow w.heap.size 5 1 (.slice (some ⟨w.heap.size,0,none⟩) (n+4) (n+4)) (n+4) ((zs++lb 4 x).map (Value.int .u8))/\w.grownBy w' none/\w.heap.size<w'.heap.size:=by
 obtain ⟨i0,hi,hz0,hz1,hz2⟩:=info_parts bF;go_enter Tryz.func215,Tryz.ntmps215
 go_wp2_with fail
 refine (lq _).mono ?_;rintro e w' ⟨rfl,rfl⟩
 go_wp2_with fail
 refine (iJ ao n cap zs 4 _ hb (by omega) hn).mono ?_;rintro e w0 ⟨rfl,aR,hg0,hs0⟩;clear hb;go_wp2
 go_loopw [6,13] (fun out si wr=>∃ (k:Nat),k<=4/\si=.int .i64 k /\
   out=.slice (some ⟨w'.heap.size,0,none⟩) (n+k) (n+4) /\
   wr.ownsRow w'.heap.size 5 1 (.slice (some ⟨w'.heap.size,0,none⟩) (n+k) (n+4)) (n+k) ((zs++lb k x).map (Value.int .u8))/\w'.grownBy wr none/\w'.heap.size<wr.heap.size)
  (fun _ si _=>4 - (intOf si).toNat)
 case atStart=>exact ⟨0,by omega,rfl,rfl,by simpa [lb] using aR,hg0,hs0⟩
 case round =>
  obtain ⟨k,hk,rfl,rfl,hown,hg,hs⟩:=hrel
  by_cases hlt:k<4
  ·go_wp2_with (at_builtin;refine wpList_append_fits _ rfl _ _ 25 rfl w'.heap.size 5 i0 1 Tryz.underlying25 hi hz1 w'.heap.size (n+k) (n+4) _ rfl (hown.alloc _) ⟨wr.heap.size,0,none⟩ 1 1 [.int .u8 ((x:Int) / 2 ^ (8*k) % 256)] rfl rfl (cell_one_new _ _ _) (by intro u hu;simp at hu;subst hu;rfl) (by omega) ?_)
   intro w1 hown1 hg1;obtain ⟨hg2,hs2⟩:=fE _ hg hs hg1;clear hg1 hown
   have hown2:w1.ownsRow w'.heap.size 5 1 (.slice (some ⟨w'.heap.size,0,none⟩) (n+(k+1)) (n+4)) (n+(k+1)) ((zs++lb (k+1) x).map (Value.int .u8)):=by
    rw [ia,List.map_append,List.map_append,<- Nat.add_assoc,<- ep];exact hown1
   clear hown1;go_wp2;go_roundw
   case rel=>exact ⟨k+1,by omega,by go_num,rfl,hown2,hg2,hs2⟩
   case measure=>simp [intOf];omega
  ·have hk2:k=4:=by omega
   subst hk2;go_wp2;go_ret;exact ⟨rfl,hown,hg,hs⟩
theorem Qp (ao:Option Addr)(n cap:Nat)(zs:List Int)(x:Nat)(w:World)(hb:ai w ao n cap zs)(hn:n<=140737488351232)(_hx:x<18446744073709551616) :
  Calls Tryz.prog 266 #[.slice ao n cap,.int .u64 x] w fun e w' =>
   e=.returned (.slice (some ⟨w.heap.size,0,none⟩) (n+8) (n+8)) /\
   w'.ownsRow w.heap.size 5 1 (.slice (some ⟨w.heap.size,0,none⟩) (n+8) (n+8)) (n+8) ((zs++lb 8 x).map (Value.int .u8))/\w.grownBy w' none/\w.heap.size<w'.heap.size:=by
 obtain ⟨i0,hi,hz0,hz1,hz2⟩:=info_parts bF;go_enter Tryz.func266,Tryz.ntmps266
 go_wp2_with fail
 refine (wQ _).mono ?_;rintro e w' ⟨rfl,rfl⟩
 go_wp2_with fail
 refine (iJ ao n cap zs 8 _ hb (by omega) hn).mono ?_;rintro e w0 ⟨rfl,aR,hg0,hs0⟩;clear hb;go_wp2
 go_loopw [6,13] (fun out si wr=>∃ (k:Nat),k<=8/\si=.int .i64 k /\
   out=.slice (some ⟨w'.heap.size,0,none⟩) (n+k) (n+8) /\
   wr.ownsRow w'.heap.size 5 1 (.slice (some ⟨w'.heap.size,0,none⟩) (n+k) (n+8)) (n+k) ((zs++lb k x).map (Value.int .u8))/\w'.grownBy wr none/\w'.heap.size<wr.heap.size)
  (fun _ si _=>8 - (intOf si).toNat)
 case atStart=>exact ⟨0,by omega,rfl,rfl,by simpa [lb] using aR,hg0,hs0⟩
 case round =>
  obtain ⟨k,hk,rfl,rfl,hown,hg,hs⟩:=hrel
  by_cases hlt:k<8
  ·go_wp2_with (at_builtin;refine wpList_append_fits _ rfl _ _ 25 rfl w'.heap.size 5 i0 1 Tryz.underlying25 hi hz1 w'.heap.size (n+k) (n+8) _ rfl (hown.alloc _) ⟨wr.heap.size,0,none⟩ 1 1 [.int .u8 ((x:Int) / 2 ^ (8*k) % 256)] rfl rfl (cell_one_new _ _ _) (by intro u hu;simp at hu;subst hu;rfl) (by omega) ?_)
   intro w1 hown1 hg1;obtain ⟨hg2,hs2⟩:=fE _ hg hs hg1;clear hg1 hown
   have hown2:w1.ownsRow w'.heap.size 5 1 (.slice (some ⟨w'.heap.size,0,none⟩) (n+(k+1)) (n+8)) (n+(k+1)) ((zs++lb (k+1) x).map (Value.int .u8)):=by
    rw [ia,List.map_append,List.map_append,<- Nat.add_assoc,<- ep];exact hown1
   clear hown1;go_wp2;go_roundw
   case rel=>exact ⟨k+1,by omega,by go_num,rfl,hown2,hg2,hs2⟩
   case measure=>simp [intOf];omega
  ·have hk2:k=8:=by omega
   subst hk2;go_wp2;go_ret;exact ⟨rfl,hown,hg,hs⟩
structure Qt (w w':World):Prop where
 os:w'.os=w.os
 tape:w'.tape=w.tape
 output:w'.output=w.output
 heap:w'.heap=w.heap
theorem Qt.refl (w:World):Qt w w:=⟨rfl,rfl,rfl,rfl⟩
theorem Qt.drew{w:World}(h:Qt w w'):Qt w w'.drew:=⟨h.os,h.tape,h.output,h.heap⟩
theorem Qt.trans{a:World}(h:Qt a b)(k:Qt b c):Qt a c:=⟨k.os.trans h.os,k.tape.trans h.tape,k.output.trans h.output,k.heap.trans h.heap⟩
theorem Qt.grown (h:Qt w w')(row:Option Nat):w.grownBy w' row:=⟨h.os,h.tape,h.output,by rw [h.heap];exact Nat.le_refl _,fun _ _ _=>by rw [h.heap]⟩
theorem Qt.cell (h:Qt w w')(a:Addr):w'.cell? a=w.cell? a:=World.cell?_of_block (by rw [h.heap])
theorem gQ{a:World}{row:Option Nat}(h:a.grownBy b row)(k:b.grownBy c row):a.grownBy c row :=
 ⟨k.os.trans h.os,k.tape.trans h.tape,k.output.trans h.output,Nat.le_trans h.size k.size,fun i hi hne=>(k.block i (Nat.lt_of_lt_of_le hi h.size) hne).trans (h.block i hi hne)⟩
theorem bL{a:World}{row:Option Nat}(h:a.grownBy b none):a.grownBy b row:=⟨h.os,h.tape,h.output,h.size,fun i hi _=>h.block i hi (by simp)⟩
structure Rd (w:World)(R G:Nat)(zs:List Int)(p:Nat)(e:Int):Prop where
 ne:G≠R
 le:p<=zs.length
 max:zs.length<=1099511627776
 box:w.heap[R]?=some (.cells #[.slice (some ⟨G,0,none⟩) zs.length zs.length,.int .i64 p,.int .i64 e] 237 (0,0))
 row:∃ cur,w.heap[G]?=some (.cells cur 5 (0,0))/\cur.size=zs.length/\∀ i,p<=i->i<zs.length->cur[i]?=some (.int .u8 (zs.getD i 0))
theorem Rd.lt (h:Rd w R G zs p e):R<w.heap.size/\G<w.heap.size:=by
 obtain ⟨cur,hc,_⟩:=h.row;exact ⟨(Array.getElem?_eq_some_iff.1 h.box).1,(Array.getElem?_eq_some_iff.1 hc).1⟩
theorem Rd.cells {w:World}(h:Rd w R G zs p e) :
  w.cell? ⟨R,0,none⟩=some (.slice (some ⟨G,0,none⟩) zs.length zs.length)/\w.cell? ⟨R,1,none⟩=some (.int .i64 p)/\w.cell? ⟨R,2,none⟩=some (.int .i64 e) /\
  w.frozen? ⟨R,1,none⟩=false/\w.frozen? ⟨R,2,none⟩=false:=by
 have hr:=h.box;refine ⟨?_,?_,?_,frozen_of_row w R 1 _ _ hr,frozen_of_row w R 2 _ _ hr⟩
 ·rw [cell_of_row w R 0 _ _ _ hr];rfl
 ·rw [cell_of_row w R 1 _ _ _ hr];rfl
 ·rw [cell_of_row w R 2 _ _ _ hr];rfl
theorem Rd.kept {R G:Nat}{row:Option Nat}(h:Rd w R G zs p e)(hg:w.grownBy w' row)(h1:some R≠row)(h2:some G≠row):Rd w' R G zs p e:=by
 obtain ⟨cur,hc,hr⟩:=h.row;have hl:=h.lt;exact ⟨h.ne,h.le,h.max,(hg.block R hl.1 h1).trans h.box,cur,(hg.block G hl.2 h2).trans hc,hr⟩
theorem Rd.qt (h:Rd w R G zs p e)(hq:Qt w w'):Rd w' R G zs p e:=h.kept (hq.grown none) (by simp) (by simp)
theorem Rd.bytes (h:Rd w R G zs p e):∀ i,p<=i->i<zs.length->w.cell? ⟨G,i,none⟩=some (.int .u8 (zs.getD i 0)):=by
 obtain ⟨cur,hc,hs,hr⟩:=h.row;intro i h1 h2;rw [cell_of_row w G i _ _ _ hc];exact hr i h1 h2
theorem Rd.rest (h:Rd w R G zs p e)(m c:Nat)(hm:p+m<=zs.length):ai w (some ⟨G,p,none⟩) m c ((zs.drop p).take m):=by
 refine ai.eZ (by simp;omega) fun i hi=>?_
 rw [h.bytes (p+i) (by omega) (by omega)];simp [List.getD,hi]
theorem Rd.nD (h:Rd w R G zs p e)(q:Nat)(v:Int)(hv:v=(q:Int))(h1:p<=q)(h2:q<=zs.length) :
  Rd (w.setCell ⟨R,1,none⟩ (.int .i64 v)) R G zs q e/\w.grownBy (w.setCell ⟨R,1,none⟩ (.int .i64 v)) (some R):=by
 subst hv;obtain ⟨cur,hc,hs,hr⟩:=h.row;refine ⟨⟨h.ne,h2,h.max,?_,cur,?_,hs,fun i a b=>hr i (by omega) b⟩,⟨rfl,rfl,rfl,by simp,fun k _ hk=>heap_setCell_other w ⟨R,1,none⟩ k _ (fun e=>hk (by simp [e]))⟩⟩
 ·rw [heap_setCell_same w R 1 _ _ _ h.box];rfl
 ·rw [heap_setCell_other w ⟨R,1,none⟩ G _ (by have:=h.ne;simpa using this)];exact hc
theorem Rd.VD (h:Rd w R G zs p e)(e':Int) :
  Rd (w.setCell ⟨R,2,none⟩ (.int .i64 e')) R G zs p e'/\w.grownBy (w.setCell ⟨R,2,none⟩ (.int .i64 e')) (some R):=by
 obtain ⟨cur,hc,hs,hr⟩:=h.row;refine ⟨⟨h.ne,h.le,h.max,?_,cur,?_,hs,hr⟩,⟨rfl,rfl,rfl,by simp,fun k _ hk=>heap_setCell_other w ⟨R,2,none⟩ k _ (fun e=>hk (by simp [e]))⟩⟩
 ·rw [heap_setCell_same w R 2 _ _ _ h.box];rfl
 ·rw [heap_setCell_other w ⟨R,2,none⟩ G _ (by have:=h.ne;simpa using this)];exact hc
theorem Qt.drewN (w:World)(n:Nat):Qt w (w.drewN n):=⟨rfl,rfl,rfl,rfl⟩
theorem dR (ao:Option Addr)(n cap:Nat)(zs:List Int)(w:World)(hb:ai w ao n cap zs)(hn:n<=1099511627776) :
  Calls Tryz.prog 199 #[.slice ao n cap] w fun e w'=>∃ R,e=.returned (.pointer (some ⟨R,0,none⟩))/\Rd w' R w.heap.size zs 0 0/\w.grownBy w' none/\w.heap.size<R:=by
 have HL:Hid (zs.length=n):=hb.len;go_enter Tryz.func199,Tryz.ntmps199
 go_wp2_with fail
 refine (iJ ao n cap zs 0 _ hb (by omega) (by omega)).mono ?_;rintro e w0 ⟨rfl,hown,hg,hs⟩;clear hb;go_wp2;go_ret;refine ⟨w0.heap.size,rfl,?_,?_,hs⟩
 ·have hl:=HL.out
  have hown':=hown;rcases hown.2 with ⟨h',_⟩ | ⟨g',cap',cur,h',_,YP,hnc,_,hcs,YQ⟩
  ·simp at h'
  ·simp only [Value.slice.injEq,Option.some.injEq,Addr.mk.injEq,and_true,true_and] at h'
   obtain ⟨rfl,rfl⟩:=h';have hne:w.heap.size≠w0.heap.size:=by omega
   refine ⟨hne,Nat.zero_le _,by omega,?_,cur,?_,by simp at hcs;omega,fun i _ hi=>?_⟩
   ·rw [heap_alloc_new];rw [hl];rfl
   ·rw [Below.heap_alloc _ _ _ (by omega)];exact YP
   ·have hc:=congrArg (fun l:List Value=>l[i]?) YQ
    simp only [Nat.mul_one,List.getElem?_take] at hc;rw [if_pos (by omega)] at hc;rw [<- Array.getElem?_toList,hc];simp [List.getD,List.getElem?_eq_getElem hi]
 ·exact gQ hg (World.grownBy_alloc _ _ _)
theorem Gk (R G:Nat)(zs:List Int)(p:Nat)(e:Int)(w:World)(h:Rd w R G zs p e) :
  Calls Tryz.prog 241 #[.pointer (some ⟨R,0,none⟩)] w fun en w'=>en=.returned (.tuple #[.int .i64 e,.int .i64 p])/\Qt w w':=by
 obtain ⟨c0,c1,c2,f1,f2⟩:=h.cells;clear h;go_enter Tryz.func241,Tryz.ntmps241;go_wp2
 go_quiet (fail)
 go_wp2
 go_ret2
 exact ⟨rfl,Qt.drewN _ _⟩
theorem iC (R G:Nat)(zs:List Int)(p:Nat)(e':Int)(w:World)(h:Rd w R G zs p 0) :
  Calls Tryz.prog 258 #[.pointer (some ⟨R,0,none⟩),.int .i64 e'] w fun en w'=>en=.returned (.tuple #[])/\Rd w' R G zs p e'/\w.grownBy w' (some R):=by
 obtain ⟨c0,c1,c2,f1,f2⟩:=h.cells;have HR:Hid (Rd w R G zs p 0):=h;clear h;go_enter Tryz.func258,Tryz.ntmps258;go_wp2
 go_end0
 have:=HR.out.VD e';exact ⟨rfl,this.1,this.2⟩
theorem gH (R G:Nat)(zs:List Int)(p:Nat)(e e':Int)(w:World)(h:Rd w R G zs p e)(he:(e==0)=false) :
  Calls Tryz.prog 258 #[.pointer (some ⟨R,0,none⟩),.int .i64 e'] w fun en w'=>en=.returned (.tuple #[])/\w'=w:=by
 obtain ⟨c0,c1,c2,f1,f2⟩:=h.cells;clear h;go_enter Tryz.func258,Tryz.ntmps258;go_wp2
 go_end0
 exact ⟨rfl,rfl⟩
theorem qx (R G:Nat)(zs:List Int)(p:Nat)(e:Int)(w:World)(h:Rd w R G zs p e)(he:(e==0)=false) :
  Calls Tryz.prog 261 #[.pointer (some ⟨R,0,none⟩)] w fun en w'=>en=.returned (.slice none 0 0)/\Qt w w':=by
 obtain ⟨c0,c1,c2,f1,f2⟩:=h.cells;have he':(e != 0)=true:=by simpa using he
 clear h;go_enter Tryz.func261,Tryz.ntmps261;go_wp2;go_ret;exact ⟨rfl,Qt.refl _⟩
theorem my (R G:Nat)(zs:List Int)(p:Nat)(w:World)(h:Rd w R G zs p 0) :
  Calls Tryz.prog 261 #[.pointer (some ⟨R,0,none⟩)] w fun en w'=>∃ ao,en=.returned (.slice ao (zs.length - p) (zs.length - p))/\(p<zs.length->ao=some ⟨G,p,none⟩)/\Qt w w':=by
 obtain ⟨c0,c1,c2,f1,f2⟩:=h.cells;have h1:=h.le;have h2:=h.max;have hp:(p:Int)<=(zs.length:Int):=by omega
 clear h;go_enter Tryz.func261,Tryz.ntmps261;go_wp2
 go_quiet (fail)
 go_wp2
 ·go_ret
  exact ⟨⟨_,rfl⟩,Qt.drewN _ _⟩
 ·go_ret
  exact ⟨_,rfl,fun _=>rfl,Qt.drewN _ _⟩
theorem qy (R G:Nat)(zs:List Int)(p:Nat)(e:Int)(w:World)(h:Rd w R G zs p e)(he:(e==0)=false) :
  Calls Tryz.prog 217 #[.pointer (some ⟨R,0,none⟩)] w fun en w'=>en=.returned (.int .i64 0)/\Qt w w':=by
 go_enter Tryz.func217,Tryz.ntmps217
 go_wp2_with fail
 refine (qx R G zs p e _ h he).mono ?_;rintro e w' ⟨rfl,hq⟩;clear h;go_wp2;go_ret;exact ⟨rfl,hq⟩
theorem mz (R G:Nat)(zs:List Int)(p:Nat)(w:World)(h:Rd w R G zs p 0) :
  Calls Tryz.prog 217 #[.pointer (some ⟨R,0,none⟩)] w fun en w'=>en=.returned (.int .i64 ((zs.length - p:Nat):Int))/\Qt w w':=by
 go_enter Tryz.func217,Tryz.ntmps217
 go_wp2_with fail
 refine (my R G zs p _ h).mono ?_;rintro e w' ⟨ao,rfl,hao,hq⟩;clear h hao;go_wp2;go_ret;exact ⟨rfl,hq⟩
theorem fg (R G:Nat)(zs:List Int)(p m:Nat)(w:World)(h:Rd w R G zs p 0)(hm:p+m<=zs.length) :
  Calls Tryz.prog 211 #[.pointer (some ⟨R,0,none⟩),.int .i64 m] w fun en w'=>∃ ao,en=.returned (.slice ao m m)/\(0<m->ao=some ⟨G,p,none⟩)/\ai w' ao m m ((zs.drop p).take m)/\Rd w' R G zs (p+m) 0/\w.grownBy w' (some R):=by
 have HR:Hid (Rd w R G zs p 0):=h;have h2:=h.max;clear h;go_enter Tryz.func211,Tryz.ntmps211
 go_wp2_with fail
 refine (mz R G zs p _ HR.out).mono ?_;rintro e w1 ⟨rfl,hq⟩;have fV:Hid (Rd w1 R G zs p 0):=HR.out.qt hq;have HQ:Hid (Qt w w1):=hq;obtain ⟨c0,c1,c2,f1,f2⟩:=fV.out.cells;clear hq;go_wp2
 go_quiet (fail)
 go_wp2
 ·go_ret
  have hm0:m=0:=by omega
  subst hm0;obtain ⟨r1,r2⟩:=(fV.out.qt (Qt.drewN w1 nq)).nD p ((p:Int)+((0:Nat):Int)) (by omega) (by omega) (by omega);exact ⟨_,rfl,fun h=>by omega,⟨by simp,(fun h=>by cases h),(fun _ _ j u hu=>by simp at hu)⟩,r1,gQ (HQ.out.grown _) (gQ ((Qt.drewN _ _).grown _) r2)⟩
 ·go_ret
  obtain ⟨r1,r2⟩:=(fV.out.qt (Qt.drewN w1 nq)).nD (p+m) ((p:Int)+(m:Int)) (by omega) (by omega) (by omega);refine ⟨_,rfl,fun h=>rfl,?_,r1,gQ (HQ.out.grown _) (gQ ((Qt.drewN _ _).grown _) r2)⟩;refine ((fV.out.qt (Qt.drewN w1 nq)).rest m m hm).kept r2 ?_;intro ad had _ e;obtain rfl:=Option.some.inj had;exact fV.out.ne (Option.some.inj e)
theorem ii (R G:Nat)(zs:List Int)(p:Nat)(m:Int)(w:World)(h:Rd w R G zs p 0)(hm:(zs.length:Int) - p<m) :
  Calls Tryz.prog 211 #[.pointer (some ⟨R,0,none⟩),.int .i64 m] w fun en w'=>en=.returned (.slice none 0 0)/\Rd w' R G zs p 10/\w.grownBy w' (some R):=by
 have HR:Hid (Rd w R G zs p 0):=h;have h2:=h.max;have h1:=h.le;clear h;have hm0:0<=m:=by omega
 go_enter Tryz.func211,Tryz.ntmps211
 go_wp2_with fail
 refine (mz R G zs p _ HR.out).mono ?_;rintro e w1 ⟨rfl,hq⟩;have fV:Hid (Rd w1 R G zs p 0):=HR.out.qt hq;have HQ:Hid (Qt w w1):=hq;have hl:((zs.length - p:Nat):Int)<m:=by omega
 clear hq
 go_wp2_with fail
 refine (iC R G zs p 10 _ fV.out).mono ?_;rintro e w2 ⟨rfl,hr,hg⟩;have Mh:Hid (Rd w2 R G zs p 10):=hr;have eu:Hid (w1.grownBy w2 (some R)):=hg;clear hr hg;go_wp2;go_ret;exact ⟨rfl,Mh.out,gQ (HQ.out.grown _) eu.out⟩
theorem IC (R G:Nat)(zs:List Int)(p:Nat)(m:Int)(w:World)(h:Rd w R G zs p 0)(hm:m<0) :
  Calls Tryz.prog 211 #[.pointer (some ⟨R,0,none⟩),.int .i64 m] w fun en w'=>en=.returned (.slice none 0 0)/\Rd w' R G zs p 10/\w.grownBy w' (some R):=by
 have HR:Hid (Rd w R G zs p 0):=h;clear h;go_enter Tryz.func211,Tryz.ntmps211
 go_wp2_with fail
 refine (iC R G zs p 10 _ HR.out).mono ?_;rintro e w2 ⟨rfl,hr,hg⟩;have Mh:Hid (Rd w2 R G zs p 10):=hr;have eu:Hid (w.grownBy w2 (some R)):=hg;clear hr hg;go_wp2;go_ret;exact ⟨rfl,Mh.out,eu.out⟩
theorem fY (R G:Nat)(zs:List Int)(p:Nat)(e m:Int)(w:World)(h:Rd w R G zs p e)(he:(e==0)=false) :
  Calls Tryz.prog 211 #[.pointer (some ⟨R,0,none⟩),.int .i64 m] w fun en w'=>∃ ao,en=.returned (.slice ao 0 0)/\Rd w' R G zs p e/\w.grownBy w' (some R):=by
 have HR:Hid (Rd w R G zs p e):=h;have h2:=h.max;have h1:=h.le;clear h;rcases Int.lt_trichotomy m 0 with hm | hm | hm
 ·go_enter Tryz.func211,Tryz.ntmps211
  go_wp2_with fail
  refine (gH R G zs p e 10 _ HR.out he).mono ?_;rintro en w2 ⟨rfl,rfl⟩;go_wp2;go_ret;exact ⟨_,rfl,HR.out,(Qt.refl _).grown _⟩
 ·subst hm
  go_enter Tryz.func211,Tryz.ntmps211
  go_wp2_with fail
  refine (qy R G zs p e _ HR.out he).mono ?_;rintro en w1 ⟨rfl,hq⟩;have fV:Hid (Rd w1 R G zs p e):=HR.out.qt hq;have HQ:Hid (Qt w w1):=hq;obtain ⟨c0,c1,c2,f1,f2⟩:=fV.out.cells;have hp:(p:Int)<=(zs.length:Int):=by omega
  clear hq;go_wp2
  go_quiet (fail)
  go_wp2;go_ret;obtain ⟨r1,r2⟩:=(fV.out.qt (Qt.drewN w1 nq)).nD p (p:Int) rfl (Nat.le_refl _) h1;exact ⟨_,rfl,r1,gQ (HQ.out.grown _) (gQ ((Qt.drewN _ _).grown _) r2)⟩
 ·go_enter Tryz.func211,Tryz.ntmps211
  go_wp2_with fail
  refine (qy R G zs p e _ HR.out he).mono ?_;rintro en w1 ⟨rfl,hq⟩;have fV:Hid (Rd w1 R G zs p e):=HR.out.qt hq;have HQ:Hid (Qt w w1):=hq;clear hq
  go_wp2_with fail
  refine (gH R G zs p e 10 _ fV.out he).mono ?_;rintro en w2 ⟨rfl,rfl⟩;go_wp2;go_ret;exact ⟨_,rfl,fV.out,HQ.out.grown _⟩
theorem TW (z:Int)(i:Nat)(hz:0<=z):z*2 ^ (7*i)=((z.toNat*128 ^ i:Nat):Int):=by
 have e:(2:Nat) ^ (7*i)=128 ^ i:=by rw [Nat.pow_mul]
 have e2:(2:Int) ^ (7*i)=((128 ^ i:Nat):Int):=by rw [<- e];simp
 rw [e2,Int.natCast_mul,Int.toNat_of_nonneg hz]
theorem Ao (a i:Nat)(z:Int)(hz:0<=z)(ha:a<128 ^ i)(hb:z.toNat*128 ^ i<18446744073709551616)(Ap:a<18446744073709551616) :
  bits BinOp.or IntKind.u64 (a:Int) (z*2 ^ (7*i))=((a+z.toNat*128 ^ i:Nat):Int):=by
 rw [TW z i hz,u64_or_nat a _ Ap hb,Nat.or_comm,nat_join (7*i) _ _ ?_ ?_,Nat.add_comm]
 ·rw [Nat.pow_mul];exact Nat.mul_mod_left _ _
 ·rw [Nat.pow_mul];exact ha
theorem Aq (a i:Nat)(z:Int)(hz:0<=z)(ha:a<128 ^ i)(hb:z.toNat*128 ^ i<18446744073709551616)(Ap:a<18446744073709551616) :
  bits BinOp.or IntKind.u64 (a:Int) (IntKind.u64.wrap (z*2 ^ (7*i)))=((a+z.toNat*128 ^ i:Nat):Int):=by
 rw [IntKind.wrap_u64];have h1:z*2 ^ (7*i) % 18446744073709551616=z*2 ^ (7*i):=by rw [TW z i hz];omega
 rw [h1];exact Ao a i z hz ha hb Ap
theorem Ar (i:Nat)(hi:i<=9):128 ^ i<=9223372036854775808:=by
 have:128 ^ i<=128 ^ 9:=Nat.pow_le_pow_right (by omega) hi;omega
theorem Mi (i:Nat)(hi:i<=8):128 ^ i<=72057594037927936:=by
 have:128 ^ i<=128 ^ 8:=Nat.pow_le_pow_right (by omega) hi;omega
theorem wR (z:Int)(i:Nat)(hi:i<=8)(hz:z<=127):z.toNat*128 ^ i<18446744073709551616:=by
 have h:=Mi i hi;have:z.toNat*128 ^ i<=127*128 ^ i:=Nat.mul_le_mul_right _ (by omega);omega
theorem jh (a i:Nat)(z:Int)(w:World)(hz0:0<=z)(hz1:z<128)(hi:i<=9)(ha:a<128 ^ i) :
  Calls Tryz.prog 292 #[.int .u64 a,.int .i64 i,.int .u8 z] w fun en w'=>en=.returned (.tuple #[.int .u64 (jJ a i z).1,.int .i64 (jJ a i z).2.1,.int .i64 (jJ a i z).2.2])/\w'=w:=by
 have Ap:a<18446744073709551616:=by have:=Ar i hi;omega
 have HA:Hid (a<128 ^ i):=ha;clear ha
 by_cases h9:i=9
 ·subst h9
  by_cases hz:1<z
  ·have e:jJ a 9 z=(0,0,12):=by rw [jJ,if_pos ⟨rfl,hz⟩]
   rw [e];clear e;go_enter Tryz.func292,Tryz.ntmps292;go_wp2
   go_ret3
   exact ⟨rfl,rfl⟩
  ·by_cases h0:z=0
   ·subst h0
    have e:jJ a 9 0=(0,0,11):=by rw [jJ,if_neg (by omega),if_pos ⟨by omega,rfl⟩]
    rw [e];clear e;go_enter Tryz.func292,Tryz.ntmps292;go_wp2
    go_ret3
    exact ⟨rfl,rfl⟩
   ·have hz1:z=1:=by omega
    subst hz1;have e:jJ a 9 1=(a+(1:Int).toNat*128 ^ 9,9+1,0):=by rw [jJ,if_neg (by omega),if_neg (by omega)]
    have eo:bits BinOp.or IntKind.u64 (a:Int) 9223372036854775808=(a:Int)+9223372036854775808:=by
     have:=Ao a 9 1 (by omega) HA.out (by decide) Ap;simpa using this
    rw [e];have HE:Hid (bits BinOp.or IntKind.u64 (a:Int) 9223372036854775808=(a:Int)+9223372036854775808):=eo;clear e eo;go_enter Tryz.func292,Tryz.ntmps292;go_wp2
    go_ret3
    refine ⟨?_,rfl⟩
    show Ending.returned (.tuple #[.int .u64 (bits BinOp.or IntKind.u64 (a:Int) 9223372036854775808),.int .i64 10,.int .i64 0])=_
    rw [HE.out]
 ·by_cases h0:0<i/\z=0
  ·obtain ⟨LA,rfl⟩:=h0
   have e:jJ a i 0=(0,0,11):=by rw [jJ,if_neg (by omega),if_pos ⟨by omega,rfl⟩]
   rw [e];clear e;have Dz:((i:Int)==9)=false:=by simp;omega
   go_enter Tryz.func292,Tryz.ntmps292;go_wp2
   go_ret3
   exact ⟨rfl,rfl⟩
  ·have e:jJ a i z=(a+z.toNat*128 ^ i,i+1,0):=by rw [jJ,if_neg (by omega),if_neg h0]
   have eo:=Aq a i z hz0 HA.out (wR z i (by omega) (by omega)) Ap;rw [e];have HE:Hid (bits BinOp.or IntKind.u64 (a:Int) (IntKind.u64.wrap (z*2 ^ (7*i)))=((a+z.toNat*128 ^ i:Nat):Int)):=eo;clear e eo;have Dz:((i:Int)==9)=false:=by simp;omega
   by_cases LA:0<i
   ·have hz:(z==0)=false:=by simp;intro h;exact h0 ⟨LA,h⟩
    clear h0;go_enter Tryz.func292,Tryz.ntmps292;go_wp2
    go_ret3
    refine ⟨?_,rfl⟩;rw [<- HE.out]
    rfl
   ·clear h0
    go_enter Tryz.func292,Tryz.ntmps292;go_wp2
    go_ret3
    refine ⟨?_,rfl⟩;rw [<- HE.out]
    rfl
theorem jU (ao:Option Addr)(c:Nat)(w:World) :
  Calls Tryz.prog 276 #[.slice ao 0 c] w fun en w'=>en=.returned (.tuple #[.int .u64 0,.int .i64 0,.int .i64 10])/\w'=w:=by
 go_enter Tryz.func276,Tryz.ntmps276;go_wp2;refine wp_loop_rounds 1 ?_;rw [rounds_succ];go_wp2
 go_ret3
 exact ⟨rfl,rfl⟩
theorem Gl (h:k<zs.length):zs.drop k=zs.getD k 0::zs.drop (k+1):=by
 rw [List.drop_eq_getElem_cons h];simp [List.getD,List.getElem?_eq_getElem h]
theorem tq (hk:k<10)(hl:k<zs.length)(hz:z=zs.getD k 0)(h128:z<128)(h:scan (10 - k) k a (zs.drop k)=rv zs):rv zs=jJ a k z:=by
 rw [<- h,Gl hl,<- hz,show 10 - k=(9 - k)+1 by omega,scan,if_pos h128]
theorem ID (hk:k<10)(hl:k<zs.length)(hz:z=zs.getD k 0)(h128:¬ z<128)(h:scan (10 - k) k a (zs.drop k)=rv zs) :
  scan (10 - (k+1)) (k+1) (a+(z - 128).toNat*128 ^ k) (zs.drop (k+1))=rv zs:=by
 rw [<- h,Gl hl,<- hz,show 10 - k=(9 - k)+1 by omega,scan,if_neg h128,show 10 - (k+1)=9 - k by omega]
def cu (zs:List Int)(M:Nat)(w:World)(sx si:Value)(wr:World):Prop :=
 ∃ (k:Nat) (X:Int),k<=M/\si=.int .i64 k/\sx=.int .u64 X/\wr=w/\(k<10->∃ a:Nat,X=(a:Int)/\a<128 ^ k/\scan (10 - k) k a (zs.drop k)=rv zs)/\(k=10->rv zs=(0,0,12))
theorem cu.start (zs:List Int)(M:Nat)(w:World):cu zs M w (.int .u64 0) (.int .i64 0) w :=
 ⟨0,0,Nat.zero_le _,rfl,rfl,rfl,fun _=>⟨0,rfl,by simp,rfl⟩,fun h=>by omega⟩
theorem cu.next {M:Nat}(hk:k<M)(hM:M<=10)(hl:k<zs.length)(hz:z=zs.getD k 0)(hz1:z<=255)(h128:¬ z<128)(ha:a<128 ^ k)(h:scan (10 - k) k a (zs.drop k)=rv zs)
  (X':Int) (hX:X'=bits BinOp.or IntKind.u64 (a:Int) (IntKind.u64.wrap ((z - 128)*2 ^ (7*k)))) (I:Int) (hI:I=(k:Int)+1):cu zs M w (.int .u64 X') (.int .i64 I) w:=by
 have hm:=ID (by omega) hl hz h128 h;have Ap:a<18446744073709551616:=by have:=Ar k (by omega);omega
 subst hX hI;refine ⟨k+1,_,by omega,by go_num,rfl,rfl,fun Df=>⟨a+(z - 128).toNat*128 ^ k,?_,?_,hm⟩,fun Df=>?_⟩
 ·exact Aq a k (z - 128) (by omega) ha (wR (z - 128) k (by omega) (by omega)) Ap
 ·have:(z - 128).toNat*128 ^ k<=127*128 ^ k:=Nat.mul_le_mul_right _ (by omega)
  rw [Nat.pow_succ];omega
 ·rw [<- hm,Df];rfl
theorem tu (b off n c:Nat)(zs:List Int)(w:World)(hc:n<=c)(hcm:c<=1099511627776)(hn:0<n)(hb:ai w (some ⟨b,off,none⟩) n c zs)(bp:Bt zs) :
  Calls Tryz.prog 276 #[.slice (some ⟨b,off,none⟩) n c] w fun en w'=>en=.returned (.tuple #[.int .u64 (rv zs).1,.int .i64 (rv zs).2.1,.int .i64 (rv zs).2.2])/\w'=w:=by
 have hcell:∀ i,i<n->w.cell? ⟨b,off+i,none⟩=some (.int .u8 (zs.getD i 0)):=by
  obtain ⟨b',off',e,_,h⟩:=hb.at hn;simp at e;obtain ⟨rfl,rfl⟩:=e;exact h
 have HL:Hid (zs.length=n):=hb.len;have DA:Hid (Bt zs):=bp;have HC:Hid (∀ i,i<n->w.cell? ⟨b,off+i,none⟩=some (.int .u8 (zs.getD i 0))):=hcell;clear hb bp hcell
 by_cases h10:n<10
 ·have adM:¬ (10:Int)<(n:Int):=by omega
  go_enter Tryz.func276,Tryz.ntmps276;go_wp2;go_loopw [5,14] (fun sx si wr=>cu zs n w sx si wr) (fun _ si _=>n - (intOf si).toNat)
  case atStart=>exact cu.start zs n w
  case round =>
   obtain ⟨k,X,hk,rfl,rfl,rfl,h1,h2⟩:=hrel;have H1:Hid (k<10->∃ a:Nat,X=(a:Int)/\a<128 ^ k/\scan (10 - k) k a (zs.drop k)=rv zs):=h1;have H2:Hid (k=10->rv zs=(0,0,12)):=h2;clear h1 h2
   by_cases hlt:k<n
   ·obtain ⟨a,rfl,ha,hs⟩:=H1.out (by omega)
    have HA:Hid (a<128 ^ k):=ha;have HS:Hid (scan (10 - k) k a (zs.drop k)=rv zs):=hs;obtain ⟨z,hz⟩:∃ z,z=zs.getD k 0:=⟨_,rfl⟩;have hcell:wr.cell? ⟨b,off+k,none⟩=some (.int .u8 z):=by rw [hz];exact HC.out k (by omega)
    have hzb:0<=z/\z<=255:=by rw [hz];exact DA.out.getD k
    obtain ⟨hz0,hz1⟩:=hzb;have HZ:Hid (z=zs.getD k 0):=hz;clear ha hs hz
    by_cases h128:z<128
    ·go_wp2_with fail
     refine (jh a k z _ hz0 h128 (by omega) HA.out).mono ?_;rintro e w1 ⟨rfl,rfl⟩;have he:=tq (by omega) (by rw [HL.out];omega) HZ.out h128 HS.out;rw [<- he];clear he;go_wp2
     go_ret3
     exact ⟨rfl,rfl⟩
    ·go_wp2
     go_roundw
     case rel=>exact cu.next hlt (by omega) (by rw [HL.out];omega) HZ.out hz1 h128 HA.out HS.out _ rfl _ (by first | rfl | omega)
     case measure=>simp [intOf];omega
   ·have hkn:k=n:=by omega
    obtain ⟨a,_,_,hs⟩:=H1.out (by omega)
    have he:rv zs=(0,0,10):=by
     rw [<- hs,hkn,List.drop_eq_nil_of_le (by rw [HL.out];exact Nat.le_refl _),show 10 - n=(9 - n)+1 by omega];rfl
    have HE:Hid (rv zs=(0,0,10)):=he;clear he hs;go_wp2
    go_ret3
    rw [HE.out];exact ⟨rfl,rfl⟩
 ·by_cases h11:n=10
  ·subst h11
   have he0:True:=trivial;go_enter Tryz.func276,Tryz.ntmps276;go_wp2;go_loopw [5,14] (fun sx si wr=>cu zs 10 w sx si wr) (fun _ si _=>10 - (intOf si).toNat)
   case atStart=>exact cu.start zs 10 w
   case round =>
    obtain ⟨k,X,hk,rfl,rfl,rfl,h1,h2⟩:=hrel;have H1:Hid (k<10->∃ a:Nat,X=(a:Int)/\a<128 ^ k/\scan (10 - k) k a (zs.drop k)=rv zs):=h1;have H2:Hid (k=10->rv zs=(0,0,12)):=h2;clear h1 h2
    by_cases hlt:k<10
    ·obtain ⟨a,rfl,ha,hs⟩:=H1.out (by omega)
     have HA:Hid (a<128 ^ k):=ha;have HS:Hid (scan (10 - k) k a (zs.drop k)=rv zs):=hs;obtain ⟨z,hz⟩:∃ z,z=zs.getD k 0:=⟨_,rfl⟩;have hcell:wr.cell? ⟨b,off+k,none⟩=some (.int .u8 z):=by rw [hz];exact HC.out k (by omega)
     have hzb:0<=z/\z<=255:=by rw [hz];exact DA.out.getD k
     obtain ⟨hz0,hz1⟩:=hzb;have HZ:Hid (z=zs.getD k 0):=hz;clear ha hs hz
     by_cases h128:z<128
     ·go_wp2_with fail
      refine (jh a k z _ hz0 h128 (by omega) HA.out).mono ?_;rintro e w1 ⟨rfl,rfl⟩;have he:=tq (by omega) (by rw [HL.out];omega) HZ.out h128 HS.out;rw [<- he];clear he;go_wp2
      go_ret3
      exact ⟨rfl,rfl⟩
     ·go_wp2
      go_roundw
      case rel=>exact cu.next hlt (by omega) (by rw [HL.out];omega) HZ.out hz1 h128 HA.out HS.out _ rfl _ (by first | rfl | omega)
      case measure=>simp [intOf];omega
    ·have hkn:k=10:=by omega
     have he:=H2.out hkn;have HE:Hid (rv zs=(0,0,12)):=he;clear he;go_wp2
     go_ret3
     rw [HE.out];exact ⟨rfl,rfl⟩
  ·have adM:(10:Int)<(n:Int):=by omega
   go_enter Tryz.func276,Tryz.ntmps276;go_wp2;go_loopw [5,14] (fun sx si wr=>cu zs 10 w sx si wr) (fun _ si _=>10 - (intOf si).toNat)
   case atStart=>exact cu.start zs 10 w
   case round =>
    obtain ⟨k,X,hk,rfl,rfl,rfl,h1,h2⟩:=hrel;have H1:Hid (k<10->∃ a:Nat,X=(a:Int)/\a<128 ^ k/\scan (10 - k) k a (zs.drop k)=rv zs):=h1;have H2:Hid (k=10->rv zs=(0,0,12)):=h2;clear h1 h2
    by_cases hlt:k<10
    ·obtain ⟨a,rfl,ha,hs⟩:=H1.out (by omega)
     have HA:Hid (a<128 ^ k):=ha;have HS:Hid (scan (10 - k) k a (zs.drop k)=rv zs):=hs;obtain ⟨z,hz⟩:∃ z,z=zs.getD k 0:=⟨_,rfl⟩;have hcell:wr.cell? ⟨b,off+k,none⟩=some (.int .u8 z):=by rw [hz];exact HC.out k (by omega)
     have hzb:0<=z/\z<=255:=by rw [hz];exact DA.out.getD k
     obtain ⟨hz0,hz1⟩:=hzb;have HZ:Hid (z=zs.getD k 0):=hz;clear ha hs hz
     by_cases h128:z<128
     ·go_wp2_with fail
      refine (jh a k z _ hz0 h128 (by omega) HA.out).mono ?_;rintro e w1 ⟨rfl,rfl⟩;have he:=tq (by omega) (by rw [HL.out];omega) HZ.out h128 HS.out;rw [<- he];clear he;go_wp2
      go_ret3
      exact ⟨rfl,rfl⟩
     ·go_wp2
      go_roundw
      case rel=>exact cu.next hlt (by omega) (by rw [HL.out];omega) HZ.out hz1 h128 HA.out HS.out _ rfl _ (by first | rfl | omega)
      case measure=>simp [intOf];omega
    ·have hkn:k=10:=by omega
     have he:=H2.out hkn;have HE:Hid (rv zs=(0,0,12)):=he;clear he;go_wp2
     go_ret3
     rw [HE.out];exact ⟨rfl,rfl⟩
theorem lW (ao:Option Addr)(G p n:Nat)(zs:List Int)(w:World)(hm:n<=1099511627776)(hl:zs.length=n)(hao:0<n->ao=some ⟨G,p,none⟩)(hb:ai w (some ⟨G,p,none⟩) n n zs)(bp:Bt zs) :
  Calls Tryz.prog 276 #[.slice ao n n] w fun en w'=>en=.returned (.tuple #[.int .u64 (rv zs).1,.int .i64 (rv zs).2.1,.int .i64 (rv zs).2.2])/\w'=w:=by
 rcases Nat.eq_zero_or_pos n with h | h
 ·subst h
  have:zs=[]:=List.length_eq_zero_iff.1 hl;subst this;exact jU ao 0 w
 ·rw [hao h];exact tu G p n n zs w (Nat.le_refl _) hm h hb bp
theorem Mj (R G:Nat)(zs:List Int)(p:Nat)(e:Int)(w:World)(h:Rd w R G zs p e)(he:(e==0)=false) :
  Calls Tryz.prog 239 #[.pointer (some ⟨R,0,none⟩)] w fun en w'=>en=.returned (.int .u64 0)/\Rd w' R G zs p e/\w.grownBy w' (some R):=by
 have HR:Hid (Rd w R G zs p e):=h;clear h;go_enter Tryz.func239,Tryz.ntmps239
 go_wp2_with fail
 refine (qx R G zs p e _ HR.out he).mono ?_;rintro en w1 ⟨rfl,hq⟩;have fV:Hid (Rd w1 R G zs p e):=HR.out.qt hq;have HQ:Hid (Qt w w1):=hq;clear hq
 go_wp2_with fail
 refine (jU none 0 _).mono ?_;rintro en w2 ⟨rfl,rfl⟩
 go_wp2_with fail
 refine (gH R G zs p e 10 _ fV.out he).mono ?_;rintro en w2 ⟨rfl,rfl⟩;go_wp2;go_ret;exact ⟨rfl,fV.out,HQ.out.grown _⟩
theorem YR (R G:Nat)(zs:List Int)(p:Nat)(er:Int)(w:World)(h:Rd w R G zs p 0)(bp:Bt zs)(hv:rv (zs.drop p)=(0,0,er))(he:(er != 0)=true) :
  Calls Tryz.prog 239 #[.pointer (some ⟨R,0,none⟩)] w fun en w'=>en=.returned (.int .u64 0)/\Rd w' R G zs p er/\w.grownBy w' (some R):=by
 have HR:Hid (Rd w R G zs p 0):=h;have HV:Hid (rv (zs.drop p)=(0,0,er)):=hv;clear h hv;go_enter Tryz.func239,Tryz.ntmps239
 go_wp2_with fail
 refine (my R G zs p _ HR.out).mono ?_;rintro en w1 ⟨ao,rfl,hao,hq⟩;have fV:Hid (Rd w1 R G zs p 0):=HR.out.qt hq;have HQ:Hid (Qt w w1):=hq;have HO:Hid (p<zs.length->ao=some ⟨G,p,none⟩):=hao;clear hq hao
 go_wp2_with fail
 have hby:ai w1 (some ⟨G,p,none⟩) (zs.length - p) (zs.length - p) (zs.drop p):=by
  have:=fV.out.rest (zs.length - p) (zs.length - p) (by have:=fV.out.le;omega)
  rwa [List.take_of_length_le (by simp)] at this
 refine (lW ao G p (zs.length - p) (zs.drop p) _ (by have:=fV.out.max;omega) (by simp) (fun h=>HO.out (by omega)) hby (bp.drop p)).mono ?_;rintro en w2 ⟨rfl,rfl⟩;rw [HV.out];clear hby
 go_wp2_with fail
 refine (iC R G zs p er _ fV.out).mono ?_;rintro en w3 ⟨rfl,hr,hg⟩;have HR3:Hid (Rd w3 R G zs p er):=hr;have rq:Hid (w2.grownBy w3 (some R)):=hg;clear hr hg;go_wp2;go_ret;exact ⟨rfl,HR3.out,gQ (HQ.out.grown _) rq.out⟩
theorem adO (R G:Nat)(zs:List Int)(p x n:Nat)(w:World)(h:Rd w R G zs p 0)(bp:Bt zs)(hv:rv (zs.drop p)=(x,n,0)) :
  Calls Tryz.prog 239 #[.pointer (some ⟨R,0,none⟩)] w fun en w'=>en=.returned (.int .u64 x)/\Rd w' R G zs (p+n) 0/\w.grownBy w' (some R):=by
 have HR:Hid (Rd w R G zs p 0):=h;have HV:Hid (rv (zs.drop p)=(x,n,0)):=hv;have hn:=(sw (zs.drop p) x n (bp.drop p) hv).2.2.2.2;have hmx:=h.max;have hle:=h.le;rw [List.length_drop] at hn;clear h hv;go_enter Tryz.func239,Tryz.ntmps239
 go_wp2_with fail
 refine (my R G zs p _ HR.out).mono ?_;rintro en w1 ⟨ao,rfl,hao,hq⟩;have fV:Hid (Rd w1 R G zs p 0):=HR.out.qt hq;have HQ:Hid (Qt w w1):=hq;have HO:Hid (p<zs.length->ao=some ⟨G,p,none⟩):=hao;clear hq hao
 go_wp2_with fail
 have hby:ai w1 (some ⟨G,p,none⟩) (zs.length - p) (zs.length - p) (zs.drop p):=by
  have:=fV.out.rest (zs.length - p) (zs.length - p) (by omega)
  rwa [List.take_of_length_le (by simp)] at this
 refine (lW ao G p (zs.length - p) (zs.drop p) _ (by omega) (by simp) (fun h=>HO.out (by omega)) hby (bp.drop p)).mono ?_;rintro en w2 ⟨rfl,rfl⟩;rw [HV.out];obtain ⟨c0,c1,c2,f1,f2⟩:=fV.out.cells;clear hby;go_wp2;go_ret;obtain ⟨r1,r2⟩:=fV.out.nD (p+n) ((p:Int)+(n:Int)) (by omega) (by omega) (by omega);exact ⟨rfl,r1,gQ (HQ.out.grown _) r2⟩
theorem TX (z:Int)(i:Nat)(hz:0<=z):z*2 ^ (8*i)=((z.toNat*256 ^ i:Nat):Int):=by
 have e:(2:Nat) ^ (8*i)=256 ^ i:=by rw [Nat.pow_mul]
 have e2:(2:Int) ^ (8*i)=((256 ^ i:Nat):Int):=by rw [<- e];simp
 rw [e2,Int.natCast_mul,Int.toNat_of_nonneg hz]
theorem Qq (a i:Nat)(z:Int)(hz:0<=z)(hz1:z<=255)(hi:i<=7)(ha:a<256 ^ i) :
  bits BinOp.or IntKind.u64 (a:Int) (IntKind.u64.wrap (z*2 ^ (8*i)))=((a+z.toNat*256 ^ i:Nat):Int):=by
 have hp:256 ^ i<=256 ^ 7:=Nat.pow_le_pow_right (by omega) hi;have hb:z.toNat*256 ^ i<=255*256 ^ i:=Nat.mul_le_mul_right _ (by omega);have h1:z*2 ^ (8*i) % 18446744073709551616=z*2 ^ (8*i):=by rw [TX z i hz];omega
 rw [IntKind.wrap_u64,h1,TX z i hz,u64_or_nat a _ (by omega) (by omega),Nat.or_comm,nat_join (8*i) _ _ ?_ ?_,Nat.add_comm]
 ·rw [Nat.pow_mul];exact Nat.mul_mod_left _ _
 ·rw [Nat.pow_mul];exact ha
def iD (bs:List Int)(w:World)(sx si:Value)(wr:World):Prop :=
 ∃ (k a:Nat),k<=bs.length/\si=.int .i64 k/\sx=.int .u64 (a:Int)/\wr=w/\a=le k bs
theorem iD.next {bs:List Int}(hk:k<bs.length)(h8:bs.length<=8)(hb:Bt bs)(hz:z=bs.getD k 0)(ha:a=le k bs)
  (X':Int) (hX:X'=bits BinOp.or IntKind.u64 (a:Int) (IntKind.u64.wrap (z*2 ^ (8*k)))) (I:Int) (hI:I=(k:Int)+1):iD bs w (.int .u64 X') (.int .i64 I) w:=by
 subst hX hI;have hz':=hb.getD k;rw [<- hz] at hz';have hlt:=dQ k bs hb;refine ⟨k+1,le (k+1) bs,by omega,by go_num,?_,rfl,rfl⟩;rw [Qq a k z hz'.1 hz'.2 (by omega) (by rw [ha];exact hlt),Gh k bs hk,ha,hz]
theorem nE (k:Nat):∀ zs:List Int,le k (zs.take k)=le k zs:=by
 induction k with
 | zero=>intro zs;rfl
 | succ k ih =>
  intro zs;cases zs with
  | nil=>rfl
  | cons z zs=>rw [List.take_succ_cons,le,le,ih]
theorem tv (R G:Nat)(zs:List Int)(p:Nat)(w:World)(h:Rd w R G zs p 0)(bp:Bt zs)(hp:p+2<=zs.length) :
  Calls Tryz.prog 238 #[.pointer (some ⟨R,0,none⟩)] w fun en w'=>en=.returned (.int .u16 (le 2 (zs.drop p):Nat))/\Rd w' R G zs (p+2) 0/\w.grownBy w' (some R):=by
 have HR:Hid (Rd w R G zs p 0):=h;clear h;go_enter Tryz.func238,Tryz.ntmps238
 go_wp2_with fail
 refine (lj _).mono ?_;rintro en w0 ⟨rfl,rfl⟩
 go_wp2_with fail
 refine (fg R G zs p 2 _ HR.out hp).mono ?_;rintro en w1 ⟨ao,rfl,hao,hby,hr,hg⟩;have hao':=hao (by omega);subst hao';have fV:Hid (Rd w1 R G zs (p+2) 0):=hr;have bj:Hid (w0.grownBy w1 (some R)):=hg;have HB:Hid (Bt ((zs.drop p).take 2)):=(bp.drop p).take 2;have hlen:((zs.drop p).take 2).length=2:=by simp;omega
 obtain ⟨bs,ru⟩:∃ bs,bs=(zs.drop p).take 2:=⟨_,rfl⟩;rw [<- ru] at hby hlen HB;have HF:Hid (le 2 (zs.drop p)=le 2 bs):=by rw [ru];exact (nE 2 _).symm
 have HC:Hid (∀ i,i<2->w1.cell? ⟨G,p+i,none⟩=some (.int .u8 (bs.getD i 0))):=by
  obtain ⟨b',off',e,_,hh⟩:=hby.at (by omega);simp at e;obtain ⟨rfl,rfl⟩:=e;exact hh
 have HL:Hid (bs.length=2):=hlen;clear hao hby hr hg hlen ru;go_wp2;go_loopw [3,10] (fun sx si wr=>iD bs w1 sx si wr) (fun _ si _=>2 - (intOf si).toNat)
 case atStart=>exact ⟨0,0,Nat.zero_le _,rfl,rfl,rfl,rfl⟩
 case round =>
  obtain ⟨k,a,hk,rfl,rfl,rfl,ha⟩:=hrel;have hk':k<=2:=by rw [HL.out] at hk;exact hk
  have HA:Hid (a=le k bs):=ha;clear hk ha
  by_cases hlt:k<2
  ·obtain ⟨z,hz⟩:∃ z,z=bs.getD k 0:=⟨_,rfl⟩
   have hcell:wr.cell? ⟨G,p+k,none⟩=some (.int .u8 z):=by rw [hz];exact HC.out k hlt
   have hzb:0<=z/\z<=255:=by rw [hz];exact HB.out.getD k
   obtain ⟨hz0,hz1⟩:=hzb;have HZ:Hid (z=bs.getD k 0):=hz;clear hz;go_wp2;go_roundw
   case rel=>exact iD.next (by rw [HL.out];exact hlt) (by rw [HL.out];omega) HB.out HZ.out HA.out _ rfl _ (by first | rfl | omega)
   case measure=>simp [intOf];omega
  ·have hkn:k=2:=by omega
   subst hkn;have zX:a<65536:=by rw [HA.out];exact dQ 2 bs HB.out
   go_wp2;go_ret;rw [HF.out,<- HA.out];exact ⟨rfl,fV.out,bj.out⟩
theorem vP (R G:Nat)(zs:List Int)(p:Nat)(w:World)(h:Rd w R G zs p 0)(hp:zs.length<p+2) :
  Calls Tryz.prog 238 #[.pointer (some ⟨R,0,none⟩)] w fun en w'=>en=.returned (.int .u16 0)/\Rd w' R G zs p 10/\w.grownBy w' (some R):=by
 have HR:Hid (Rd w R G zs p 0):=h;clear h;go_enter Tryz.func238,Tryz.ntmps238
 go_wp2_with fail
 refine (lj _).mono ?_;rintro en w0 ⟨rfl,rfl⟩
 go_wp2_with fail
 refine (ii R G zs p 2 _ HR.out (by omega)).mono ?_;rintro en w1 ⟨rfl,hr,hg⟩;have fV:Hid (Rd w1 R G zs p 10):=hr;have bj:Hid (w0.grownBy w1 (some R)):=hg;clear hr hg;go_wp2;refine wp_loop_rounds 1 ?_;rw [rounds_succ];go_wp2;go_ret;exact ⟨rfl,fV.out,bj.out⟩
theorem tx (R G:Nat)(zs:List Int)(p:Nat)(e:Int)(w:World)(h:Rd w R G zs p e)(he:(e==0)=false) :
  Calls Tryz.prog 238 #[.pointer (some ⟨R,0,none⟩)] w fun en w'=>en=.returned (.int .u16 0)/\Rd w' R G zs p e/\w.grownBy w' (some R):=by
 have HR:Hid (Rd w R G zs p e):=h;clear h;go_enter Tryz.func238,Tryz.ntmps238
 go_wp2_with fail
 refine (lj _).mono ?_;rintro en w0 ⟨rfl,rfl⟩
 go_wp2_with fail
 refine (fY R G zs p e 2 _ HR.out he).mono ?_;rintro en w1 ⟨ao,rfl,hr,hg⟩;have fV:Hid (Rd w1 R G zs p e):=hr;have bj:Hid (w0.grownBy w1 (some R)):=hg;clear hr hg;go_wp2;refine wp_loop_rounds 1 ?_;rw [rounds_succ];go_wp2;go_ret;exact ⟨rfl,fV.out,bj.out⟩
theorem pG (R G:Nat)(zs:List Int)(p:Nat)(w:World)(h:Rd w R G zs p 0)(bp:Bt zs)(hp:p+1<=zs.length) :
  Calls Tryz.prog 221 #[.pointer (some ⟨R,0,none⟩)] w fun en w'=>en=.returned (.int .u8 (le 1 (zs.drop p):Nat))/\Rd w' R G zs (p+1) 0/\w.grownBy w' (some R):=by
 have HR:Hid (Rd w R G zs p 0):=h;clear h;go_enter Tryz.func221,Tryz.ntmps221
 go_wp2_with fail
 refine (nA _).mono ?_;rintro en w0 ⟨rfl,rfl⟩
 go_wp2_with fail
 refine (fg R G zs p 1 _ HR.out hp).mono ?_;rintro en w1 ⟨ao,rfl,hao,hby,hr,hg⟩;have hao':=hao (by omega);subst hao';have fV:Hid (Rd w1 R G zs (p+1) 0):=hr;have bj:Hid (w0.grownBy w1 (some R)):=hg;have HB:Hid (Bt ((zs.drop p).take 1)):=(bp.drop p).take 1;have hlen:((zs.drop p).take 1).length=1:=by simp;omega
 obtain ⟨bs,ru⟩:∃ bs,bs=(zs.drop p).take 1:=⟨_,rfl⟩;rw [<- ru] at hby hlen HB;have HF:Hid (le 1 (zs.drop p)=le 1 bs):=by rw [ru];exact (nE 1 _).symm
 have HC:Hid (∀ i,i<1->w1.cell? ⟨G,p+i,none⟩=some (.int .u8 (bs.getD i 0))):=by
  obtain ⟨b',off',e,_,hh⟩:=hby.at (by omega);simp at e;obtain ⟨rfl,rfl⟩:=e;exact hh
 have HL:Hid (bs.length=1):=hlen;clear hao hby hr hg hlen ru;go_wp2;go_loopw [3,10] (fun sx si wr=>iD bs w1 sx si wr) (fun _ si _=>1 - (intOf si).toNat)
 case atStart=>exact ⟨0,0,Nat.zero_le _,rfl,rfl,rfl,rfl⟩
 case round =>
  obtain ⟨k,a,hk,rfl,rfl,rfl,ha⟩:=hrel;have hk':k<=1:=by rw [HL.out] at hk;exact hk
  have HA:Hid (a=le k bs):=ha;clear hk ha
  by_cases hlt:k<1
  ·obtain ⟨z,hz⟩:∃ z,z=bs.getD k 0:=⟨_,rfl⟩
   have hcell:wr.cell? ⟨G,p+k,none⟩=some (.int .u8 z):=by rw [hz];exact HC.out k hlt
   have hzb:0<=z/\z<=255:=by rw [hz];exact HB.out.getD k
   obtain ⟨hz0,hz1⟩:=hzb;have HZ:Hid (z=bs.getD k 0):=hz;clear hz;go_wp2;go_roundw
   case rel=>exact iD.next (by rw [HL.out];exact hlt) (by rw [HL.out];omega) HB.out HZ.out HA.out _ rfl _ (by first | rfl | omega)
   case measure=>simp [intOf];omega
  ·have hkn:k=1:=by omega
   subst hkn;have zX:a<256:=by rw [HA.out];exact dQ 1 bs HB.out
   go_wp2;go_ret;rw [HF.out,<- HA.out];exact ⟨rfl,fV.out,bj.out⟩
theorem xS (R G:Nat)(zs:List Int)(p:Nat)(w:World)(h:Rd w R G zs p 0)(hp:zs.length<p+1) :
  Calls Tryz.prog 221 #[.pointer (some ⟨R,0,none⟩)] w fun en w'=>en=.returned (.int .u8 0)/\Rd w' R G zs p 10/\w.grownBy w' (some R):=by
 have HR:Hid (Rd w R G zs p 0):=h;clear h;go_enter Tryz.func221,Tryz.ntmps221
 go_wp2_with fail
 refine (nA _).mono ?_;rintro en w0 ⟨rfl,rfl⟩
 go_wp2_with fail
 refine (ii R G zs p 1 _ HR.out (by omega)).mono ?_;rintro en w1 ⟨rfl,hr,hg⟩;have fV:Hid (Rd w1 R G zs p 10):=hr;have bj:Hid (w0.grownBy w1 (some R)):=hg;clear hr hg;go_wp2;refine wp_loop_rounds 1 ?_;rw [rounds_succ];go_wp2;go_ret;exact ⟨rfl,fV.out,bj.out⟩
theorem vQ (R G:Nat)(zs:List Int)(p:Nat)(e:Int)(w:World)(h:Rd w R G zs p e)(he:(e==0)=false) :
  Calls Tryz.prog 221 #[.pointer (some ⟨R,0,none⟩)] w fun en w'=>en=.returned (.int .u8 0)/\Rd w' R G zs p e/\w.grownBy w' (some R):=by
 have HR:Hid (Rd w R G zs p e):=h;clear h;go_enter Tryz.func221,Tryz.ntmps221
 go_wp2_with fail
 refine (nA _).mono ?_;rintro en w0 ⟨rfl,rfl⟩
 go_wp2_with fail
 refine (fY R G zs p e 1 _ HR.out he).mono ?_;rintro en w1 ⟨ao,rfl,hr,hg⟩;have fV:Hid (Rd w1 R G zs p e):=hr;have bj:Hid (w0.grownBy w1 (some R)):=hg;clear hr hg;go_wp2;refine wp_loop_rounds 1 ?_;rw [rounds_succ];go_wp2;go_ret;exact ⟨rfl,fV.out,bj.out⟩
theorem ez (R G:Nat)(zs:List Int)(p:Nat)(w:World)(h:Rd w R G zs p 0)(bp:Bt zs)(hp:p+4<=zs.length) :
  Calls Tryz.prog 257 #[.pointer (some ⟨R,0,none⟩)] w fun en w'=>en=.returned (.int .u32 (le 4 (zs.drop p):Nat))/\Rd w' R G zs (p+4) 0/\w.grownBy w' (some R):=by
 have HR:Hid (Rd w R G zs p 0):=h;clear h;go_enter Tryz.func257,Tryz.ntmps257
 go_wp2_with fail
 refine (lq _).mono ?_;rintro en w0 ⟨rfl,rfl⟩
 go_wp2_with fail
 refine (fg R G zs p 4 _ HR.out hp).mono ?_;rintro en w1 ⟨ao,rfl,hao,hby,hr,hg⟩;have hao':=hao (by omega);subst hao';have fV:Hid (Rd w1 R G zs (p+4) 0):=hr;have bj:Hid (w0.grownBy w1 (some R)):=hg;have HB:Hid (Bt ((zs.drop p).take 4)):=(bp.drop p).take 4;have hlen:((zs.drop p).take 4).length=4:=by simp;omega
 obtain ⟨bs,ru⟩:∃ bs,bs=(zs.drop p).take 4:=⟨_,rfl⟩;rw [<- ru] at hby hlen HB;have HF:Hid (le 4 (zs.drop p)=le 4 bs):=by rw [ru];exact (nE 4 _).symm
 have HC:Hid (∀ i,i<4->w1.cell? ⟨G,p+i,none⟩=some (.int .u8 (bs.getD i 0))):=by
  obtain ⟨b',off',e,_,hh⟩:=hby.at (by omega);simp at e;obtain ⟨rfl,rfl⟩:=e;exact hh
 have HL:Hid (bs.length=4):=hlen;clear hao hby hr hg hlen ru;go_wp2;go_loopw [3,10] (fun sx si wr=>iD bs w1 sx si wr) (fun _ si _=>4 - (intOf si).toNat)
 case atStart=>exact ⟨0,0,Nat.zero_le _,rfl,rfl,rfl,rfl⟩
 case round =>
  obtain ⟨k,a,hk,rfl,rfl,rfl,ha⟩:=hrel;have hk':k<=4:=by rw [HL.out] at hk;exact hk
  have HA:Hid (a=le k bs):=ha;clear hk ha
  by_cases hlt:k<4
  ·obtain ⟨z,hz⟩:∃ z,z=bs.getD k 0:=⟨_,rfl⟩
   have hcell:wr.cell? ⟨G,p+k,none⟩=some (.int .u8 z):=by rw [hz];exact HC.out k hlt
   have hzb:0<=z/\z<=255:=by rw [hz];exact HB.out.getD k
   obtain ⟨hz0,hz1⟩:=hzb;have HZ:Hid (z=bs.getD k 0):=hz;clear hz;go_wp2;go_roundw
   case rel=>exact iD.next (by rw [HL.out];exact hlt) (by rw [HL.out];omega) HB.out HZ.out HA.out _ rfl _ (by first | rfl | omega)
   case measure=>simp [intOf];omega
  ·have hkn:k=4:=by omega
   subst hkn;have zX:a<4294967296:=by rw [HA.out];exact dQ 4 bs HB.out
   go_wp2;go_ret;rw [HF.out,<- HA.out];exact ⟨rfl,fV.out,bj.out⟩
theorem vR (R G:Nat)(zs:List Int)(p:Nat)(w:World)(h:Rd w R G zs p 0)(hp:zs.length<p+4) :
  Calls Tryz.prog 257 #[.pointer (some ⟨R,0,none⟩)] w fun en w'=>en=.returned (.int .u32 0)/\Rd w' R G zs p 10/\w.grownBy w' (some R):=by
 have HR:Hid (Rd w R G zs p 0):=h;clear h;go_enter Tryz.func257,Tryz.ntmps257
 go_wp2_with fail
 refine (lq _).mono ?_;rintro en w0 ⟨rfl,rfl⟩
 go_wp2_with fail
 refine (ii R G zs p 4 _ HR.out (by omega)).mono ?_;rintro en w1 ⟨rfl,hr,hg⟩;have fV:Hid (Rd w1 R G zs p 10):=hr;have bj:Hid (w0.grownBy w1 (some R)):=hg;clear hr hg;go_wp2;refine wp_loop_rounds 1 ?_;rw [rounds_succ];go_wp2;go_ret;exact ⟨rfl,fV.out,bj.out⟩
theorem tA (R G:Nat)(zs:List Int)(p:Nat)(e:Int)(w:World)(h:Rd w R G zs p e)(he:(e==0)=false) :
  Calls Tryz.prog 257 #[.pointer (some ⟨R,0,none⟩)] w fun en w'=>en=.returned (.int .u32 0)/\Rd w' R G zs p e/\w.grownBy w' (some R):=by
 have HR:Hid (Rd w R G zs p e):=h;clear h;go_enter Tryz.func257,Tryz.ntmps257
 go_wp2_with fail
 refine (lq _).mono ?_;rintro en w0 ⟨rfl,rfl⟩
 go_wp2_with fail
 refine (fY R G zs p e 4 _ HR.out he).mono ?_;rintro en w1 ⟨ao,rfl,hr,hg⟩;have fV:Hid (Rd w1 R G zs p e):=hr;have bj:Hid (w0.grownBy w1 (some R)):=hg;clear hr hg;go_wp2;refine wp_loop_rounds 1 ?_;rw [rounds_succ];go_wp2;go_ret;exact ⟨rfl,fV.out,bj.out⟩
theorem tB (R G:Nat)(zs:List Int)(p:Nat)(w:World)(h:Rd w R G zs p 0)(bp:Bt zs)(hp:p+8<=zs.length) :
  Calls Tryz.prog 267 #[.pointer (some ⟨R,0,none⟩)] w fun en w'=>en=.returned (.int .u64 (le 8 (zs.drop p):Nat))/\Rd w' R G zs (p+8) 0/\w.grownBy w' (some R):=by
 have HR:Hid (Rd w R G zs p 0):=h;clear h;go_enter Tryz.func267,Tryz.ntmps267
 go_wp2_with fail
 refine (wQ _).mono ?_;rintro en w0 ⟨rfl,rfl⟩
 go_wp2_with fail
 refine (fg R G zs p 8 _ HR.out hp).mono ?_;rintro en w1 ⟨ao,rfl,hao,hby,hr,hg⟩;have hao':=hao (by omega);subst hao';have fV:Hid (Rd w1 R G zs (p+8) 0):=hr;have bj:Hid (w0.grownBy w1 (some R)):=hg;have HB:Hid (Bt ((zs.drop p).take 8)):=(bp.drop p).take 8;have hlen:((zs.drop p).take 8).length=8:=by simp;omega
 obtain ⟨bs,ru⟩:∃ bs,bs=(zs.drop p).take 8:=⟨_,rfl⟩;rw [<- ru] at hby hlen HB;have HF:Hid (le 8 (zs.drop p)=le 8 bs):=by rw [ru];exact (nE 8 _).symm
 have HC:Hid (∀ i,i<8->w1.cell? ⟨G,p+i,none⟩=some (.int .u8 (bs.getD i 0))):=by
  obtain ⟨b',off',e,_,hh⟩:=hby.at (by omega);simp at e;obtain ⟨rfl,rfl⟩:=e;exact hh
 have HL:Hid (bs.length=8):=hlen;clear hao hby hr hg hlen ru;go_wp2;go_loopw [3,10] (fun sx si wr=>iD bs w1 sx si wr) (fun _ si _=>8 - (intOf si).toNat)
 case atStart=>exact ⟨0,0,Nat.zero_le _,rfl,rfl,rfl,rfl⟩
 case round =>
  obtain ⟨k,a,hk,rfl,rfl,rfl,ha⟩:=hrel;have hk':k<=8:=by rw [HL.out] at hk;exact hk
  have HA:Hid (a=le k bs):=ha;clear hk ha
  by_cases hlt:k<8
  ·obtain ⟨z,hz⟩:∃ z,z=bs.getD k 0:=⟨_,rfl⟩
   have hcell:wr.cell? ⟨G,p+k,none⟩=some (.int .u8 z):=by rw [hz];exact HC.out k hlt
   have hzb:0<=z/\z<=255:=by rw [hz];exact HB.out.getD k
   obtain ⟨hz0,hz1⟩:=hzb;have HZ:Hid (z=bs.getD k 0):=hz;clear hz;go_wp2;go_roundw
   case rel=>exact iD.next (by rw [HL.out];exact hlt) (by rw [HL.out];omega) HB.out HZ.out HA.out _ rfl _ (by first | rfl | omega)
   case measure=>simp [intOf];omega
  ·have hkn:k=8:=by omega
   subst hkn;have zX:a<18446744073709551616:=by rw [HA.out];exact dQ 8 bs HB.out
   go_wp2;go_ret;rw [HF.out,<- HA.out];exact ⟨rfl,fV.out,bj.out⟩
end Go.Proofs.YtgldkdbkaachkaaGreatDoor
