import Derived.Test.YtgldkdbkaachkaaGreatDoorK8
import Derived.Lib.SlBytesConst
set_option maxHeartbeats 2000000
namespace Go.Proofs.YtgldkdbkaachkaaGreatDoor
open Go.RowKit
theorem Nj (n:Nat):Bt (List.replicate n 0):=by
 intro z hz;rw [List.mem_replicate] at hz;omega
theorem Bz (r:Nat)(w:World)(hr:r<4294967296) :
  Calls Tryz.prog 178 #[.int .u32 r] w fun e w'=>e=.returned (.int .u32 ((zW r:Nat):Int))/\w'=w:=by
 by_cases h:r % 2=1
 ·have hx:=u32_xor_nat (r / 2) 3988292384 (by omega) (by decide)
  have hs:zW r=(r / 2) ^^^ 3988292384:=by unfold zW;rw [if_pos h]
  rw [<- hs] at hx;have hx':bits .xor .u32 ((r:Int) / 2) 3988292384=((zW r:Nat):Int):=by rw [<- hx];rfl
  have h1:(r:Int) % 2=1:=by omega
  clear hs hx;go_enter Tryz.func178,Tryz.ntmps178;go_wp2;go_ret;exact ⟨rfl,rfl⟩
 ·have hs:zW r=r / 2:=by unfold zW;rw [if_neg h]
  have h1:(r:Int) % 2≠1:=by omega
  rw [hs];go_enter Tryz.func178,Tryz.ntmps178;go_wp2;go_ret;exact ⟨rfl,rfl⟩
theorem Jh (k r:Nat):aX (k+1) r=zW (aX k r):=by rw [aC k 1 r];rfl
theorem ww (c:Nat)(ao:Option Addr)(n cap:Nat)(zs:List Int)(w:World)(hc:c<4294967296)(hb:ai w ao n cap zs)(bt:Bt zs)(hn:n<=140737488351232) :
  Calls Tryz.prog 121 #[.int .u32 c,.slice ao n cap] w fun e w'=>e=.returned (.int .u32 ((upd c zs:Nat):Int))/\w'=w:=by
 have HB:Hid (ai w ao n cap zs):=hb;have HL:Hid (zs.length=n):=hb.len;clear hb;go_enter Tryz.func121,Tryz.ntmps121;go_wp2;go_loopw [5,6] (fun sr si wr=>∃ i:Nat,i<=n/\si=.int .i64 i/\sr=.int .u32 ((runs (4294967295 - c) (zs.take i):Nat):Int)/\wr=w) (fun _ si _=>n - (intOf si).toNat)
 case atStart=>exact ⟨0,by omega,rfl,by rw [List.take_zero,gD];go_num,rfl⟩
 case round =>
  obtain ⟨i,hi,rfl,rfl,rfl⟩:=hrel;have Ml:runs (4294967295 - c) (zs.take i)<4294967296:=su (bts (bt.take i)) (by omega)
  by_cases hlt:i<n
  ·obtain ⟨b,off,rfl,ru,hcell⟩:=HB.out.at (by omega)
   have XQ:=hcell i hlt;have hz:=bt.getD i;obtain ⟨z,hzz⟩:∃ z:Nat,zs.getD i 0=(z:Int):=⟨(zs.getD i 0).toNat,by omega⟩;have hx:=u32_xor_nat (runs (4294967295 - c) (zs.take i)) z Ml (by omega);have hlx:=Dt Ml (show z<4294967296 by omega);rw [hzz] at XQ;have hz2:z<=255:=by omega
   have hr2:runs (4294967295 - c) (zs.take (i+1))=aX 8 (runs (4294967295 - c) (zs.take i) ^^^ z):=by
    rw [tD zs i (by have:=HL.out;omega),wS,hzz,Int.toNat_natCast]
   clear hcell hz hzz;have HR:=hJ hr2;clear hr2;generalize runs (4294967295 - c) (zs.take i)=r at *;generalize r ^^^ z=q at *;go_wp2;have hw0:∃ w0,w0=wr:=⟨_,rfl⟩;obtain ⟨w0,hw0⟩:=hw0;rw [<- hw0];have ZP:=hJ hw0;clear hw0;go_loopw [5,7] (fun sr sk W=>∃ k:Nat,k<=8/\sk=.int .i64 k/\sr=.int .u32 ((aX k q:Nat):Int)/\W=w0) (fun _ sk _=>8 - (intOf sk).toNat)
   case atStart=>exact ⟨0,by omega,rfl,rfl,rfl⟩
   case round =>
    obtain ⟨k,hk,rfl,rfl,hW⟩:=hrel;rw [hW];clear hW;have nu:=sq k hlx;have HK:=hJ (Jh k q)
    by_cases hk8:k<8
    ·generalize aX k q=s at *
     go_wp2_with fail
     refine (Bz s w0 nu).mono ?_;rintro e w' ⟨rfl,hw'⟩;have HW':=hJ hw';clear hw';have El:=LV nu;go_wp2;go_roundw
     case rel=>exact ⟨k+1,by omega,by go_num,by rw [HK.out],HW'.out⟩
     case measure=>simp [intOf];omega
    ·have hk9:k=8:=by omega
     rw [hk9] at nu ⊢;clear HK;generalize aX 8 q=s at *;go_wp2;go_roundw
     case rel=>exact ⟨i+1,by omega,by go_num,by rw [HR.out],ZP.out⟩
     case measure=>simp [intOf];omega
  ·have YS:zs.take i=zs:=List.take_of_length_le (by have:=HL.out;omega)
   rw [YS] at Ml ⊢;clear YS;generalize Mm:runs (4294967295 - c) zs=r at *;have HG:=hJ Mm;clear Mm;go_wp2;go_ret;refine ⟨congrArg Ending.returned (congrArg (Value.int IntKind.u32) ?_),rfl⟩;unfold upd;rw [HG.out];omega
theorem Em (ao:Option Addr)(n cap:Nat)(zs:List Int)(w:World)(hb:ai w ao n cap zs)(bt:Bt zs)(hn:n<=140737488351232) :
  Calls Tryz.prog 50 #[.slice ao n cap] w fun e w'=>e=.returned (.int .u32 ((upd 0 zs:Nat):Int))/\w'=w:=by
 go_enter Tryz.func50,Tryz.ntmps50
 go_wp2_with fail
 refine (ww 0 ao n cap zs w (by decide) hb bt hn).mono ?_;rintro e w' ⟨rfl,rfl⟩;have hl:=tj 0 zs;generalize hs:upd 0 zs=s at *;have HS:=hJ hs;clear hs hb bt;go_wp2;go_ret;rw [HS.out];exact ⟨rfl,rfl⟩
def gM (zs:List Int):List Int:=if zs.length=4092 then zs++fe (upd 0 zs) else []
def kG (zs:List Int):Int:=if zs.length=4092 then 0 else 20
abbrev fits (zs:List Int):Prop:=zs.length=4096/\zs.drop 4092=fe (upd 0 (zs.take 4092))
def bD (zs:List Int):List Int:=if fits zs then zs.take 4092 else []
def cZ (zs:List Int):Int:=if fits zs then 0 else if zs.length=4096 then 22 else 21
theorem En {w wr w1:World}{base n:Nat}{v:Value}{xs:List Value}(hg:w.grownBy wr none)(hown:wr.ownsRow base 5 1 v n xs)(hb:w.heap.size<=base)(h:wr.grownBy w1 v.ownBlock):w.grownBy w1 none:=by
 refine ⟨h.os.trans hg.os,h.tape.trans hg.tape,h.output.trans hg.output,Nat.le_trans hg.size h.size,fun k hk _=>?_⟩;rw [h.block k (Nat.lt_of_lt_of_le hk hg.size) (by intro e;have:=(hown.lt k e.symm).1;omega)];exact hg.block k hk (by simp)
theorem Nk (s:Nat)(h:s<4294967296):[(s:Int) % 256,(s:Int) / 256 % 256,(s:Int) / 65536 % 256,(s:Int) / 16777216]=fe s:=by
 unfold fe;rw [show ((s / 16777216 % 256:Nat):Int)=(s:Int) / 16777216 by omega]
 rfl
theorem QM (s:Nat)(w:World)(hs:s<4294967296) :
  Calls Tryz.prog 49 #[.int .u32 s] w fun e w'=>e=.returned (.slice (some ⟨w.heap.size,0,none⟩) 4 4)/\ai w' (some ⟨w.heap.size,0,none⟩) 4 4 (fe s)/\w.grownBy w' none:=by
 go_enter Tryz.func49,Tryz.ntmps49;go_wp2;go_ret;refine ⟨rfl,?_,World.grownBy_alloc w _ none⟩;rw [<- Nk s hs];exact ai.lit w 5 _ _ 4 rfl rfl
theorem BA (ao:Option Addr)(n cap:Nat)(zs:List Int)(w:World)(hb:ai w ao n cap zs)(bt:Bt zs) :
  Calls Tryz.prog 20 #[.slice ao n cap] w fun e w'=>∃ po m c,e=.returned (.tuple #[.slice po m c,.int .i64 (kG zs)])/\ai w' po m c (gM zs)/\m<=4096/\m<=c/\w.grownBy w' none:=by
 by_cases h:n=4092
 ·subst h
  have e1:kG zs=0:=if_pos hb.len;have e2:gM zs=zs++fe (upd 0 zs):=if_pos hb.len;rw [e1,e2];have HB:=hJ hb;clear hb e1 e2;go_enter Tryz.func20,Tryz.ntmps20
  go_wp2_with fail
  refine (bq ao 4092 cap zs w HB.out (by omega)).mono ?_;rintro e w1 ⟨rfl,hown1,hg1,hs1⟩;have G1:=hJ hg1;clear hg1
  go_wp2_with fail
  refine (Em ao 4092 cap zs w1 (HB.out.ae G1.out) bt (by omega)).mono ?_;rintro e w2 ⟨rfl,rfl⟩;have hl:=tj 0 zs;generalize hs:upd 0 zs=s at *;have HS:=hJ hs;clear hs
  go_wp2_with fail
  refine (QM s w2 hl).mono ?_;rintro e w3 ⟨rfl,hb3,hg3⟩;have iN:=hown1.kept hg3 (by simp [Value.ownBlock]);have G3:=hJ (gQ G1.out hg3);have HB3:=hJ hb3;clear hown1 hg3 G1 hb3
  go_wp2_with (at_builtin;refine aq rfl _ _ rfl w.heap.size _ 4092 zs rfl iN _ 4 4 (fe s) rfl HB3.out (by omega) (by have:=G3.out.size;omega) ?_)
  intro v w4 fS hg4;have G4:=hJ (En G3.out iN (Nat.le_refl _) hg4);have fS:w4.ownsRow w.heap.size 5 1 v (4092+4) ((zs++fe s).map (Value.int .u8)):=by rw [List.map_append];exact fS
  obtain ⟨g,c,rfl,hbg,hlt,hnc⟩:=tC fS (by omega);have B4:=hJ (ai.aP fS);clear iN fS hg4 G3 HB3;go_wp2
  go_ret2
  rw [HS.out];exact ⟨_,_,_,rfl,B4.out,by omega,by omega,G4.out⟩
 ·have hl:zs.length≠4092:=by rw [hb.len];exact h
  have e1:kG zs=20:=if_neg hl;have e2:gM zs=[]:=if_neg hl;rw [e1,e2];clear hb e1 e2 hl;go_enter Tryz.func20,Tryz.ntmps20;go_wp2
  go_ret2
  exact ⟨_,_,_,rfl,ai.empty _,by omega,by omega,World.grownBy.refl _ _⟩
end Go.Proofs.YtgldkdbkaachkaaGreatDoor
