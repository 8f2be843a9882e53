import Derived.Test.YteaahinjcfjngaaGreatQ10
import Derived.Test.YteaahinjcfjngaaGreatQ3
import Derived.Lib.SliceRun
set_option maxRecDepth 100000
set_option maxHeartbeats 2000000
namespace Go.Proofs.YteaahinjcfjngaaGreat
open Go.RowKit
theorem bytesCompare_any (ao bo:Option Addr)(n m c d:Nat)(za zb:List Int)(w:World)(ha:Byt w ao n c za)(hb:Byt w bo m d zb)(ba:Bt za)(bb:Bt zb) :
  Calls Tryz.prog 141 #[.slice ao n c,.slice bo m d] w fun en w'=>en=.returned (.int .i64 (cmpZ za zb))/\w'=w:=by
 have hr:=run_compareByt (P:=Tryz.prog) ha hb ba bb;clear ha hb;go_enter Tryz.func141,Tryz.ntmps141;go_wp2;rw [run_callFunc_extern Tryz.func143 (by kernel_rfl) (by kernel_rfl) (by kernel_rfl) (e:=Extern.BytealgCompare.compare) (by kernel_rfl),hr];simp only [Result.andThen];rw [Oper.upon_value];go_wp2;go_ret;exact ⟨rfl,rfl⟩
theorem compare_any (ao bo:Option Addr)(n m c d:Nat)(za zb:List Int)(w:World)(ha:Byt w ao n c za)(hb:Byt w bo m d zb)(ba:Bt za)(bb:Bt zb) :
  Calls Tryz.prog 126 #[.slice ao n c,.slice bo m d] w fun en w'=>en=.returned (.int .i64 (cmpZ za zb))/\w'=w:=by
 have HA:=hZq ha;have HB:=hZq hb;clear ha hb;go_enter Tryz.func126,Tryz.ntmps126
 go_wp2_with fail
 refine (bytesCompare_any ao bo n m c d za zb w HA.out HB.out ba bb).mono ?_;rintro en w' ⟨rfl,rfl⟩;go_wp2;go_ret;exact ⟨rfl,rfl⟩
theorem ret_int {x y:Int}(h:x=y):Ending.returned (Value.int IntKind.i64 x)=.returned (.int .i64 y):=by rw [h]
def Dr (w w':World):Prop:=∃ q,w'=w.drewN q
theorem Dr.refl (w:World):Dr w w:=⟨0,rfl⟩
theorem Dr.more {w w':World}(h:Dr w w')(n:Nat):Dr w (w'.drewN n):=by obtain ⟨q,rfl⟩:=h;exact ⟨q+n,World.drewN_drewN ..⟩
theorem Dr.trans {a b c:World}(h:Dr a b)(k:Dr b c):Dr a c:=by obtain ⟨n,rfl⟩:=k;exact h.more n
theorem Dr.qt {w w':World}(h:Dr w w'):Qt w w':=by obtain ⟨q,rfl⟩:=h;exact Qt.drewN w q
theorem Dr.cell {w w':World}(h:Dr w w')(a:Addr):w'.cell? a=w.cell? a:=h.qt.cell a
theorem common_any (ao bo:Option Addr)(n m c d:Nat)(za zb:List Int)(w:World)(ha:Byt w ao n c za)(hb:Byt w bo m d zb)(hn:n<=9223372036854775807)(hm:m<=9223372036854775807) :
  Calls Tryz.prog 137 #[.slice ao n c,.slice bo m d] w fun en w'=>en=.returned (.int .i64 ((com za zb:Nat):Int))/\Dr w w':=by
 have hl1:=ha.len;have hl2:=hb.len;have HA:=hZq ha;have HB:=hZq hb;clear ha hb;go_enter Tryz.func137,Tryz.ntmps137;go_wp2
 all_goals
  go_loopw [6,13] (fun _ si wr=>∃ i:Nat,i<=n/\i<=m/\si=.int .i64 i/\com (za.drop i) (zb.drop i)+i=com za zb/\Dr w wr) (fun _ si _=>n - (intOf si).toNat)
  case atStart=>exact ⟨0,Nat.zero_le _,Nat.zero_le _,rfl,rfl,Dr.refl _⟩
  case round =>
   obtain ⟨i,hi,hj,rfl,he,hq⟩:=hrel;have HE:=hZq he;have HQ:=hZq hq;clear he hq
   by_cases hlt:i<n/\i<m
   ·obtain ⟨h1,h2⟩:=hlt
    obtain ⟨b1,o1,rfl,_,k1⟩:=HA.out.at (by omega);obtain ⟨b2,o2,rfl,_,k2⟩:=HB.out.at (by omega);have c1:=(HQ.out.cell _).trans (k1 i h1);have c2:=(HQ.out.cell _).trans (k2 i h2);have e1:Hid (za.getD i 0=zb.getD i 0->com (za.drop i) (zb.drop i)=com (za.drop (i+1)) (zb.drop (i+1))+1):=fun h=>com_on (by omega) (by omega) h
    have e2:Hid (za.getD i 0≠zb.getD i 0->com (za.drop i) (zb.drop i)=0):=fun h=>com_off (by omega) (by omega) h
    have g1:(i:Int)<(n:Int):=by omega
    have g2:(i:Int)<(m:Int):=by omega
    have g0:(0:Int)<=(i:Int):=by omega
    clear k1 k2;generalize za.getD i 0=x at *;generalize zb.getD i 0=y at *
    by_cases hxy:x=y
    ·subst hxy
     have E1:=hZq (e1.out rfl);clear e1 e2;have hd:(x != x)=false:=by simp
     go_wp2
     go_quiet (fail)
     go_wp2;go_roundw
     case rel=>exact ⟨i+1,by omega,by omega,by go_num,by have:=E1.out;have:=HE.out;omega,HQ.out.more _⟩
     case measure=>simp [intOf];omega
    ·have hd:(x != y)=true:=by simpa using hxy
     go_wp2
     go_quiet (fail)
     go_wp2;go_ret;exact ⟨ret_int (by have:=e2.out hxy;have:=HE.out;omega),HQ.out.more _⟩
   ·have hend:=com_end (a:=za) (b:=zb) (i:=i) (by omega)
    have hci:com za zb=i:=by have:=HE.out;omega
    have HC:=hZq hci;have hle:i=n∨i=m:=by omega
    clear hci hend;have hlt':¬ ((i:Int)<(n:Int)/\(i:Int)<(m:Int)):=by omega
    go_wp2;go_ret;exact ⟨ret_int (by have:=HC.out;omega),HQ.out⟩
theorem grown_dr {a b c:World}{row:Option Nat}(h:Dr a b)(k:b.grownBy c row):a.grownBy c row:=gZq (h.qt.grown row) k
theorem clone_any (ad:Addr)(n c:Nat)(zs:List Int)(w:World)(hb:Byt w (some ad) n c zs)(h0:0<n)(hn:n<=140737488355328) :
  Calls Tryz.prog 56 #[.slice (some ad) n c] w fun en w'=>∃ g cap,en=.returned (.slice (some ⟨g,0,none⟩) n cap)/\w'.ownsRow w.heap.size 5 1 (.slice (some ⟨g,0,none⟩) n cap) n (zs.map (Value.int .u8))/\w.grownBy w' none:=by
 obtain ⟨i0,hi,hz0,hz1,hz2⟩:=info_parts info_u8;have HB:=hZq hb;clear hb;have q22:∀ (w:World) (a:Option Addr) (n c n' c':Nat),(binOp .eql 62 (.slice a n c) (.slice none n' c')).run Tryz.prog w=.ok (.bool a.isNone) w:=fun w a n c n' c'=>Lib.run_eql_slice_nil w _ _ a n c n' c' Tryz.underlying62
 go_enter Tryz.func56,Tryz.ntmps56
 go_wp2_with (at_builtin;refine wpList_append_own _ rfl _ _ 62 rfl w.heap.size 5 i0 (.int .u8 0) 1 1 Tryz.underlying62 hi hz0 hz1 hz2 rfl (by decide) _ _ _ rfl (World.ownsRow_made w #[] 0 (Nat.le_refl _) (Nat.zero_le _) rfl) ad n c (zs.map (Value.int .u8)) rfl ?qc1 ?qc2 ?qc3 ?qc4 ?qc5 ?qc6 ?_)
 case qc1=>rw [List.length_map,HB.out.len,Nat.mul_one]
 case qc2=>exact (HB.out.keptN (World.grownBy_alloc w _ none)).cells ad rfl
 case qc3=>exact ints_oneCell _ _
 case qc4=>unfold maxLen;omega
 case qc5=>omega
 case qc6=>simp
 intro v' w1 hown hgrow hnil;have hown':w1.ownsRow w.heap.size 5 1 v' n (zs.map (Value.int .u8)):=by simpa using hown
 obtain ⟨g,cap,rfl,hg1,_,_⟩:=owns_shape hown' h0;have HO:=hZq hown';have HG:Hid (w.grownBy w1 none):=grown_new (World.grownBy_alloc w (.cells #[] 5) none) (by simpa [Value.ownBlock] using hgrow) (Nat.le_refl _);clear hown hown' hgrow hnil;go_wp2;go_ret;exact ⟨g,cap,rfl,HO.out,HG.out⟩
theorem sep_room {a b:List Int}(h:cmpZ a b<0):com a b+1<=b.length:=com_lt h
theorem sep_yes (ao bo:Option Addr)(n m c d:Nat)(za zb:List Int)(w:World)(ha:Byt w ao n c za)(hb:Byt w bo m d zb)(ba:Bt za)(bb:Bt zb)(hn:n<=9223372036854775807)(hm:m<=140737488351232)(hd:m<=d)(h:cmpZ za zb<0) :
  Calls Tryz.prog 129 #[.slice ao n c,.slice bo m d] w fun en w'=>∃ g cap,en=.returned (.tuple #[.slice (some ⟨g,0,none⟩) (com za zb+1) cap,.int .i64 0]) /\
   w'.ownsRow w.heap.size 5 1 (.slice (some ⟨g,0,none⟩) (com za zb+1) cap) (com za zb+1) ((zb.take (com za zb+1)).map (Value.int .u8))/\w.grownBy w' none:=by
 have hl2:=hb.len;have hr:=sep_room h;rw [hl2] at hr;obtain ⟨b2,o2,rfl,hbs,_⟩:=hb.at (by omega);have HA:=hZq ha;have HB:=hZq hb;have HT:=hZq (hb.take (com za zb+1) d hr (fun e=>by cases e));clear ha hb;have hge:¬ 0<=cmpZ za zb:=by omega
 obtain ⟨k,hk⟩:∃ k,com za zb=k:=⟨_,rfl⟩;rw [hk] at hr HT ⊢;have HK:=hZq hk;clear hk;go_enter Tryz.func129,Tryz.ntmps129
 go_wp2_with fail
 refine (compare_any ao _ n m c d za zb w HA.out HB.out ba bb).mono ?_;rintro en w' ⟨rfl,rfl⟩
 go_wp2_with fail
 refine (common_any ao _ n m c d za zb w' HA.out HB.out hn (by omega)).mono ?_;rintro en w1 ⟨rfl,hq⟩;rw [HK.out];have HQ:=hZq hq;clear hq
 go_wp2_with fail
 refine (clone_any _ (k+1) d _ w1 (HT.out.heap HQ.out.qt.heap) (by omega) (by omega)).mono ?_;rintro en w2 ⟨g,cap,rfl,ho,hg⟩;have HO:=hZq ho;have HG:=hZq (grown_dr HQ.out hg);clear ho hg;go_wp2
 go_ret2
 exact ⟨g,cap,rfl,by have h1:=HQ.out.qt.heap;have h2:=HO.out;rw [h1] at h2;exact h2,HG.out⟩
theorem ret_bool {x y:Bool}(h:x=y):Ending.returned (Value.bool x)=.returned (.bool y):=by rw [h]
def valid (n:Nat):Bool:=decide (1<=n) && decide (n<=255)
def within (k lo hi:List Int):Bool:=decide (0<=cmpZ k lo) && (hi.length==0 || decide (cmpZ k hi<0))
theorem valid_any (ao:Option Addr)(n c:Nat)(w:World):Calls Tryz.prog 52 #[.slice ao n c] w fun en w'=>en=.returned (.bool (valid n))/\w'=w:=by
 have HV1:Hid (1<=n->decide ((n:Int)<=255)=valid n):=fun h=>by unfold valid;rw [decide_eq_true h,Bool.true_and];exact decide_eq_decide.2 (by omega)
 have HV2:Hid (¬ 1<=n->false=valid n):=fun h=>by unfold valid;rw [decide_eq_false h];rfl
 by_cases h1:1<=n
 ·go_enter Tryz.func52,Tryz.ntmps52
  go_wp2;go_ret;exact ⟨ret_bool (HV1.out h1),rfl⟩
 ·go_enter Tryz.func52,Tryz.ntmps52
  go_wp2;go_ret;exact ⟨ret_bool (HV2.out h1),rfl⟩
end Go.Proofs.YteaahinjcfjngaaGreat
