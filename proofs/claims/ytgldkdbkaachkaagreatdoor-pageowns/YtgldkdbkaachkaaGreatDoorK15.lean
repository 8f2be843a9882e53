import Derived.Test.YtgldkdbkaachkaaGreatDoorK14
import Derived.Deep.CutBlock
set_option maxRecDepth 100000
set_option maxHeartbeats 2000000
namespace Go.Proofs.YtgldkdbkaachkaaGreatDoor
open Go.RowKit
variable {x:Int}{xs:List Value}{base n sz:Nat}{e:TypeId}{v:Value}{w:World}
theorem kU (x d:Nat)(w:World)(hd:d<=4) :
  Calls Tryz.prog 119 #[.int .i64 x,.int .i64 d] w fun e w'=>∃ ao c,e=.returned (.slice ao d c)/\ai w' ao d c (lb d x)/\w.grownBy w' none:=by
 go_enter Tryz.func119,Tryz.ntmps119;go_wp2;go_loopw [5,6] (fun out si wr=>∃ (k:Nat),k<=d/\si=.int .i64 k/\wr.ownsRow w.heap.size 5 1 out k ((lb k x).map (Value.int .u8))/\w.grownBy wr none) (fun _ si _=>d - (intOf si).toNat)
 case atStart=>exact ⟨0,by omega,rfl,World.ownsRow_nil _ _ _ _,World.grownBy.refl _ _⟩
 case round =>
  obtain ⟨k,hk,rfl,hown,hg⟩:=hrel
  by_cases hlt:k<d
  ·go_wp2_with (at_builtin;refine aq rfl _ _ rfl w.heap.size _ k (lb k x) rfl (hown.alloc _) (some ⟨wr.heap.size,0,none⟩) 1 1 [(x:Int) / 2 ^ (8*k) % 256] rfl (ai.lit wr 5 _ [(x:Int) / 2 ^ (8*k) % 256] 1 rfl rfl) (by omega) (by have:=hg.size;simp;omega) ?_)
   intro v' w1 h1 h2;have hg2:=bO hg hown (Nat.le_refl _) h2
   have hown2:w1.ownsRow w.heap.size 5 1 v' (k+1) ((lb (k+1) x).map (Value.int .u8)):=by
    rw [ia,List.map_append,<- ep];simpa using h1
   clear h1 h2 hown;go_wp2;go_roundw
   case rel=>exact ⟨k+1,by omega,by go_num,hown2,hg2⟩
   case measure=>simp [intOf];omega
  ·have vS:k=d:=by omega
   subst vS;obtain ⟨eX,cap',hv,hB⟩:=aY hown;subst hv;have HB:=hJ hB;have HG:=hJ hg;clear hB hown hg;go_wp2;go_ret;exact ⟨_,_,rfl,HB.out,HG.out⟩
theorem xx (X:Int)(x d:Nat)(w:World)(hX:X=(x:Int))(hd:d<=4) :
  Calls Tryz.prog 119 #[.int .i64 X,.int .i64 d] w fun e w'=>∃ ao c,e=.returned (.slice ao d c)/\ai w' ao d c (lb d x)/\w.grownBy w' none:=by
 subst hX;exact kU x d w hd
theorem lH{w':World}(h:w.ownsRow base e sz v n xs)(hg:w.grownBy w' none):w'.ownsRow base e sz v n xs :=
 h.kept hg (by cases v.ownBlock with | none=>exact .inl rfl | some g=>exact .inr (by simp))
theorem Rx (h:w.ownsRow base e sz v n xs)(g:Nat)(hv:v.ownBlock=some g):base<=g:=(h.lt g hv).1
theorem gO {a b c:World}(h:a.grownBy b none)(k:b.grownBy c v.ownBlock)(ho:b.ownsRow base e sz v n xs)(hb:a.heap.size<=base):a.grownBy c none :=
 ul h k (fun g hg=>Nat.le_trans hb (Rx ho g hg))
theorem uz (kd x n:Nat)(ro:Option Addr)(m rc:Nat)(zs:List Int)(w:World)(hb:ai w ro m rc zs)(hm:m<=4085)(hk:kd<256) :
  Calls Tryz.prog 118 #[.int .i64 kd,.int .i64 x,.int .i64 n,.slice ro m rc] w fun e w'=>∃ ao c,e=.returned (.slice ao 4092 c)/\ai w' ao 4092 c (hd kd x n++(zs++List.replicate (4085 - m) 0))/\w.grownBy w' none:=by
 have HB:=hJ hb;have hl:=hb.len;clear hb;have hwk:IntKind.u8.wrap (kd:Int)=(kd:Int):=by simp [IntKind.wrap,IntKind.bits,IntKind.signed];omega
 have HO:Hid ((w.alloc (.cells #[.int .u8 (kd:Int)] 5)).ownsRow w.heap.size 5 1 (.slice (some ⟨w.heap.size,0,none⟩) 1 1) 1 ([(kd:Int)].map (Value.int .u8))) :=
  ⟨rfl,.inr ⟨w.heap.size,1,#[.int .u8 (kd:Int)],rfl,Nat.le_refl _,heap_alloc_new w _,Nat.le_refl _,by decide,rfl,rfl⟩⟩
 have G1:=hJ (World.grownBy_alloc w (.cells #[.int .u8 (kd:Int)] 5) none);go_enter Tryz.func118,Tryz.ntmps118
 go_wp2_with fail
 generalize w.alloc (.cells #[.int .u8 (kd:Int)] 5)=w1 at *;refine (kU x 4 w1 (by omega)).mono ?_;rintro en w2 ⟨a2,c2,rfl,hb2,hg2⟩;have O2:=hJ (lH HO.out hg2);have G2:=hJ (gQ G1.out hg2);have B2:=hJ hb2;clear hg2 hb2 HO G1
 go_wp2_with (at_builtin;refine aq rfl _ _ rfl w.heap.size _ 1 [(kd:Int)] rfl O2.out a2 4 c2 (lb 4 x) rfl B2.out (by omega) G2.out.size ?_)
 intro v3 w3 h3 g3;have G3:=hJ (gO G2.out g3 O2.out (Nat.le_refl _));have O3:=hJ h3;clear h3 g3 O2 G2 B2
 go_wp2_with fail
 refine (kU n 2 w3 (by omega)).mono ?_;rintro en w4 ⟨a4,c4,rfl,hb4,hg4⟩;have O4:=hJ (lH O3.out hg4);have G4:=hJ (gQ G3.out hg4);have B4:=hJ hb4;clear hg4 hb4 O3 G3
 go_wp2_with (at_builtin;refine aq rfl _ _ rfl w.heap.size _ 5 ([(kd:Int)]++lb 4 x) rfl O4.out a4 2 c4 (lb 2 n) rfl B4.out (by omega) G4.out.size ?_)
 intro v5 w5 h5 g5;have G5:=hJ (gO G4.out g5 O4.out (Nat.le_refl _))
 have h5':w5.ownsRow w.heap.size 5 1 v5 7 ((hd kd x n).map (Value.int .u8)):=by
  have e:hd kd x n=[(kd:Int)]++lb 4 x++lb 2 n:=by simp [hd]
  rw [e];exact h5
 have O5:=hJ h5';have B5:=hJ (HB.out.ae G5.out);clear h5 h5' g5 O4 G4 B4 HB
 go_wp2_with (at_builtin;refine aq rfl _ _ rfl w.heap.size _ 7 (hd kd x n) rfl O5.out ro m rc zs rfl B5.out (by omega) G5.out.size ?_)
 intro v6 w6 h6 g6;have G6:=hJ (gO G5.out g6 O5.out (Nat.le_refl _))
 have h6':w6.ownsRow w.heap.size 5 1 v6 (7+m+0) ((hd kd x n++(zs++List.replicate 0 0)).map (Value.int .u8)):=by
  rw [List.replicate_zero,List.append_nil];exact h6
 have O6:=hJ h6';clear h6 h6' g6 O5 G5 B5;go_wp2;go_loopw [9] (fun out wr=>∃ k:Nat,7+m+k<=4092/\wr.ownsRow w.heap.size 5 1 out (7+m+k) ((hd kd x n++(zs++List.replicate k 0)).map (Value.int .u8))/\w.grownBy wr none) (fun out _=>4092 - (match out with | .slice _ l _=>l | _=>0))
 case atStart=>exact ⟨0,by omega,O6.out,G6.out⟩
 case round =>
  obtain ⟨k,hk',ho,hg⟩:=hrel;obtain ⟨ao,c,hv,hB⟩:=aY ho;subst hv
  by_cases hlt:7+m+k<4092
  ·have hg1:=World.grownBy_alloc wr (.cells #[.int .u8 0] 5) none
   have vJ:=hJ (ai.lit wr 5 _ [0] 1 rfl rfl);have O7:=hJ (ho.alloc (.cells #[.int .u8 0] 5));have G7:=hJ (gQ hg hg1);have UX:=hJ ho;have Jw:=hJ hg;obtain ⟨N,hN⟩:∃ N,N=7+m+k:=⟨_,rfl⟩;rw [<- hN] at O7 hlt hB hk' UX ⊢;have Ry:=hJ hN;clear hg1 ho hg hB hN;have BF:(N:Int)<4092:=by omega
   go_wp2_with (at_builtin;refine aq rfl _ _ rfl w.heap.size _ N (hd kd x n++(zs++List.replicate k 0)) rfl O7.out (some ⟨wr.heap.size,0,none⟩) 1 1 [0] rfl vJ.out (by omega) G7.out.size ?_)
   intro v8 w8 h8 g8;have bU:=bO Jw.out UX.out (Nat.le_refl _) g8
   have PU:w8.ownsRow w.heap.size 5 1 v8 (N+1) ((hd kd x n++(zs++List.replicate (k+1) 0)).map (Value.int .u8)):=by
    rw [List.replicate_succ',List.map_append,List.map_append,List.map_append,List.map_replicate];exact h8
   have O8:=hJ PU;have G8:=hJ bU;obtain ⟨UN,c8,hv8,_⟩:=aY PU;subst hv8;clear h8 PU g8 bU O7 G7 vJ;go_wp2;go_roundw
   case rel =>
    refine ⟨k+1,by have:=Ry.out;omega,?_,G8.out⟩;rw [<- Nat.add_assoc,<- Ry.out];exact O8.out
   case measure=>simp;omega
  ·have hkk:k=4085 - m:=by omega
   have hN:7+m+k=4092:=by omega
   rw [hN] at hB;rw [hN];subst hkk;have Dh:=hJ hB;have Jw:=hJ hg;clear hB ho hg hk' hN hlt;go_wp2;go_ret;exact ⟨_,_,rfl,Dh.out,Jw.out⟩
theorem Rz (X:Int)(kd x n:Nat)(ro:Option Addr)(m rc:Nat)(zs:List Int)(w:World)(hX:X=(x:Int))(hb:ai w ro m rc zs)(hm:m<=4085)(hk:kd<256) :
  Calls Tryz.prog 118 #[.int .i64 kd,.int .i64 X,.int .i64 n,.slice ro m rc] w fun e w'=>∃ ao c,e=.returned (.slice ao 4092 c)/\ai w' ao 4092 c (hd kd x n++(zs++List.replicate (4085 - m) 0))/\w.grownBy w' none:=by
 subst hX;exact uz kd x n ro m rc zs w hb hm hk
theorem oo (x:Int)(ao:Option Addr)(n cap:Nat)(zs:List Int)(w:World)(hb:ai w ao n cap zs)(hn:n<=9223372036854775807) :
  Calls Tryz.prog 46 #[.int .i64 x,.slice ao n cap] w fun en w'=>∃ bo m c,en=.returned (.tuple #[.slice bo m c,.int .i64 (eD x n)])/\ai w' bo m c (oD x zs)/\w.grownBy w' none:=by
 have hl:=hb.len;have HB:=hJ hb;clear hb;cases hk:sA x with
 | false =>
  have e:Hid (eD x n=51):=by show _=_;unfold eD;rw [if_pos hk]
  have e2:Hid (oD x zs=[]):=Ce (by rw [hl,e.out];decide);clear hl;go_enter Tryz.func46,Tryz.ntmps46
  go_wp2_with fail
  refine (bN x _).mono ?_;rintro en w ⟨rfl,rfl⟩;rw [hk];go_wp2
  go_ret2
  rw [e.out,e2.out];exact ⟨none,0,0,rfl,ai.empty _,World.grownBy.refl _ _⟩
 | true =>
  cases hc:(decide (n=0) || cnt x n 4085) with
  | true =>
   have e:Hid (eD x n=62):=by show _=_;unfold eD;rw [if_neg (by rw [hk];decide),if_pos hc]
   have e2:Hid (oD x zs=[]):=Ce (by rw [hl,e.out];decide);clear hl;simp only [cnt,Bool.or_eq_true,decide_eq_true_eq,Bool.and_eq_true] at hc
   by_cases h1:n<1
   ·go_enter Tryz.func46,Tryz.ntmps46
    go_wp2_with fail
    refine (bN x _).mono ?_;rintro en w ⟨rfl,rfl⟩;rw [hk];have yE:(n:Int)<1:=by omega
    clear hc;go_wp2
    go_ret2
    rw [e.out,e2.out];exact ⟨none,0,0,rfl,ai.empty _,World.grownBy.refl _ _⟩
   ·by_cases h2:4085<n
    ·go_enter Tryz.func46,Tryz.ntmps46
     go_wp2_with fail
     refine (bN x _).mono ?_;rintro en w ⟨rfl,rfl⟩;rw [hk];have yE:¬ (n:Int)<1:=by omega
     have uA:(4085:Int)<(n:Int):=by omega
     clear hc;go_wp2
     go_ret2
     rw [e.out,e2.out];exact ⟨none,0,0,rfl,ai.empty _,World.grownBy.refl _ _⟩
    ·have h3:x≠0:=by omega
     have h4:n<4085:=by omega
     have h3a:(x != 0)=true:=by simp [h3]
     have h3b:(x==0)=false:=by simp [h3]
     have yE:¬ (n:Int)<1:=by omega
     have uA:¬ (4085:Int)<(n:Int):=by omega
     have h4':((n:Int) != 4085)=true:=by simp;omega
     have h4b:((n:Int)==4085)=false:=by simp;omega
     clear hc;go_enter Tryz.func46,Tryz.ntmps46
     go_wp2_with fail
     refine (bN x _).mono ?_;rintro en w ⟨rfl,rfl⟩;rw [hk];go_wp2
     go_ret2
     rw [e.out,e2.out];exact ⟨none,0,0,rfl,ai.empty _,World.grownBy.refl _ _⟩
  | false =>
   have e:Hid (eD x n=0):=by show _=_;unfold eD;rw [if_neg (by rw [hk];decide),if_neg (by rw [hc];simp)]
   have e2:Hid (oD x zs=dB x.toNat zs):=kQ (by rw [hl,e.out]);obtain ⟨_,h0,hm,_⟩:=nN e.out;obtain ⟨y,hy,jE⟩:=iq hk;subst hy;have e2:Hid (oD y zs=dB y zs):=e2;have HD:Hid (dB y zs=hd 3 y n++(zs++List.replicate (4085 - n) 0)):=by show _=_;unfold dB;rw [hl]
   simp only [cnt,Bool.or_eq_false_iff,decide_eq_false_iff_not,Bool.and_eq_false_iff,Decidable.not_not] at hc;have yE:¬ (n:Int)<1:=by omega
   have uA:¬ (4085:Int)<(n:Int):=by omega
   by_cases h3:y=0
   ·subst h3
    clear hc hl;go_enter Tryz.func46,Tryz.ntmps46
    go_wp2_with fail
    refine (bN _ _).mono ?_;rintro en w ⟨rfl,rfl⟩;rw [show sA 0=true from rfl]
    go_wp2_with fail
    refine (uz 3 0 n ao n cap zs _ HB.out (by omega) (by omega)).mono ?_;rintro en w2 ⟨bo,c,rfl,hb2,hg2⟩;have B2:=hJ hb2;have G2:=hJ hg2;clear hb2 hg2;go_wp2
    go_ret2
    rw [e.out,e2.out,HD.out];exact ⟨_,_,_,rfl,B2.out,G2.out⟩
   ·have h4:n=4085:=by omega
    have h3a:((y:Int) != 0)=true:=by simp [h3]
    have h3b:((y:Int)==0)=false:=by simp [h3]
    have h4':((n:Int) != 4085)=false:=by simp;omega
    have h4b:((n:Int)==4085)=true:=by simp;omega
    have H4:=hJ h4;clear hc hl h4;go_enter Tryz.func46,Tryz.ntmps46
    go_wp2_with fail
    refine (bN _ _).mono ?_;rintro en w ⟨rfl,rfl⟩;rw [hk]
    go_wp2_with fail
    refine (uz 3 y n ao n cap zs _ HB.out (by omega) (by omega)).mono ?_;rintro en w2 ⟨bo,c,rfl,hb2,hg2⟩;have B2:=hJ hb2;have G2:=hJ hg2;clear hb2 hg2;go_wp2
    go_ret2
    rw [e.out,e2.out,HD.out];exact ⟨_,_,_,rfl,B2.out,G2.out⟩
def gd (xs:List Int)(i:Nat):Prop:=∀ j,j<i->ik (xs.getD j 0)=true/\(0<j->xs.getD (j - 1) 0<xs.getD j 0)
theorem WJ (h:x<2):ik x=false:=by unfold ik;rw [decide_eq_false (by omega)];rfl
theorem WK (h:524286<x):ik x=false:=by unfold ik;rw [decide_eq_false (p:=x<=524286) (by omega),Bool.and_false]
theorem WM (h1:¬ x<2)(h2:¬ 524286<x):ik x=true:=sD.2 ⟨by omega,by omega⟩
theorem WN {xs:List Int}(h:gd xs xs.length):xs.all ik=true/\Gv xs=true:=by
 refine ⟨List.all_eq_true.2 fun x hx=>?_,Ch fun j hj=>?_⟩
 ·obtain ⟨j,hj,rfl⟩:=List.getElem_of_mem hx
  have:=(h j hj).1;simpa [List.getD,List.getElem?_eq_getElem hj] using this
 ·exact (h (j+1) hj).2 (by omega)
theorem RA {xs:List Int}{i:Nat}(h:gd xs i)(h1:ik (xs.getD i 0)=true)(h2:0<i->xs.getD (i - 1) 0<xs.getD i 0):gd xs (i+1):=by
 intro j hj
 by_cases e:j=i
 ·subst e;exact ⟨h1,h2⟩
 ·exact h j (by omega)
theorem oq (x:Int)(ao:Option Addr)(n cap:Nat)(xs:List Int)(w:World)(hb:Nt w ao xs)(hl:xs.length=n)(hn:n<=9223372036854775806) :
  Calls Tryz.prog 47 #[.int .i64 x,.slice ao n cap] w fun en w'=>∃ bo m c,en=.returned (.tuple #[.slice bo m c,.int .i64 (eL x xs)])/\ai w' bo m c (oL x xs)/\w.grownBy w' none:=by
 have HB:=hJ hb;clear hb;cases hk:sA x with
 | false =>
  have e:Hid (eL x xs=51):=by show _=_;unfold eL;rw [if_pos hk]
  have e2:Hid (oL x xs=[]):=xu (by rw [e.out];decide);clear hl;go_enter Tryz.func47,Tryz.ntmps47
  go_wp2_with fail
  refine (bN x _).mono ?_;rintro en w ⟨rfl,rfl⟩;rw [hk];go_wp2
  go_ret2
  rw [e.out,e2.out];exact ⟨none,0,0,rfl,ai.empty _,World.grownBy.refl _ _⟩
 | true =>
  have pB:Hid (vX x xs=(cnt x n 1021 || (!(xs.all ik) || !(Gv xs)))):=by show _=_;rw [<- hl];rfl
  have EB:Hid (vX x xs=true->eL x xs=63):=fun h=>by unfold eL;rw [if_neg (by rw [hk];decide),if_pos h]
  have EO:Hid (vX x xs=true->oL x xs=[]):=fun h=>xu (by rw [EB.out h];decide)
  cases hc:cnt x n 1021 with
  | true =>
   have e:Hid (eL x xs=63):=EB.out (by rw [pB.out,hc];rfl);have e2:Hid (oL x xs=[]):=EO.out (by rw [pB.out,hc];rfl);simp only [cnt,Bool.or_eq_true,decide_eq_true_eq,Bool.and_eq_true] at hc
   by_cases h2:1021<n
   ·have uA:(1021:Int)<(n:Int):=by omega
    clear hc hl pB EB EO;go_enter Tryz.func47,Tryz.ntmps47
    go_wp2_with fail
    refine (bN x _).mono ?_;rintro en w ⟨rfl,rfl⟩;rw [hk];go_wp2
    go_ret2
    rw [e.out,e2.out];exact ⟨none,0,0,rfl,ai.empty _,World.grownBy.refl _ _⟩
   ·have h3:x≠0:=by omega
    have h3a:(x != 0)=true:=by simp [h3]
    have h3b:(x==0)=false:=by simp [h3]
    have uA:¬ (1021:Int)<(n:Int):=by omega
    have h4':((n:Int) != 1021)=true:=by simp;omega
    have h4b:((n:Int)==1021)=false:=by simp;omega
    clear hc hl pB EB EO;go_enter Tryz.func47,Tryz.ntmps47
    go_wp2_with fail
    refine (bN x _).mono ?_;rintro en w ⟨rfl,rfl⟩;rw [hk];go_wp2
    go_ret2
    rw [e.out,e2.out];exact ⟨none,0,0,rfl,ai.empty _,World.grownBy.refl _ _⟩
  | false =>
   have hm:n<=1021:=by simp only [cnt,Bool.or_eq_false_iff,decide_eq_false_iff_not] at hc;omega
   have WO:x=0∨n=1021:=by
    simp only [cnt,Bool.or_eq_false_iff,decide_eq_false_iff_not,Bool.and_eq_false_iff,Decidable.not_not] at hc;omega
   have uA:¬ (1021:Int)<(n:Int):=by omega
   have RD:Hid (xs.all ik=false∨Gv xs=false->vX x xs=true):=by
    rintro (h | h)
    ·rw [pB.out,hc,h];rfl
    ·rw [pB.out,hc,h];simp
   have UY:Hid (gd xs n->eL x xs=0):=fun h=>by
    rw [<- hl] at h;have:=WN h;unfold eL;rw [if_neg (by rw [hk];decide),if_neg (by rw [pB.out,hc,this.1,this.2];decide)]
   clear pB hc
   have hdec:((x==0)=true/\(x != 0)=false)∨((x==0)=false/\(x != 0)=true/\((n:Int)==1021)=true/\((n:Int) != 1021)=false):=by
    by_cases h3:x=0
    ·left;simp [h3]
    ·right;have:n=1021:=by omega
     simp [h3,this]
   clear WO;obtain ⟨y,hy,jE⟩:=iq hk;have HY:=hJ hy;clear hy;rcases hdec with ⟨f1,f2⟩ | ⟨f1,f2,f3,f4⟩
   all_goals
    go_enter Tryz.func47,Tryz.ntmps47
    go_wp2_with fail
    refine (bN x _).mono ?_;rintro en w ⟨rfl,rfl⟩;rw [hk];go_wp2;go_loopw [7,8] (fun out si wr=>∃ i:Nat,i<=n/\si=.int .i64 i/\wr.ownsRow w.heap.size 5 1 out (4*i) ((fl (xs.take i)).map (Value.int .u8))/\gd xs i/\w.grownBy wr none) (fun _ si _=>n - (intOf si).toNat)
    case atStart=>exact ⟨0,Nat.zero_le _,rfl,World.ownsRow_nil _ _ _ _,fun j hj=>by omega,World.grownBy.refl _ _⟩
    case round =>
     obtain ⟨i,hi,rfl,ho,hgd,hg⟩:=hrel;have O1:=hJ ho;have GD:=hJ hgd;have G1:=hJ hg;clear hgd hg
     by_cases hlt:i<n
     ·obtain ⟨b,off,rfl,c0⟩:=(HB.out.ae G1.out).row i (by omega)
      obtain ⟨sb,sc,hv0,_⟩:=aY ho;subst hv0;clear ho;have JE:=hJ (GU (xs:=xs) (i:=i) (by omega));have NU:=hJ (RA GD.out);have yF:=hJ (UU (xs:=xs) (i:=i) (by omega))
      by_cases h1:xs.getD i 0<2
      ·have uB:=RD.out (.inl (JE.out (WJ h1)))
       have E1:=hJ (EB.out uB);have E2:=hJ (EO.out uB);clear uB JE NU yF;generalize xs.getD i 0=v at *;have d1:decide (v<2)=true:=decide_eq_true h1;go_wp2
       go_quiet (fail)
       go_wp2
       go_ret2
       rw [E1.out,E2.out];exact ⟨none,0,0,rfl,ai.empty _,gQ G1.out ((Qt.drewN _ _).grown none)⟩
      ·by_cases h2:524286<xs.getD i 0
       ·have uB:=RD.out (.inl (JE.out (WK h2)))
        have E1:=hJ (EB.out uB);have E2:=hJ (EO.out uB);clear uB JE NU yF;generalize xs.getD i 0=v at *;have d1:decide (v<2)=false:=decide_eq_false h1;have d2:decide (524286<v)=true:=decide_eq_true h2;go_wp2
        go_quiet (fail)
        go_wp2
        go_ret2
        rw [E1.out,E2.out];exact ⟨none,0,0,rfl,ai.empty _,gQ G1.out ((Qt.drewN _ _).grown none)⟩
       ·have HIN:=hJ (WM h1 h2)
        obtain ⟨vn,hvn⟩:∃ vn:Nat,xs.getD i 0=(vn:Int):=⟨(xs.getD i 0).toNat,by omega⟩;have HVN:=hJ hvn;clear hvn;have d1:decide (xs.getD i 0<2)=false:=decide_eq_false h1;have d2:decide (524286<xs.getD i 0)=false:=decide_eq_false h2
        by_cases h3:0<i
        ·obtain ⟨u,hu⟩:∃ u,u=xs.getD (i - 1) 0:=⟨_,rfl⟩
         have q1:=(HB.out.ae G1.out).at (i - 1) (by omega);rw [<- hu] at q1;have d3:decide ((0:Int)<(i:Int))=true:=decide_eq_true (by omega);have d3':decide (0<i)=true:=decide_eq_true h3;have ix:(i:Int) - 1=((i - 1:Nat):Int):=by omega
         by_cases h4:xs.getD i 0<=u
         ·have uB:=RD.out (.inr (xq (j:=i - 1) (by omega) (by rw [show i - 1+1=i by omega,<- hu];omega)))
          have E1:=hJ (EB.out uB);have E2:=hJ (EO.out uB);clear uB JE NU yF HIN HVN hu;generalize xs.getD i 0=v at *;have d4:decide (v<=u)=true:=decide_eq_true h4;go_wp2
          go_quiet (fail)
          go_wp2
          go_ret2
          rw [E1.out,E2.out];exact ⟨none,0,0,rfl,ai.empty _,gQ G1.out ((Qt.drewN _ _).grown none)⟩
         ·have NX:=hJ (NU.out HIN.out (fun _=>by rw [<- hu];omega))
          clear JE NU HIN hu;generalize xs.getD i 0=v at *;have d4:decide (v<=u)=false:=decide_eq_false h4;go_wp2
          go_quiet (fail)
          go_wp2_with fail
          refine (xx _ vn 4 _ HVN.out (by omega)).mono ?_;rintro en w2 ⟨a2,c2,rfl,hb2,hg2⟩;have GD2:=hJ (gQ ((Qt.drewN _ _).grown none) hg2);have O2:=hJ (lH O1.out GD2.out);have G2:=hJ (gQ G1.out GD2.out);have B2:=hJ hb2;clear hb2 hg2 O1 G1
          go_wp2_with (at_builtin;refine aq rfl _ _ rfl w.heap.size _ (4*i) (fl (xs.take i)) rfl O2.out a2 4 c2 (lb 4 vn) rfl B2.out (by omega) G2.out.size ?_)
          intro v3 w3 h3 g3;have G3:=hJ (gO G2.out g3 O2.out (Nat.le_refl _))
          have qD:w3.ownsRow w.heap.size 5 1 v3 (4*(i+1)) ((fl (xs.take (i+1))).map (Value.int .u8)):=by
           rw [yF.out,DO,jk,xW,List.append_nil,HVN.out,Int.toNat_natCast,List.map_append];exact h3
          have O3:=hJ qD;obtain ⟨Yh,c3,hv3,_⟩:=aY qD;subst hv3;clear h3 qD g3 O2 G2 B2;go_wp2;go_roundw
          case rel=>exact ⟨i+1,by omega,by go_num,O3.out,NX.out,G3.out⟩
          case measure=>simp [intOf];omega
        ·have NX:=hJ (NU.out HIN.out (fun h=>absurd h h3))
         clear JE NU HIN;have d3:decide ((0:Int)<(i:Int))=false:=decide_eq_false (by omega);have d3':decide (0<i)=false:=decide_eq_false h3;generalize xs.getD i 0=v at *;go_wp2
         go_quiet (fail)
         go_wp2_with fail
         refine (xx _ vn 4 _ HVN.out (by omega)).mono ?_;rintro en w2 ⟨a2,c2,rfl,hb2,hg2⟩;have GD2:=hJ (gQ ((Qt.drewN _ _).grown none) hg2);have O2:=hJ (lH O1.out GD2.out);have G2:=hJ (gQ G1.out GD2.out);have B2:=hJ hb2;clear hb2 hg2 O1 G1
         go_wp2_with (at_builtin;refine aq rfl _ _ rfl w.heap.size _ (4*i) (fl (xs.take i)) rfl O2.out a2 4 c2 (lb 4 vn) rfl B2.out (by omega) G2.out.size ?_)
         intro v3 w3 h3 g3;have G3:=hJ (gO G2.out g3 O2.out (Nat.le_refl _))
         have qD:w3.ownsRow w.heap.size 5 1 v3 (4*(i+1)) ((fl (xs.take (i+1))).map (Value.int .u8)):=by
          rw [yF.out,DO,jk,xW,List.append_nil,HVN.out,Int.toNat_natCast,List.map_append];exact h3
         have O3:=hJ qD;obtain ⟨Yh,c3,hv3,_⟩:=aY qD;subst hv3;clear h3 qD g3 O2 G2 B2;go_wp2;go_roundw
         case rel=>exact ⟨i+1,by omega,by go_num,O3.out,NX.out,G3.out⟩
         case measure=>simp [intOf];omega
     ·have hin:i=n:=by omega
      obtain ⟨sb,sc,hv0,hB⟩:=aY ho;subst hv0;clear ho O1;subst hin;have E1:=hJ (UY.out GD.out)
      have hB':ai wr sb (4*i) sc (fl xs):=by
       have:=hB;rw [<- hl,List.take_length] at this;rw [<- hl];exact this
      have B1:=hJ hB'
      have E2:Hid (oL x xs=hd 4 y i++(fl xs++List.replicate (4085 - 4*i) 0)):=by
       show _=_
       rw [ju E1.out,HY.out,Int.toNat_natCast];unfold lB;rw [hl]
      clear hB hB' UY EB EO RD
      go_wp2_with fail
      refine (Rz x 4 y i sb (4*i) sc (fl xs) _ HY.out B1.out (by omega) (by omega)).mono ?_;rintro en w2 ⟨bo,c,rfl,hb2,hg2⟩;have B2:=hJ hb2;have G2:=hJ (gQ G1.out hg2);clear hb2 hg2;go_wp2
      go_ret2
      rw [E1.out,E2.out];exact ⟨_,_,_,rfl,B2.out,G2.out⟩
theorem JK (w:World)(t:TypeId)(v:Value):∀ j u,[v][j]?=some u->(w.alloc (.cells #[v] t)).cell? ((⟨w.heap.size,0,none⟩:Addr).add j)=some u:=by
 intro j u hu;cases j with
 | zero =>
  simp only [List.getElem?_cons_zero,Option.some.injEq] at hu;subst hu;rw [Addr.add_lit];have:=cell_of_row (w.alloc (.cells #[v] t)) w.heap.size 0 _ t (0,0) (heap_alloc_new w _);rw [this];rfl
 | succ j=>simp at hu
def marks:List Int:=(List.range 40).map fun i=>((47+11*i:Nat):Int) % 256
theorem uC (ao:Option Addr)(n cap:Nat)(zs:List Int)(w:World)(hb:ai w ao n cap zs)(bp:Bt zs) :
  Calls Tryz.prog 184 #[.slice ao n cap] w fun en w'=>∃ bo m,en=.returned (.tuple #[.int .i64 (vN zs),.slice bo m m,.int .i64 (vE zs)])/\ai w' bo m m (vD zs)/\(0<m->bo=some ⟨w.heap.size,7,none⟩/\∃ cur,w'.heap[w.heap.size]?=some (.cells cur 5 (0,0)))/\w.grownBy w' none:=by
 have hl:=hb.len;have HB:=hJ hb;clear hb
 by_cases h0:n=4092
 ·subst h0
  have hrd:=aa9 hl;have Ck:=hJ (UR bp);have EF:=hJ (WD hl);obtain ⟨x,hx⟩:∃ x,x=rN zs:=⟨_,rfl⟩;obtain ⟨c,hc⟩:∃ c,c=rC zs:=⟨_,rfl⟩;have HX:=hJ hx;have HC:=hJ hc;rw [<- hc] at hrd;have HRD:=hJ hrd;clear hx hc hrd;go_enter Tryz.func184,Tryz.ntmps184
  go_wp2_with fail
  refine (dR ao 4092 cap zs _ HB.out (by omega)).mono ?_;rintro en w1 ⟨R,rfl,hr1,hg1,hs1⟩;have B1:=hJ (HB.out.ae hg1);have kP:Hid (∀ ad,ao=some ad->0<4092->ad.block<w.heap.size):=fun ad h1 h2=>HB.out.lt h1 h2
  have G1:=hJ hg1;clear hg1
  go_wp2_with fail
  refine (ol R w.heap.size zs _ hr1 bp hl).mono ?_;rw [<- HX.out,<- HC.out];rintro en w2 ⟨rfl,hr2,hg2⟩;have B2:=hJ (B1.out.kept hg2 (fun ad h1 h2 e=>by have:=kP.out ad h1 (by omega);have:=Option.some.inj e;omega));have G2:=hJ (af G1.out hg2 (by omega));clear hg2 hr1 G1 B1
  go_wp2_with fail
  refine (yh R w.heap.size zs (7,0) (c:Int) _ hr2).mono ?_;rw [HRD.out];rintro en w3 ⟨⟨bo,k,rfl,hb3,hp3,hk3⟩,hr3,hg3⟩;have U3:Hid (∃ cur,w3.heap[w.heap.size]?=some (.cells cur 5 (0,0))):=by obtain ⟨cur,hc,_⟩:=hr3.row;exact ⟨cur,hc⟩
  clear hr3;have B3:=hJ (B2.out.kept hg3 (fun ad h1 h2 e=>by have:=kP.out ad h1 (by omega);have:=Option.some.inj e;omega));have G3:=hJ (af G2.out hg3 (by omega));have D3:=hJ hb3;have hk:=hb3.len;have P3:=hJ hp3;clear hg3 hr2 G2 B2 hb3 hp3
  go_wp2_with fail
  refine (kR (x:Int) bo k k (rD zs) _ D3.out (by omega)).mono ?_;rintro en w4 ⟨so,m,rfl,hb4,_,hg4⟩;have B4:=hJ (B3.out.ae hg4);have G4:=hJ (gQ G3.out hg4);have D4:=hJ (D3.out.ae hg4);have U4:Hid (∃ cur,w4.heap[w.heap.size]?=some (.cells cur 5 (0,0))):=by obtain ⟨cur,hc⟩:=U3.out;exact ⟨cur,(hg4.block _ (Array.getElem?_eq_some_iff.1 hc).1 (by simp)).trans hc⟩
  clear U3;have S4:=hJ hb4;rw [<- hk];obtain ⟨er,her⟩:∃ er,er=eD (x:Int) (rD zs).length:=⟨_,rfl⟩;rw [<- her];have PK:=hJ her;have HK:=hJ hk;clear hg4 G3 B3 D3 hb4 her hk
  by_cases he:er=0
  ·subst he
   by_cases hq:oD (x:Int) (rD zs)=zs
   ·have HT:Hid (dD zs=true):=EF.out.2 ⟨by rw [<- HX.out];exact PK.out.symm,by rw [<- HX.out];exact hq⟩
    have HQ:=hJ hq;clear hq
    go_wp2_with fail
    refine (lC so ao m 4092 m cap _ _ _ S4.out B4.out HQ.out).mono ?_;rintro en w5 ⟨rfl,rfl⟩;go_wp2
    go_ret3
    rw [(Cf HT.out).1,(Cf HT.out).2.1,(Cf HT.out).2.2,<- HX.out];exact ⟨bo,k,by rw [HK.out];rfl,D4.out,fun h0=>⟨P3.out h0,U4.out⟩,G4.out⟩
   ·have HT:Hid (dD zs=false):=by
     cases hh:dD zs with
     | false=>rfl
     | true=>exact absurd (by rw [HX.out];exact (EF.out.1 hh).2) hq
    have HQ:=hJ hq;clear hq
    go_wp2_with fail
    refine (nT so ao m 4092 m cap _ _ _ S4.out B4.out (UQ Ck.out) bp HQ.out).mono ?_;rintro en w5 ⟨rfl,rfl⟩;go_wp2
    go_ret3
    rw [(wF HT.out).1,(wF HT.out).2.1,(wF HT.out).2.2];exact ⟨none,0,rfl,ai.empty _,fun h=>by omega,G4.out⟩
  ·have HT:Hid (dD zs=false):=by
    cases hh:dD zs with
    | false=>rfl
    | true=>exact absurd (by rw [PK.out,HX.out];exact (EF.out.1 hh).1) he
   have xw:(er==0)=false:=by simp [he]
   have he3:(er != 0)=true:=by simp [he]
   go_wp2
   go_ret3
   rw [(wF HT.out).1,(wF HT.out).2.1,(wF HT.out).2.2];exact ⟨none,0,rfl,ai.empty _,fun h=>by omega,G4.out⟩
 ·have HT:Hid (dD zs=false):=by show _=_;simp [dD,hl,h0]
  have Ae:¬ (n:Int)=4092:=by omega
  go_enter Tryz.func184,Tryz.ntmps184;go_wp2
  go_ret3
  rw [(wF HT.out).1,(wF HT.out).2.1,(wF HT.out).2.2];exact ⟨none,0,rfl,ai.empty _,fun h=>by omega,World.grownBy.refl _ _⟩
end Go.Proofs.YtgldkdbkaachkaaGreatDoor
