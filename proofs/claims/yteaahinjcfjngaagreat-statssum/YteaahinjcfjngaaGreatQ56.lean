import Derived.Test.YteaahinjcfjngaaGreatQ13
import Derived.Test.YteaahinjcfjngaaGreatQ55
set_option maxRecDepth 100000
set_option maxHeartbeats 4000000
namespace Go.Proofs.YteaahinjcfjngaaGreat
open Go.RowKit
theorem refLong_any (s:Int)(w:World):Calls Tryz.prog 86 #[.int .i64 s] w fun en w'=>en=.returned (.int .i64 ((lg s:Nat):Int))/\w'=w:=by
 have HL:=hZq (lg_int s)
 by_cases h0:s<0
 ·go_enter Tryz.func86,Tryz.ntmps86
  go_wp2;go_ret;exact ⟨ret_int (by rw [HL.out];omega),rfl⟩
 ·by_cases h1:262144<s
  ·go_enter Tryz.func86,Tryz.ntmps86
   go_wp2;go_ret;exact ⟨ret_int (by rw [HL.out];omega),rfl⟩
  ·go_enter Tryz.func86,Tryz.ntmps86
   go_wp2;go_ret;exact ⟨ret_int (by rw [HL.out];omega),rfl⟩
theorem ret_u64 {x y:Int}(h:x=y):Ending.returned (Value.int IntKind.u64 x)=.returned (.int .u64 y):=by rw [h]
theorem refTag_any (s:Int)(w:World):Calls Tryz.prog 85 #[.int .i64 s] w fun en w'=>en=.returned (.int .u64 ((tg s:Nat):Int))/\w'=w:=by
 have hl:=lg_le s;have HT:Hid (tg s=if 512<lg s then 2*lg s+1 else 2*lg s):=rfl;go_enter Tryz.func85,Tryz.ntmps85
 go_wp2_with fail
 refine (refLong_any s _).mono ?_;rintro en w1 ⟨rfl,rfl⟩;generalize lg s=q at *
 by_cases h5:512<q
 ·go_wp2
  go_ret;exact ⟨ret_u64 (by rw [HT.out,if_pos h5];go_num),rfl⟩
 ·go_wp2
  go_ret;exact ⟨ret_u64 (by rw [HT.out,if_neg h5];go_num),rfl⟩
theorem refCommon4_none (a:Option Addr)(cap:Nat)(w:World):Calls Tryz.prog 84 #[.slice a 0 cap] w fun en w'=>en=.returned (.int .i64 0)/\w'=w:=by
 go_enter Tryz.func84,Tryz.ntmps84;go_wp2;go_ret;exact ⟨rfl,rfl⟩
theorem refCommon4_some (a:Option Addr)(cap:Nat)(x:It)(T:List It)(w:World)(hl:Il w a (x::T))(hc:T.length+1<=5000) :
  Calls Tryz.prog 84 #[.slice a (T.length+1) cap] w fun en w'=>en=.returned (.int .i64 ((pre (x::T):Nat):Int))/\Dr w w':=by
 have HM:Hid (pre (x::T)=comAll x.key x.key.length (T.map It.key)):=rfl;obtain ⟨b,off,ao,n,c,bo,m2,d2,rfl,q2,q3,q4,q5,q6,q7,q8,q9,q10,q11⟩:=hl.row 0 (by simp);have h3':Byt w ao n c x.key:=by simpa using q6
 have hz:=h3'.len;have HF:=hZq h3';have HL:=hZq hl;rw [Nat.zero_mul,Nat.add_zero] at q2;have HQ2:=hZq q2;clear q2 q3 q4 q5 q6 q9 h3' hl;obtain ⟨N,hN⟩:∃ N,T.length+1=N:=⟨_,rfl⟩;rw [hN];have HN:=hZq hN;have hN5:N<=5000:=by omega
 have hN1:¬ N=0:=by omega
 have hN0:(0:Int)<(N:Int):=by omega
 clear hN hc;have cq:=HQ2.out;go_enter Tryz.func84,Tryz.ntmps84;go_wp2;go_loopw [3,4,5] (fun sn si _ wr=>∃ i:Nat,i+1<=N/\si=.int .i64 ((i+1:Nat):Int)/\sn=.int .i64 ((comAll x.key n ((T.map It.key).take i):Nat):Int)/\Dr w wr) (fun _ si _ _=>N - (intOf si).toNat)
 case atStart=>exact ⟨0,by omega,rfl,rfl,Dr.refl _⟩
 case round =>
  obtain ⟨i,hi,rfl,rfl,hq⟩:=hrel;have HQ:=hZq hq;clear hq;have hle:comAll x.key n ((T.map It.key).take i)<=n:=comAll_le _ _ _
  by_cases hlt:i+1<N
  ·obtain ⟨b',off',bo',m,d,bo2,m3,d3,e1,k2,k3,k4,k5,k6,k7,k8,k9,k10,k11⟩:=HL.out.row (i+1) (by have:=HN.out;simp;omega)
   simp only [Option.some.injEq,Addr.mk.injEq] at e1;obtain ⟨rfl,rfl,_⟩:=e1;have k6':Byt w bo' m d (T.getD i it0).key:=by simpa using k6
   have hlk:=k6'.len
   have HS:Hid (comAll x.key n ((T.map It.key).take (i+1))=min (comAll x.key n ((T.map It.key).take i)) (com x.key (T.getD i it0).key)):=by
    have:=comAll_snoc x.key n (T.map It.key) i (by have:=HN.out;rw [List.length_map];omega);rw [key_map] at this;exact this
   have HB:=hZq k6';have HK2:=hZq k2;clear k2 k3 k4 k5 k6 k6' k9;generalize comAll x.key n ((T.map It.key).take i)=t at *;generalize (T.getD i it0).key=g at *;obtain ⟨j,hj⟩:∃ j,i+1=j:=⟨_,rfl⟩;rw [hj] at HK2 hlt hi HS ⊢;have HJ:=hZq hj;clear hj;have g0:(0:Int)<=(j:Int):=by omega
   have g1:(j:Int)<(N:Int):=by omega
   go_wp2;go_loopw [5] (fun sk wk=>∃ k:Nat,k<=t/\k<=m/\sk=.int .i64 k/\com (x.key.drop k) (g.drop k)+k=com x.key g/\Dr w wk) (fun sk _=>t - (intOf sk).toNat)
   case atStart=>exact ⟨0,Nat.zero_le _,Nat.zero_le _,rfl,rfl,HQ.out⟩
   case round =>
    obtain ⟨k,hk1,hk2,rfl,he,hqk⟩:=hrel;have HE:=hZq he;have HQK:=hZq hqk;clear he hqk;have cf:=(HQK.out.cell _).trans HQ2.out;have cg:=(HQK.out.cell _).trans HK2.out
    by_cases h1:k<t
    ·by_cases h2:k<m
     ·obtain ⟨b1,o1,rfl,_,r1⟩:=HF.out.at (by omega)
      obtain ⟨b2,o2,rfl,_,r2⟩:=HB.out.at (by omega);have c1:=(HQK.out.cell _).trans (r1 k (by omega));have c2:=(HQK.out.cell _).trans (r2 k h2);have e1:Hid (x.key.getD k 0=g.getD k 0->com (x.key.drop k) (g.drop k)=com (x.key.drop (k+1)) (g.drop (k+1))+1):=fun h=>com_on (by omega) (by omega) h
      have e2:Hid (x.key.getD k 0≠g.getD k 0->com (x.key.drop k) (g.drop k)=0):=fun h=>com_off (by omega) (by omega) h
      have gg1:decide ((k:Int)<(t:Int))=true:=by simp;omega
      have gg2:decide ((k:Int)<(m:Int))=true:=by simp;omega
      have gg3:(k:Int)<(n:Int):=by omega
      have gg4:(k:Int)<(m:Int):=by omega
      have gg0:(0:Int)<=(k:Int):=by omega
      clear r1 r2;generalize x.key.getD k 0=u at *;generalize g.getD k 0=v at *
      by_cases huv:u=v
      ·subst huv
       have E1:=hZq (e1.out rfl);clear e1 e2;have hd:(u==u)=true:=by simp
       go_wp2
       go_quiet (fail)
       go_wp2;go_roundw
       case rel=>exact ⟨k+1,by omega,by omega,by go_num,by have:=E1.out;have:=HE.out;omega,HQK.out.more _⟩
       case measure=>simp [intOf];omega
      ·have hd:(v==u)=false:=by simpa using fun e=>huv e.symm
       have HC:Hid (com x.key g=k):=by have:=e2.out huv;have:=HE.out;show _=_;omega
       clear e1 e2;go_wp2
       go_quiet (fail)
       go_wp2;go_roundw
       case rel=>exact ⟨i+1,by have:=HJ.out;omega,by have:=HJ.out;go_num,by rw [HJ.out,HS.out,HC.out,Nat.min_eq_right (by omega)],HQK.out.more _⟩
       case measure=>have:=HJ.out;simp [intOf];omega
     ·have hend:=com_end (a:=x.key) (b:=g) (i:=k) (by omega)
      have HC:Hid (com x.key g=k):=by have:=HE.out;show _=_;omega
      clear hend;have gg1:decide ((k:Int)<(t:Int))=true:=by simp;omega
      have gg2:decide ((k:Int)<(m:Int))=false:=by simp;omega
      go_wp2
      go_quiet (fail)
      go_wp2;go_roundw
      case rel=>exact ⟨i+1,by have:=HJ.out;omega,by have:=HJ.out;go_num,by rw [HJ.out,HS.out,HC.out,Nat.min_eq_right (by omega)],HQK.out.more _⟩
      case measure=>have:=HJ.out;simp [intOf];omega
    ·have HC:Hid (t<=com x.key g):=by have:=HE.out;show _<=_;omega
     have hkt:k=t:=by omega
     have gg1:decide ((k:Int)<(t:Int))=false:=by simp;omega
     go_wp2
     go_quiet (fail)
     go_wp2;go_roundw
     case rel=>exact ⟨i+1,by have:=HJ.out;omega,by have:=HJ.out;go_num,by rw [HJ.out,HS.out,Nat.min_eq_left HC.out,hkt],HQK.out.more _⟩
     case measure=>have:=HJ.out;simp [intOf];omega
  ·have hin:i=T.length:=by have:=HN.out;omega
   have HT:Hid (comAll x.key n ((T.map It.key).take i)=pre (x::T)):=by
    show _=_
    rw [HM.out,hin,hz,List.take_of_length_le (by rw [List.length_map];exact Nat.le_refl _)]
   generalize comAll x.key n ((T.map It.key).take i)=t at *;obtain ⟨j,hj⟩:∃ j,i+1=j:=⟨_,rfl⟩;rw [hj] at hlt ⊢;have g1:¬ (j:Int)<(N:Int):=by omega
   go_wp2;go_ret;exact ⟨ret_int (by rw [HT.out]),HQ.out⟩
theorem refCommon4_any (a:Option Addr)(n cap:Nat)(L:List It)(w:World)(hl:Il w a L)(hn:L.length=n)(hm:n<=5000) :
  Calls Tryz.prog 84 #[.slice a n cap] w fun en w'=>en=.returned (.int .i64 ((pre L:Nat):Int))/\Dr w w':=by
 cases L with
 | nil =>
  obtain rfl:n=0:=by simpa using hn.symm
  refine (refCommon4_none a cap w).mono ?_;rintro en w' ⟨rfl,rfl⟩;exact ⟨rfl,Dr.refl _⟩
 | cons x T =>
  have e:n=T.length+1:=by simpa using hn.symm
  subst e;exact refCommon4_some a cap x T w hl hm
theorem refSize_any (a:Option Addr)(n cap:Nat)(L:List It)(w:World)(hl:Il w a L)(hn:L.length=n)(hm:n<=5000)(hk:∀ x∈L,x.key.length<=140737488351232) :
  Calls Tryz.prog 63 #[.slice a n cap] w fun en w'=>en=.returned (.int .i64 ((size L:Nat):Int))/\Dr w w':=by
 have HL:=hZq hl;have HP:Hid (∀ x∈L,pre L<=x.key.length):=fun x hx=>(pre_each x hx).1
 have HS:=hZq (size_int (by omega) hk);have HM:Hid (size L=3+vl (pre L)+pre L+sums (pre L) L):=rfl;have HN:=hZq (fun i h=>sums_snoc (pre L) L i h);have hv:=vl_le (pre L)
 have hpl:pre L<=140737488351232:=by
  cases L with
  | nil=>exact Nat.zero_le _
  | cons x L=>exact Nat.le_trans (pre_each x List.mem_cons_self).1 (hk x List.mem_cons_self)
 have HK:=hZq hk;clear hl hk;go_enter Tryz.func63,Tryz.ntmps63
 go_wp2_with fail
 refine (refCommon4_any a n cap L _ HL.out hn hm).mono ?_;rintro en w1 ⟨rfl,hg1⟩;have HG:=hZq hg1;clear hg1;generalize pre L=p at *
 go_wp2_with fail
 refine (refVLen_any p _ (by omega)).mono ?_;rintro en w2 ⟨rfl,rfl⟩;have hv':(vform p).length<=10:=hv;generalize hvv:(vform p).length=v at *;have HV:Hid (vl p=v):=hvv;clear hvv hv;go_wp2;go_loopw [4,5,6] (fun sn si _ wr=>∃ i:Nat,i<=n/\si=.int .i64 i/\sn=.int .i64 ((3+v+p+sums p (L.take i):Nat):Int)/\Dr w wr) (fun _ si _ _=>n - (intOf si).toNat)
 case atStart=>exact ⟨0,Nat.zero_le _,rfl,by simp [sums],HG.out⟩
 case round =>
  obtain ⟨i,hi,rfl,rfl,hg⟩:=hrel;have HG1:=hZq hg;have b1:=HS.out i (by omega);clear hg HG
  by_cases hlt:i<n
  ·obtain ⟨b,off,ao,m,c,bo,m2,d2,rfl,q2,q3,q4,q5,q6,q7,q8,q9,q10,q11⟩:=HL.out.row i (by omega)
   have c0:=(HG1.out.cell _).trans q2;have c2:=(HG1.out.cell _).trans q4;have hx:=getD_mem (L:=L) (i:=i) (by omega);have hm1:=q6.len;have hp1:=HP.out _ hx;have hk1:=HK.out _ hx;have b2:=cl_le p (L.getD i it0);have HX:Hid (sums p (L.take (i+1))=sums p (L.take i)+(2+cl p (L.getD i it0))):=HN.out i (by omega);obtain ⟨r,hr⟩:∃ r,m - p=r:=⟨_,rfl⟩;have hr':(m:Int) - (p:Int)=(r:Int):=by omega
   have HCL:Hid (cl p (L.getD i it0)=vl r+r+vl (tg (L.getD i it0).size)+tl (L.getD i it0).size):=by show _=_;unfold cl;rw [hm1,hr]
   have htl:tl (L.getD i it0).size=if 512<lg (L.getD i it0).size then 4 else lg (L.getD i it0).size:=rfl
   have hlg:=lg_le (L.getD i it0).size;have htt:=tg_lt (L.getD i it0).size;have hv1:(vform r).length<=10:=vl_le r;have hv2:(vform (tg (L.getD i it0).size)).length<=10:=vl_le _;have HVR:=hZq (fun W:World=>refVLen_any r W (by omega));have HVT:=hZq (fun W:World=>refVLen_any (tg (L.getD i it0).size) W (by omega));have HTG:=hZq (fun W:World=>refTag_any (L.getD i it0).size W);have HLG:=hZq (fun W:World=>refLong_any (L.getD i it0).size W);have hrb:r<=140737488351232:=by omega
   clear q2 q3 q4 q5 q6 q9 hm1 hp1 hx hr;generalize cl p (L.getD i it0)=C at *;generalize sums p (L.take i)=U at *;generalize tl (L.getD i it0).size=tl1 at *;generalize lg (L.getD i it0).size=lg1 at *;generalize (L.getD i it0).size=sz at *;have HTL:=hZq htl;clear htl;generalize hla:(vform r).length=la at *;generalize hlb:(vform (tg sz)).length=lb1 at *;have HLA:Hid (vl r=la):=hla;have HLB:Hid (vl (tg sz)=lb1):=hlb;clear hla hlb;generalize tg sz=t at *;have g0:(0:Int)<=(i:Int):=by omega
   have g1:(i:Int)<(n:Int):=by omega
   obtain ⟨S0,hS0⟩:∃ S0,3+v+p+U=S0:=⟨_,rfl⟩;rw [hS0];have HS0:=hZq hS0;have hSb:S0<=704000000000000000:=by omega
   clear hS0;go_wp2
   go_quiet ((first
    | (go_at_call_of 83 (Value.int IntKind.u64 (r:Int));exact Calls.quiet_of_same (HVR.out _))
    | (go_at_call_of 83 (Value.int IntKind.u64 (t:Int));exact Calls.quiet_of_same (HVT.out _))
    | (go_at_call 85;exact Calls.quiet_of_same (HTG.out _))))
   go_wp2_with fail
   refine (HLG.out _).mono ?_;rintro en w5 ⟨rfl,rfl⟩
   by_cases h5:512<lg1
   ·rw [if_pos h5] at HTL
    go_wp2;go_roundw
    case rel=>exact ⟨i+1,by omega,by go_num,by rw [HX.out,HCL.out,HLA.out,HLB.out,HTL.out];have:=HS0.out;go_num,HG1.out.more _⟩
    case measure=>simp [intOf];omega
   ·rw [if_neg h5] at HTL
    go_wp2_with fail
    refine (HLG.out _).mono ?_;rintro en w5 ⟨rfl,rfl⟩;go_wp2;go_roundw
    case rel=>exact ⟨i+1,by omega,by go_num,by rw [HX.out,HCL.out,HLA.out,HLB.out,HTL.out];have:=HS0.out;go_num,HG1.out.more _⟩
    case measure=>simp [intOf];omega
  ·have hin:i=n:=by omega
   subst hin;go_wp2;go_ret;refine ⟨ret_int ?_,HG1.out⟩;rw [HM.out,HV.out,<- hn,List.take_length]
end Go.Proofs.YteaahinjcfjngaaGreat
