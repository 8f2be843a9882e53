import Derived.Test.YteaahinjcfjngaaGreatQ19
import Derived.Test.YteaahinjcfjngaaGreatQ56
set_option maxRecDepth 100000
set_option maxHeartbeats 4000000
namespace Go.Proofs.YteaahinjcfjngaaGreat
open Go.RowKit
theorem refPrefix_some (a:Option Addr)(cap:Nat)(z:List Int)(L:List (List Int))(w:World)(hl:Lz w a (z::L))(hz:z.length<=140737488351232)(hL:L.length+1<=5000) :
  Calls Tryz.prog 82 #[.slice a (L.length+1) cap] w fun en w'=>en=.returned (.int .i64 ((bpre (z::L):Nat):Int))/\Qt w w':=by
 have HM:Hid (bpre (z::L)=comAll z z.length L):=rfl;obtain ⟨b,off,ao,n,c,rfl,h2,h3,h4,h5⟩:=hl.row 0 (by simp);have h3':Byt w ao n c z:=by simpa using h3
 have hzn:=h3'.len;have HF:=hZq h3';have HL:=hZq hl;have HE:Hid (L.take L.length=L):=List.take_length;rw [Nat.add_zero] at h2;clear h3 h3' hl;obtain ⟨m,hm⟩:∃ m,L.length=m:=⟨_,rfl⟩;rw [hm] at hL ⊢;have HMm:=hZq hm;clear hm;go_enter Tryz.func82,Tryz.ntmps82;go_wp2;go_loopw [3,4,5] (fun sn si _ wr=>∃ i:Nat,i<=m/\si=.int .i64 ((i+1:Nat):Int)/\sn=.int .i64 ((comAll z n (L.take i):Nat):Int)/\Qt w wr) (fun _ si _ _=>m+1 - (intOf si).toNat)
 case atStart=>exact ⟨0,Nat.zero_le _,rfl,rfl,Qt.refl _⟩
 case round =>
  obtain ⟨i,hi,rfl,rfl,hq⟩:=hrel;have HQ:=hZq hq;clear hq;have hle:comAll z n (L.take i)<=n:=comAll_le z _ n
  by_cases hlt:i<m
  ·obtain ⟨b',off',bo,k,d,e1,k2,k3,k4,k5⟩:=HL.out.row (i+1) (by simp;have:=HMm.out;omega)
   simp only [Option.some.injEq,Addr.mk.injEq] at e1;obtain ⟨rfl,rfl,_⟩:=e1;have k3':Byt w bo k d (L.getD i []):=by simpa using k3
   have hkl:=k3'.len;have HB:=hZq k3';have HS:=hZq (comAll_snoc z n L i (by have:=HMm.out;omega));have c1:=(HQ.out.cell _).trans h2;have c2:=(HQ.out.cell _).trans k2;have HK2:=hZq k2;clear k2 k3 k3';generalize comAll z n (L.take i)=t at *;generalize L.getD i []=s at *;have hcs1:=com_le1 z s;have hcs2:=com_le2 z s;obtain ⟨u,hu⟩:∃ u,min t k=u:=⟨_,rfl⟩;obtain ⟨T,hT⟩:∃ T,min t (com z s)=T:=⟨_,rfl⟩;have hTu:T<=u:=by omega
   have hmin:∀ (ts:Array TypeId) (ty:TypeId) (W:World),(Builtin.min_ ts ty #[.int .i64 t,.int .i64 k]).run Tryz.prog W=.ok (.int .i64 u) W:=fun ts ty W=>by
    rw [run_min_int2]
    congr 2
    split <;> omega
   rw [hT] at HS;have HT:=hZq hT;have HU:=hZq hu;have hu1:u<=k:=by omega
   have hu2:u<=n:=by omega
   clear hT hu;obtain ⟨j,hj⟩:∃ j,i+1=j:=⟨_,rfl⟩;have g1:((j:Nat):Int)<(m:Int)+1:=by omega
   have g0:(0:Int)<=(j:Int):=by omega
   rw [hj] at c2 HK2 ⊢;have HJ:=hZq hj;clear hj;go_wp2;go_loopw [3,5] (fun sn si wr'=>∃ (k' p':Nat),si=.int .i64 k'/\sn=.int .i64 p'/\((p'=u/\k'<=T)∨(p'=T/\k'=T+1))/\Qt w wr') (fun _ si _=>u+2 - (intOf si).toNat)
   case atStart=>exact ⟨0,u,rfl,rfl,.inl ⟨rfl,Nat.zero_le _⟩,HQ.out⟩
   case round =>
    obtain ⟨k',p',rfl,rfl,hcase,hq⟩:=hrel;have HQ2:=hZq hq;clear hq;rcases hcase with ⟨rfl,hk1⟩ | ⟨rfl,rfl⟩
    ·by_cases hlt2:k'<p'
     ·obtain ⟨b1,o1,rfl,_,y1⟩:=HF.out.at (by omega)
      obtain ⟨b2,o2,rfl,_,y2⟩:=HB.out.at (by omega);have d0:=(HQ2.out.cell _).trans h2;have d1:=(HQ2.out.cell _).trans HK2.out;have d2:=(HQ2.out.cell _).trans (y1 k' (by omega));have d3:=(HQ2.out.cell _).trans (y2 k' (by omega))
      have hth:Hid (z.getD k' 0=s.getD k' 0->k'+1<=T):=fun h=>by
       have h6:=HT.out;have h5:=HU.out
       by_cases hc:k'<com z s
       ·omega
       ·exfalso
        have h7:com z s=k':=by omega
        have h8:=com_of_take z s (com z s+1) (by omega) (by omega) (by
         have h9:=com_prefix z s (com z s) (Nat.le_refl _);rw [List.take_add_one,List.take_add_one,h9,h7]
         congr 1
         rw [List.getElem?_eq_getElem (show k'<z.length by omega),List.getElem?_eq_getElem (show k'<s.length by omega)];simpa [List.getD,List.getElem?_eq_getElem (show k'<z.length by omega),List.getElem?_eq_getElem (show k'<s.length by omega)] using h)
        omega
      have hne:Hid (¬ z.getD k' 0=s.getD k' 0->T=k'):=fun h=>by
       have h6:=HT.out;have h5:=HU.out
       by_cases hc:k'<com z s
       ·exfalso
        refine h ?_;have h9:=com_prefix z s (com z s) (Nat.le_refl _);have h10:=congrArg (fun l=>l.getD k' 0) h9;simpa [List.getD,List.getElem?_take,hc] using h10
       ·omega
      clear y1 y2;have g2:(k':Int)<(n:Int):=by omega
      have g3:(k':Int)<(k:Int):=by omega
      have g4:(0:Int)<=(k':Int):=by omega
      have g5:(k':Int)<(p':Int):=by omega
      have g6:(0:Int)<(m:Int)+1:=by omega
      generalize z.getD k' 0=zx at *;generalize s.getD k' 0=sx at *
      by_cases hxy:zx=sx
      ·subst hxy
       have hk9:=hth.out rfl;clear hth hne;have hd:(zx != zx)=false:=by simp
       go_wp2
       go_quiet (fail)
       go_wp2;go_roundw
       case rel=>exact ⟨k'+1,p',by go_num,rfl,.inl ⟨by trivial,by omega⟩,HQ2.out.trans (Qt.drewN _ _)⟩
       case measure=>simp [intOf];omega
      ·have hk9:=hne.out hxy
       have hd:(sx != zx)=true:=bne_iff_ne.2 (fun e=>hxy e.symm);have hd2:(sx==zx)=false:=beq_eq_false_iff_ne.2 (fun e=>hxy e.symm);clear hth hne;go_wp2
       go_quiet (fail)
       go_wp2;go_roundw
       case rel=>exact ⟨k'+1,k',by go_num,rfl,.inr ⟨by omega,by omega⟩,HQ2.out.trans (Qt.drewN _ _)⟩
       case measure=>simp [intOf];omega
     ·have hpt:p'=T:=by omega
      have g5:¬ (k':Int)<(p':Int):=by omega
      go_wp2;go_roundw
      case rel=>exact ⟨i+1,by omega,by have:=HJ.out;go_num,by rw [HS.out,hpt],HQ2.out⟩
      case measure=>have:=HJ.out;simp [intOf];omega
    ·have g5:¬ ((p'+1:Nat):Int)<(p':Int):=by omega
     go_wp2;go_roundw
     case rel=>exact ⟨i+1,by omega,by have:=HJ.out;go_num,by rw [HS.out],HQ2.out⟩
     case measure=>have:=HJ.out;simp [intOf];omega
  ·have hin:i=m:=by omega
   subst hin;have hE:L.take i=L:=by have:=HE.out;rw [HMm.out] at this;exact this
   rw [hE];have HR:Hid (comAll z n L=bpre (z::L)):=by show _=_;rw [HM.out,hzn]
   rw [HR.out];go_wp2;go_ret;exact ⟨rfl,HQ.out⟩
theorem refPrefix_none (a:Option Addr)(cap:Nat)(w:World):Calls Tryz.prog 82 #[.slice a 0 cap] w fun en w'=>en=.returned (.int .i64 0)/\w'=w:=by
 go_enter Tryz.func82,Tryz.ntmps82;go_wp2;go_ret;exact ⟨rfl,rfl⟩
theorem refPrefix_any (a:Option Addr)(n cap:Nat)(L:List (List Int))(w:World)(hl:Lz w a L)(hn:L.length=n)(hm:n<=5000)(hs:∀ s∈L,s.length<=140737488351232) :
  Calls Tryz.prog 82 #[.slice a n cap] w fun en w'=>en=.returned (.int .i64 ((bpre L:Nat):Int))/\Qt w w':=by
 cases L with
 | nil =>
  obtain rfl:n=0:=by simpa using hn.symm
  refine (refPrefix_none a cap w).mono ?_;rintro en w' ⟨rfl,rfl⟩;exact ⟨rfl,Qt.refl _⟩
 | cons z L =>
  obtain rfl:L.length+1=n:=by simpa using hn
  exact refPrefix_some a cap z L w hl (hs z List.mem_cons_self) hm
theorem refSize5_any (a:Option Addr)(n cap:Nat)(L:List (List Int))(w:World)(hl:Lz w a L)(hn:L.length=n)(hm:n<=5000)(hk:∀ x∈L,x.length<=140737488351232) :
  Calls Tryz.prog 62 #[.slice a n cap] w fun en w'=>en=.returned (.int .i64 ((bsize L:Nat):Int))/\Qt w w':=by
 have HL:=hZq hl;have HP:Hid (∀ x∈L,bpre L<=x.length):=fun x hx=>(bpre_each x hx).1
 have HS:=hZq (bsize_int (by omega) hk);have HM:Hid (bsize L=12+vl (bpre L)+bpre L+bsums (bpre L) L):=rfl;have HN:=hZq (fun i h=>bsums_snoc (bpre L) L i h);have hv:(vform (bpre L)).length<=10:=vl_le (bpre L)
 have hpl:bpre L<=140737488351232:=by
  cases L with
  | nil=>exact Nat.zero_le _
  | cons x L=>exact Nat.le_trans (bpre_each x List.mem_cons_self).1 (hk x List.mem_cons_self)
 have HK:=hZq hk;have HPX:=hZq (refPrefix_any a n cap L w hl hn hm hk);clear hl hk;go_enter Tryz.func62,Tryz.ntmps62
 go_wp2_with fail
 refine HPX.out.mono ?_;rintro en w1 ⟨rfl,hq1⟩;have HQ:=hZq hq1;clear hq1 HPX;have HV:Hid (vl (bpre L)=(vform (bpre L)).length):=rfl;generalize bpre L=p at *
 go_wp2_with fail
 refine (refVLen_any p _ (by omega)).mono ?_;rintro en w2 ⟨rfl,rfl⟩;generalize (vform p).length=v at *;go_wp2;go_loopw [4,5,6] (fun sn si _ wr=>∃ i:Nat,i<=n/\si=.int .i64 i/\sn=.int .i64 ((12+v+p+bsums p (L.take i):Nat):Int)/\Qt w wr) (fun _ si _ _=>n - (intOf si).toNat)
 case atStart=>exact ⟨0,Nat.zero_le _,rfl,by simp [bsums],HQ.out⟩
 case round =>
  obtain ⟨i,hi,rfl,rfl,hq⟩:=hrel;have HQ1:=hZq hq;have b1:=HS.out i (by omega);clear hq HQ
  by_cases hlt:i<n
  ·obtain ⟨b,off,ao,m,c,rfl,q2,q3,q4,q5⟩:=HL.out.row i (by omega)
   have c0:=(HQ1.out.cell _).trans q2;have hx:=lget_mem (L:=L) (i:=i) (by omega);have hm1:=q3.len;have hp1:=HP.out _ hx;have hk1:=HK.out _ hx;have HX:Hid (bsums p (L.take (i+1))=bsums p (L.take i)+(2+bcl p (L.getD i []))):=HN.out i (by omega);obtain ⟨r,hr⟩:∃ r,m - p=r:=⟨_,rfl⟩;have HCL:Hid (bcl p (L.getD i [])=(vform r).length+r+8):=by show _=_;unfold bcl vl;rw [hm1,hr]
   have hvr:(vform r).length<=10:=vl_le r;rw [HCL.out] at HX;have hr':(m:Int) - (p:Int)=(r:Int):=by omega
   clear q2 q3 HCL;generalize bsums p (L.take i)=U at *;rw [hm1] at hp1 hk1;clear hm1 hx
   go_wp2_with fail
   refine (refVLen_any r _ (by omega)).mono ?_;rintro en w2 ⟨rfl,rfl⟩;generalize (vform r).length=vr at *;go_wp2;go_roundw
   case rel=>exact ⟨i+1,by omega,by go_num,by rw [HX.out];go_num,HQ1.out⟩
   case measure=>simp [intOf];omega
  ·have hin:i=n:=by omega
   subst hin;go_wp2;go_ret;refine ⟨ret_int ?_,HQ1.out⟩;rw [HM.out,HV.out,<- hn,List.take_length]
end Go.Proofs.YteaahinjcfjngaaGreat
