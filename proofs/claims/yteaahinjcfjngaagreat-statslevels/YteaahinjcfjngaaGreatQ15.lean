import Derived.Test.YteaahinjcfjngaaGreatQ13
import Derived.Deep.RegionWith
set_option maxRecDepth 100000
set_option maxHeartbeats 4000000
namespace Go.Proofs.YteaahinjcfjngaaGreat
open Go.RowKit
def Lb (L:List (List Int)):Prop:=∀ s∈L,Bt s
theorem lget_mem {L:List (List Int)}{i:Nat}(h:i<L.length):L.getD i []∈L:=by
 simp [List.getD,List.getElem?_eq_getElem h]
theorem bcommonAll_any (a:Option Addr)(n cap:Nat)(L:List (List Int))(w:World)(hl:Lz w a L)(hn:L.length=n)(hc:n<=cap)(hcap:cap<=9223372036854775807) :
  Calls Tryz.prog 112 #[.slice a n cap] w fun en w'=>en=.returned (.int .i64 ((bpre L:Nat):Int))/\w.grownBy w' none:=by
 cases L with
 | nil =>
  obtain rfl:n=0:=by simpa using hn.symm
  refine (commonAll_none a cap w).mono ?_;rintro en w' ⟨rfl,rfl⟩;exact ⟨rfl,World.grownBy.refl _ _⟩
 | cons x L =>
  have:=commonAll_some a cap x L w hl (by simp at hn;omega) hcap;obtain rfl:L.length+1=n:=by simpa using hn
  exact this
theorem stringSize_any (n:Nat)(w:World)(h:n<=140737488351232):Calls Tryz.prog 113 #[.int .i64 n] w fun en w'=>en=.returned (.int .i64 ((vl n+n:Nat):Int))/\w'=w:=by
 have hv:(vform n).length<=10:=vl_le n;go_enter Tryz.func113,Tryz.ntmps113
 go_wp2_with fail
 refine (vlen_calls n _ (by omega)).mono ?_;rintro en w1 ⟨rfl,rfl⟩;go_wp2;go_ret;refine ⟨ret_int ?_,rfl⟩;unfold vl;go_num
theorem bcellSize_any (ao:Option Addr)(n c:Nat)(w:World)(h:n<=140737488351232):Calls Tryz.prog 114 #[.slice ao n c] w fun en w'=>en=.returned (.int .i64 ((vl n+n+8:Nat):Int))/\w'=w:=by
 have hv:vl n<=10:=vl_le n;go_enter Tryz.func114,Tryz.ntmps114
 go_wp2_with fail
 refine (stringSize_any n _ h).mono ?_;rintro en w1 ⟨rfl,rfl⟩;go_wp2;go_ret;exact ⟨ret_int (by go_num),rfl⟩
theorem bsize_int {L:List (List Int)}(hm:L.length<=5000)(hk:∀ x∈L,x.length<=140737488351232):∀ i,i<=L.length->bsums (bpre L) (L.take i)<=703687450000000000:=by
 intro i hi;have h:=bsums_le (bpre L) 140737488351232 (L.take i) (fun x hx=>hk x (List.mem_of_mem_take hx));rw [List.length_take] at h;have h2:min i L.length*(140737488351232+20)<=5000*(140737488351232+20):=Nat.mul_le_mul_right _ (by omega);omega
theorem bsize_any (a:Option Addr)(n cap:Nat)(L:List (List Int))(w:World)(hl:Lz w a L)(hn:L.length=n)(hm:n<=5000)(hc:n<=cap)(hcap:cap<=9223372036854775807)(hk:∀ x∈L,x.length<=140737488351232) :
  Calls Tryz.prog 80 #[.slice a n cap] w fun en w'=>en=.returned (.int .i64 ((bsize L:Nat):Int))/\w.grownBy w' none:=by
 have HL:=hZq hl;have HP:Hid (∀ x∈L,bpre L<=x.length):=fun x hx=>(bpre_each x hx).1
 have HS:=hZq (bsize_int (by omega) hk);have HM:Hid (bsize L=12+vl (bpre L)+bpre L+bsums (bpre L) L):=rfl;have HN:=hZq (fun i h=>bsums_snoc (bpre L) L i h);have hv:=vl_le (bpre L)
 have hpl:bpre L<=140737488351232:=by
  cases L with
  | nil=>exact Nat.zero_le _
  | cons x L=>exact Nat.le_trans (bpre_each x List.mem_cons_self).1 (hk x List.mem_cons_self)
 have HK:=hZq hk;clear hl hk;go_enter Tryz.func80,Tryz.ntmps80
 go_wp2_with fail
 refine (bcommonAll_any a n cap L _ HL.out hn hc hcap).mono ?_;rintro en w1 ⟨rfl,hg1⟩;have HG:=hZq hg1;clear hg1;generalize bpre L=p at *
 go_wp2_with fail
 refine (stringSize_any p _ (by omega)).mono ?_;rintro en w2 ⟨rfl,rfl⟩;generalize hvv:vl p=v at *;have HV:=hZq hvv;clear hvv;go_wp2;go_loopw [4,6,15] (fun sn _ si wr=>∃ i:Nat,i<=n/\si=.int .i64 i/\sn=.int .i64 ((12+v+p+bsums p (L.take i):Nat):Int)/\w.grownBy wr none) (fun _ _ si _=>n - (intOf si).toNat)
 case atStart=>exact ⟨0,Nat.zero_le _,rfl,by simp [bsums];go_num,HG.out⟩
 case round =>
  obtain ⟨i,hi,rfl,rfl,hg⟩:=hrel;have HG1:=hZq hg;have b1:=HS.out i (by omega);clear hg HG
  by_cases hlt:i<n
  ·obtain ⟨b,off,ao,m,c,rfl,q2,q3,q4,q5⟩:=HL.out.row i (by omega)
   have c0:=HG1.out.cell q2 (by simp);have hx:=lget_mem (L:=L) (i:=i) (by omega);have hm1:=q3.len;have hp1:=HP.out _ hx;have hk1:=HK.out _ hx;have b2:=bcl_le p (L.getD i []);have HX:Hid (bsums p (L.take (i+1))=bsums p (L.take i)+(2+bcl p (L.getD i []))):=HN.out i (by omega);obtain ⟨r,hr⟩:∃ r,m - p=r:=⟨_,rfl⟩;have HCL:Hid (bcl p (L.getD i [])=vl r+r+8):=by show _=_;unfold bcl;rw [hm1,hr]
   have hnil:=q3.nil;rw [HCL.out] at b2;rw [HCL.out] at HX;have HC:=hZq (fun (ao':Option Addr) (c':Nat) (W:World)=>bcellSize_any ao' r c' W (by omega));clear q2 q3 HCL;generalize vl r+r+8=C at *;generalize bsums p (L.take i)=U at *;have g1:(p:Int)<=(m:Int):=by omega
   have g2:(0:Int)<=(p:Int):=by omega
   have g3:(p:Int)<=(c:Int):=by omega
   rw [hm1] at hp1;clear hm1 hx;cases ao with
   | none =>
    obtain ⟨rfl,rfl⟩:=hnil rfl;have g4:¬ (0:Int)<(p:Int):=by omega
    go_wp2_with fail
    refine (HC.out _ _ _).mono ?_;rintro en w2 ⟨rfl,rfl⟩;go_wp2;go_roundw
    case rel=>exact ⟨i+1,by omega,by go_num,by rw [HX.out];go_num,HG1.out⟩
    case measure=>simp [intOf];omega
   | some ad =>
    clear hnil
    by_cases hcp:c=p
    ·subst hcp
     go_wp2_with fail
     refine (HC.out _ _ _).mono ?_;rintro en w2 ⟨rfl,rfl⟩;go_wp2;go_roundw
     case rel=>exact ⟨i+1,by omega,by go_num,by rw [HX.out];go_num,HG1.out⟩
     case measure=>simp [intOf];omega
    ·go_wp2_with fail
     refine (HC.out _ _ _).mono ?_;rintro en w2 ⟨rfl,rfl⟩;go_wp2;go_roundw
     case rel=>exact ⟨i+1,by omega,by go_num,by rw [HX.out];go_num,HG1.out⟩
     case measure=>simp [intOf];omega
  ·have hin:i=n:=by omega
   subst hin;go_wp2;go_ret;refine ⟨ret_int ?_,HG1.out⟩;rw [HM.out,<- hn,List.take_length]
theorem search_it (A B:Nat)(n:Nat)(p:Nat->Bool)(w:World)(hn:n<=100000)
  (hp:∀ (k:Nat) (w1:World),k<n->w.grownBy w1 none->Calls Tryz.prog 148 #[.int .i64 k,.pointer (some ⟨A,0,none⟩),.pointer (some ⟨B,0,none⟩)] w1 fun en w'=>en=.returned (.bool (p k))/\w1.grownBy w' none) :
  Calls Tryz.prog 147 #[.int .i64 n,.func (.func 148) #[] #[.pointer (some ⟨A,0,none⟩),.pointer (some ⟨B,0,none⟩)]] w fun en w'=>(∃ k:Nat,en=.returned (.int .i64 k)/\k<=n/\(0<k->p (k - 1)=false)/\(k<n->p k=true))/\w.grownBy w' none:=by
 have HP:=hZq hp;clear hp;go_enter Tryz.func147,Tryz.ntmps147;go_wp2;go_loopw [5,6,7] (fun si sj _ wr=>∃ i j:Nat,i<=j/\j<=n/\si=.int .i64 i/\sj=.int .i64 j/\(0<i->p (i - 1)=false)/\(j<n->p j=true)/\w.grownBy wr none) (fun si sj _ _=>(intOf sj).toNat - (intOf si).toNat)
 case atStart=>exact ⟨0,n,Nat.zero_le _,Nat.le_refl _,rfl,rfl,fun h=>by omega,fun h=>by omega,World.grownBy.refl _ _⟩
 case round =>
  obtain ⟨i,j,hij,hj,rfl,rfl,hlo,hhi,hg⟩:=hrel;have HLO:=hZq hlo;have HHI:=hZq hhi;have HG:=hZq hg;clear hlo hhi hg
  by_cases hlt:i<j
  ·obtain ⟨m,hm⟩:∃ m:Nat,(i+j) / 2=m:=⟨_,rfl⟩
   have h1:i<=m/\m<j:=by omega
   have e1:((i:Int)+(j:Int)) / 2=(m:Int):=by omega
   have e2:((i:Int)+(j:Int)) % 18446744073709551616=(i:Int)+(j:Int):=by omega
   go_wp2_with fail
   refine (HP.out m _ (by omega) HG.out).mono ?_;rintro en w2 ⟨rfl,hg2⟩;have HG2:=hZq (gZq HG.out hg2);clear hg2 HG;cases hb:p m with
   | false =>
    have HB:Hid (0<m+1->p (m+1 - 1)=false):=fun _=>hb
    clear hb;go_wp2;go_roundw
    case rel=>exact ⟨m+1,j,by omega,hj,by go_num,rfl,HB.out,HHI.out,HG2.out⟩
    case measure=>simp [intOf];omega
   | true =>
    have HB:Hid (m<n->p m=true):=fun _=>hb
    clear hb;go_wp2;go_roundw
    case rel=>exact ⟨i,m,by omega,by omega,rfl,rfl,HLO.out,HB.out,HG2.out⟩
    case measure=>simp [intOf];omega
  ·have hin:i=j:=by omega
   subst hin;go_wp2;go_ret;exact ⟨⟨i,rfl,hj,HLO.out,HHI.out⟩,HG.out⟩
theorem Il.take {w:World}{a:Option Addr}{L:List It}(h:Il w a L)(i:Nat):Il w a (L.take i):=by
 refine ⟨fun j hj=>?_⟩;rw [List.length_take] at hj;have e:(L.take i).getD j it0=L.getD j it0:=by simp [List.getD,show j<i by omega]
 rw [e];exact h.row j (by omega)
theorem Il.drop {w:World}{b off:Nat}{L:List It}(h:Il w (some ⟨b,off,none⟩) L)(i:Nat):Il w (some ⟨b,off+i*4,none⟩) (L.drop i):=by
 refine ⟨fun j hj=>?_⟩;rw [List.length_drop] at hj;have e:(L.drop i).getD j it0=L.getD (i+j) it0:=by simp [List.getD,List.getElem?_drop]
 rw [e];obtain ⟨b',off',ao,n,c,bo,m,d,h1,h2⟩:=h.row (i+j) (by omega);simp only [Option.some.injEq,Addr.mk.injEq] at h1;obtain ⟨rfl,rfl,_⟩:=h1;refine ⟨b,off+i*4,ao,n,c,bo,m,d,rfl,?_⟩;rw [show off+i*4+j*4=off+(i+j)*4 by omega];exact h2
structure Cb (w:World)(S T U:Nat)(a:Option Addr)(n cap up:Nat):Prop where
 s:w.cell? ⟨S,0,none⟩=some (.func (.func 81) #[] #[])
 t:w.cell? ⟨T,0,none⟩=some (.slice a n cap)
 u:w.cell? ⟨U,0,none⟩=some (.int .i64 up)
theorem Cb.keptN {w w':World}{S T U:Nat}{a:Option Addr}{n cap up:Nat}(h:Cb w S T U a n cap up)(hg:w.grownBy w' none):Cb w' S T U a n cap up :=
 ⟨hg.cell h.s (by simp),hg.cell h.t (by simp),hg.cell h.u (by simp)⟩
theorem first_it (S T U:Nat)(b off n cap up i:Nat)(L:List It)(w:World)(hc:Cb w S T U (some ⟨b,off,none⟩) n cap up)(hl:Il w (some ⟨b,off,none⟩) L)(hn:L.length=n)(hm:n<=5000)(hcap:n<=cap)(_hc2:cap<=9223372036854775807)(hk:∀ x∈L,x.key.length<=140737488351232)
  (hup:up<=i) (hi:i - up<=n) :
  Calls Tryz.prog 144 #[.int .i64 i,.pointer (some ⟨S,0,none⟩),.pointer (some ⟨T,0,none⟩),.pointer (some ⟨U,0,none⟩)] w fun en w'=>en=.returned (.int .i64 ((size (L.take (i - up)):Nat):Int))/\w.grownBy w' none:=by
 obtain ⟨k,hk2⟩:∃ k:Nat,i - up=k:=⟨_,rfl⟩;rw [hk2];have e1:(i:Int) - (up:Int)=(k:Int):=by omega
 have hk3:k<=n:=by omega
 have c1:=hc.s;have c2:=hc.t;have c3:=hc.u;have HL:=hZq (hl.take k);have HK:Hid (∀ x∈L.take k,x.key.length<=140737488351232):=fun x hx=>hk x (List.mem_of_mem_take hx)
 have hlen:(L.take k).length=k:=by rw [List.length_take];omega
 have HN:=hZq hlen;have w1:IntKind.i64.wrap (k:Int)=(k:Int):=by rw [IntKind.wrap_i64];omega
 have hk5:k<=5000:=by omega
 have HS:=hZq (fun (W:World) (h:W.heap=w.heap)=>size_any (some ⟨b,off,none⟩) k cap (L.take k) W (HL.out.heap h) HN.out hk5 HK.out);have g0:(0:Int)<=(k:Int):=by omega
 have g3:¬ ((k:Int)<0):=by omega
 have g4:¬ ((cap:Int)<(k:Int)):=by omega
 have g1:(k:Int)<=(cap:Int):=by omega
 clear hc hl hk hk2 hlen;go_enter Tryz.func144,Tryz.ntmps144;go_wp2
 go_region_with (go_at_call 81;refine (HS.out w.drew rfl).mono ?_;rintro en w2 ⟨rfl,hg⟩)
 all_goals (go_wp2;go_ret;exact ⟨rfl,gZq ((Qt.refl _).drew.grown none) hg⟩)
theorem second_it (S T U:Nat)(b off n cap up i:Nat)(L:List It)(w:World)(hc:Cb w S T U (some ⟨b,off,none⟩) n cap up)(hl:Il w (some ⟨b,off,none⟩) L)(hn:L.length=n)(hm:n<=5000)(hcap:n<=cap)(hc2:cap<=9223372036854775807)(hk:∀ x∈L,x.key.length<=140737488351232)
  (hi:i<=n) :
  Calls Tryz.prog 145 #[.int .i64 i,.pointer (some ⟨S,0,none⟩),.pointer (some ⟨T,0,none⟩)] w fun en w'=>en=.returned (.int .i64 ((size (L.drop i):Nat):Int))/\w.grownBy w' none:=by
 have c1:=hc.s;have c2:=hc.t;have HK:Hid (∀ x∈L.drop i,x.key.length<=140737488351232):=fun x hx=>hk x (List.mem_of_mem_drop hx)
 have hlen:(L.drop i).length=n - i:=by rw [List.length_drop];omega
 have HN:=hZq hlen;have hk5:n - i<=5000:=by omega
 have HL:=hZq (hl.drop i);have g0:(0:Int)<=(i:Int):=by omega
 have g1:(i:Int)<=(cap:Int):=by omega
 have g2:(i:Int)<=(n:Int):=by omega
 have hin:i<=n:=hi
 by_cases hz:cap=i
 ·have h0:n - i=0:=by omega
  have hni:n=i:=by omega
  have h00:L.drop i=[]:=List.eq_nil_of_length_eq_zero (by omega);have HS:=hZq (fun (W:World) (_:W.heap=w.heap)=>size_any (some ⟨b,off,none⟩) 0 0 (L.drop i) W (by rw [h00];exact Il.zero _ _) (by rw [hlen,h0]) (by omega) HK.out);clear hc hl hk hlen HL h00;subst hz;subst hni;clear hcap hi hin hn h0 HN HK;go_enter Tryz.func145,Tryz.ntmps145;go_wp2
  go_region_with (go_at_call 81;refine (HS.out w.drew rfl).mono ?_;rintro en w2 ⟨rfl,hg⟩)
  all_goals (go_wp2;go_ret;exact ⟨rfl,gZq ((Qt.refl _).drew.grown none) hg⟩)
 ·have hlt:i<cap:=by omega
  have HS:=hZq (fun (W:World) (h:W.heap=w.heap)=>size_any (some ⟨b,off+i*4,none⟩) (n - i) (cap - i) (L.drop i) W (HL.out.heap h) hlen hk5 HK.out);clear hc hl hk hlen HL;go_enter Tryz.func145,Tryz.ntmps145;go_wp2
  go_region_with (go_at_call 81;go_loud (refine (HS.out w.drew rfl).mono ?_;rintro en w2 ⟨rfl,hg⟩))
  all_goals (go_wp2;go_ret;exact ⟨rfl,gZq ((Qt.refl _).drew.grown none) hg⟩)
structure Cd (w:World)(S T U F G:Nat):Prop where
 f:w.cell? ⟨F,0,none⟩=some (.func (.func 144) #[] #[.pointer (some ⟨S,0,none⟩),.pointer (some ⟨T,0,none⟩),.pointer (some ⟨U,0,none⟩)])
 g:w.cell? ⟨G,0,none⟩=some (.func (.func 145) #[] #[.pointer (some ⟨S,0,none⟩),.pointer (some ⟨T,0,none⟩)])
theorem Cd.keptN {w w':World}{S T U F G:Nat}(h:Cd w S T U F G)(hg:w.grownBy w' none):Cd w' S T U F G :=
 ⟨hg.cell h.f (by simp),hg.cell h.g (by simp)⟩
theorem max_int (a b:Nat):(if ((b:Nat):Int) > ((a:Nat):Int) then ((b:Nat):Int) else ((a:Nat):Int))=((max a b:Nat):Int):=by
 split <;> omega
theorem greater_it (S T U F G i a b:Nat)(w:World)(hd:Cd w S T U F G)
  (hF:∀ W,w.grownBy W none->Calls Tryz.prog 144 #[.int .i64 i,.pointer (some ⟨S,0,none⟩),.pointer (some ⟨T,0,none⟩),.pointer (some ⟨U,0,none⟩)] W fun en w'=>en=.returned (.int .i64 (a:Nat))/\W.grownBy w' none)
  (hG:∀ W,w.grownBy W none->Calls Tryz.prog 145 #[.int .i64 i,.pointer (some ⟨S,0,none⟩),.pointer (some ⟨T,0,none⟩)] W fun en w'=>en=.returned (.int .i64 (b:Nat))/\W.grownBy w' none) :
  Calls Tryz.prog 146 #[.int .i64 i,.pointer (some ⟨F,0,none⟩),.pointer (some ⟨G,0,none⟩)] w fun en w'=>en=.returned (.int .i64 ((max a b:Nat):Int))/\w.grownBy w' none:=by
 have c1:=hd.f;have c2:=hd.g;have HD:=hZq hd;have HF:=hZq hF;have HG:=hZq hG;obtain ⟨M,hM⟩:∃ M:Nat,max a b=M:=⟨_,rfl⟩;have hmax:∀ (ts:Array TypeId) (t:TypeId) (W:World),(Builtin.max_ ts t #[.int .i64 a,.int .i64 b]).run Tryz.prog W=.ok (.int .i64 M) W:=fun ts t W=>by rw [run_max_int2,max_int,hM]
 rw [hM];have G0:=hZq ((Qt.refl w).drew.grown none);clear hd hF hG hM;go_enter Tryz.func146,Tryz.ntmps146;go_wp2
 go_region_with (first
  | (go_at_call 144;refine (HF.out w.drew G0.out).mono ?_;rintro en wa ⟨rfl,hga⟩;have da:=(HD.out.keptN (gZq G0.out hga)).g)
  | (go_at_call 144;refine (HF.out wb (gZq G0.out hgb)).mono ?_;rintro en wc ⟨rfl,hgc⟩)
  | (go_at_call 145;refine (HG.out w.drew G0.out).mono ?_;rintro en wb ⟨rfl,hgb⟩;have db:=(HD.out.keptN (gZq G0.out hgb)).f)
  | (go_at_call 145;refine (HG.out wa (gZq G0.out hga)).mono ?_;rintro en wc ⟨rfl,hgc⟩))
 all_goals (go_wp2;go_ret;first | exact ⟨rfl,gZq (gZq G0.out hga) hgc⟩ | exact ⟨rfl,gZq (gZq G0.out hgb) hgc⟩)
theorem pred_it (S T U F G k a b:Nat)(w:World)(hk:k<=100000)(hd:Cd w S T U F G)
  (hF:∀ W,w.grownBy W none->Calls Tryz.prog 144 #[.int .i64 ((k+1:Nat):Int),.pointer (some ⟨S,0,none⟩),.pointer (some ⟨T,0,none⟩),.pointer (some ⟨U,0,none⟩)] W fun en w'=>en=.returned (.int .i64 (a:Nat))/\W.grownBy w' none)
  (hG:∀ W,w.grownBy W none->Calls Tryz.prog 145 #[.int .i64 ((k+1:Nat):Int),.pointer (some ⟨S,0,none⟩),.pointer (some ⟨T,0,none⟩)] W fun en w'=>en=.returned (.int .i64 (b:Nat))/\W.grownBy w' none) :
  Calls Tryz.prog 148 #[.int .i64 k,.pointer (some ⟨F,0,none⟩),.pointer (some ⟨G,0,none⟩)] w fun en w'=>en=.returned (.bool (decide (b<=a)))/\w.grownBy w' none:=by
 have c1:=hd.f;have c2:=hd.g;have HD:=hZq hd;have HF:=hZq hF;have HG:=hZq hG;obtain ⟨j,hj⟩:∃ j:Nat,k+1=j:=⟨_,rfl⟩;rw [hj] at HF HG;have e1:(k:Int)+1=(j:Int):=by omega
 have w1:IntKind.i64.wrap (j:Int)=(j:Int):=by rw [IntKind.wrap_i64];omega
 have G0:=hZq ((Qt.refl w).drew.grown none);have hdec:decide (b<=a)=decide ((b:Int)<=(a:Int)):=by simp
 have HDE:=hZq hdec;clear hd hF hG hj hdec;go_enter Tryz.func148,Tryz.ntmps148;go_wp2
 go_region_with (first
  | (go_at_call 144;refine (HF.out w.drew G0.out).mono ?_;rintro en wa ⟨rfl,hga⟩;have da:=(HD.out.keptN (gZq G0.out hga)).g)
  | (go_at_call 144;refine (HF.out wb (gZq G0.out hgb)).mono ?_;rintro en wc ⟨rfl,hgc⟩)
  | (go_at_call 145;refine (HG.out w.drew G0.out).mono ?_;rintro en wb ⟨rfl,hgb⟩;have db:=(HD.out.keptN (gZq G0.out hgb)).f)
  | (go_at_call 145;refine (HG.out wa (gZq G0.out hga)).mono ?_;rintro en wc ⟨rfl,hgc⟩))
 all_goals (go_wp2;go_ret;first | exact ⟨by rw [HDE.out];rfl,gZq (gZq G0.out hga) hgc⟩ | exact ⟨by rw [HDE.out];rfl,gZq (gZq G0.out hgb) hgc⟩)
end Go.Proofs.YteaahinjcfjngaaGreat
