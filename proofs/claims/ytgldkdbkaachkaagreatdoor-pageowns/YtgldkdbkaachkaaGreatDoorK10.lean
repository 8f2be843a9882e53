import Derived.Lib.SlBytesConst
import Derived.Below
import Derived.Test.YtgldkdbkaachkaaGreatDoorK7
set_option maxRecDepth 100000
set_option maxHeartbeats 4000000
namespace Go.Proofs.YtgldkdbkaachkaaGreatDoor
open Go.RowKit
variable {P zs:List Int}{xs:List Value}{G N Q R base g i lo XW m n p p0 p1 pn pos:Nat}{st:Nat × Int}{kg kn vm vp:Nat->Nat}{a bo po:Option Addr}{v v':Value}{w w' wr:World}
theorem ai.QN (w:World)(e:TypeId)(cs:Array Value)(fr:Nat × Nat)(zs:List Int)(n k:Nat)(hn:n=zs.length)(h:cs=(zs.map (Value.int .u8)).toArray)(hk:k=w.heap.size):ai (w.alloc (.cells cs e fr)) (some ⟨k,0,none⟩) n n zs:=by
 subst h hn hk;refine ai.eZ rfl fun i hi=>?_
 rw [Nat.zero_add];have:=cell_of_row (w.alloc (.cells (zs.map (Value.int .u8)).toArray e fr)) w.heap.size i _ e fr (heap_alloc_new w _);rw [this];simp [List.getD,List.getElem?_eq_getElem hi]
theorem size_alloc (w:World)(o:Obj):(w.alloc o).heap.size=w.heap.size+1:=by simp
theorem ai.on {ao:Option Addr}{cap:Nat}(h:ai w ao n cap zs)(o:Obj):ai (w.alloc o) ao n cap zs:=h.ae (World.grownBy_alloc w o none)
theorem btl (zs:List Int)(h:(zs.all fun z=>decide (0<=z) && decide (z<=255))=true):Bt zs:=by
 intro z hz;have:=List.all_eq_true.1 h z hz;simpa using this
theorem GK (W:World)(C:Array Value)(n c k:Nat)(hk:k=W.heap.size) :
  (convert 25 25 (.slice (some ⟨k,0,none⟩) n c)).run Tryz.prog (W.alloc (.cells C 5))=.ok (.slice (some ⟨k,0,none⟩) n c) (W.alloc (.cells C 5 (C.size,C.size+1))):=by
 subst hk;exact Lib.run_convert_bytes_const (P:=Tryz.prog) W 25 5 C n c Tryz.underlying25 Tryz.underlying5
theorem Nl (h:w.grownBy w' none):Below w.heap.size w w':=⟨h.os,h.tape,h.output,h.size,fun k hk=>h.block k hk (by simp)⟩
structure Kl (w:World)(a:Option Addr)(K:List Kd):Prop where
 row:∀ i,i<K.length->∃ b off,a=some ⟨b,off,none⟩/\w.cell? ⟨b,off+i*2,none⟩=some (.int .i64 (K.getD i dO).no)/\w.cell? ⟨b,off+i*2+1,none⟩=some (.int .i64 (K.getD i dO).keys)
theorem Kl.heap {K:List Kd}(h:Kl w a K)(e:w'.heap=w.heap):Kl w' a K:=by
 refine ⟨fun i hi=>?_⟩;obtain ⟨b,off,h1,h2,h3⟩:=h.row i hi;exact ⟨b,off,h1,(World.cell?_of_block (by rw [e])).trans h2,(World.cell?_of_block (by rw [e])).trans h3⟩
theorem Kl.ae {K:List Kd}(h:Kl w a K)(hg:w.grownBy w' none):Kl w' a K:=by
 refine ⟨fun i hi=>?_⟩;obtain ⟨b,off,h1,h2,h3⟩:=h.row i hi;exact ⟨b,off,h1,hg.cell h2 (by simp),hg.cell h3 (by simp)⟩
theorem Kl.zero (w:World)(a:Option Addr):Kl w a []:=⟨fun i hi=>by simp at hi⟩
structure Kdb (k:Kd):Prop where
 n1:-9223372036854775808<=k.no
 n2:k.no<=9223372036854775807
 k1:-9223372036854775808<=k.keys
 k2:k.keys<=9223372036854775807
def Kb (K:List Kd):Prop:=∀ k∈K,Kdb k
def Lb (L:List (List Int)):Prop:=∀ s∈L,Bt s
theorem BB {K:List Kd}(h:i<K.length):K.getD i dO∈K:=by
 simp [List.getD,List.getElem?_eq_getElem h]
theorem cS {L:List (List Int)}{i:Nat}(h:i<L.length):L.getD i []∈L:=by
 simp [List.getD,List.getElem?_eq_getElem h]
theorem kH (a:Option Addr)(n cap:Nat)(L:List (List Int))(w:World)(hl:Lz w a L)(hn:L.length=n)(hc:n<=cap)(hcap:cap<=9223372036854775807) :
  Calls Tryz.prog 248 #[.slice a n cap] w fun en w'=>en=.returned (.int .i64 ((aF L:Nat):Int))/\w.grownBy w' none:=by
 cases L with
 | nil =>
  obtain rfl:n=0:=by simpa using hn.symm
  refine (kf a cap w).mono ?_;rintro en w' ⟨rfl,rfl⟩;exact ⟨rfl,World.grownBy.refl _ _⟩
 | cons x L =>
  have:=kj a cap x L w hl (by simp at hn;omega) hcap;obtain rfl:L.length+1=n:=by simpa using hn
  exact this
theorem kI (n:Nat)(w:World)(h:n<=1000000):Calls Tryz.prog 280 #[.int .i64 n] w fun en w'=>en=.returned (.int .i64 ((vl n+n:Nat):Int))/\w'=w:=by
 have hv:(ah n).length<=10:=eI n;go_enter Tryz.func280,Tryz.ntmps280
 go_wp2_with fail
 refine (gG n _ (by omega)).mono ?_;rintro en w1 ⟨rfl,rfl⟩;go_wp2;go_ret;refine ⟨ct ?_,rfl⟩;unfold vl;go_num
theorem lX (ao:Option Addr)(n c:Nat)(w:World)(h:n<=1000000):Calls Tryz.prog 253 #[.slice ao n c] w fun en w'=>en=.returned (.int .i64 ((vl n+n+8:Nat):Int))/\w'=w:=by
 have hv:vl n<=10:=eI n;go_enter Tryz.func253,Tryz.ntmps253
 go_wp2_with fail
 refine (kI n _ h).mono ?_;rintro en w1 ⟨rfl,rfl⟩;go_wp2;go_ret;exact ⟨ct (by go_num),rfl⟩
theorem xg {L:List (List Int)}(hm:L.length<=5000)(hk:∀ x∈L,x.length<=1000000):∀ i,i<=L.length->cJ (aF L) (L.take i)<=5005000000:=by
 intro i hi;have h:=Bu (aF L) 1000000 (L.take i) (fun x hx=>hk x (List.mem_of_mem_take hx));rw [List.length_take] at h;have h2:min i L.length*(1000000+20)<=5000*(1000000+20):=Nat.mul_le_mul_right _ (by omega);omega
theorem Ji (a:Option Addr)(n cap:Nat)(L:List (List Int))(w:World)(hl:Lz w a L)(hn:L.length=n)(hm:n<=5000)(hc:n<=cap)(hcap:cap<=9223372036854775807)(hk:∀ x∈L,x.length<=1000000) :
  Calls Tryz.prog 247 #[.slice a n cap] w fun en w'=>en=.returned (.int .i64 ((bsize L:Nat):Int))/\w.grownBy w' none:=by
 have HL:=hJ hl;have HP:Hid (∀ x∈L,aF L<=x.length):=fun x hx=>(cU x hx).1
 have HS:=hJ (xg (by omega) hk);have HM:Hid (bsize L=12+vl (aF L)+aF L+cJ (aF L) L):=rfl;have HN:=hJ (fun i h=>mK (aF L) L i h);have hv:=eI (aF L)
 have hpl:aF L<=1000000:=by
  cases L with
  | nil=>exact Nat.zero_le _
  | cons x L=>exact Nat.le_trans (cU x List.mem_cons_self).1 (hk x List.mem_cons_self)
 have HK:=hJ hk;clear hl hk;go_enter Tryz.func247,Tryz.ntmps247
 go_wp2_with fail
 refine (kH a n cap L _ HL.out hn hc hcap).mono ?_;rintro en w1 ⟨rfl,hg1⟩;have HG:=hJ hg1;clear hg1;generalize aF L=p at *
 go_wp2_with fail
 refine (kI p _ (by omega)).mono ?_;rintro en w2 ⟨rfl,rfl⟩;generalize Uf:vl p=v at *;have HV:=hJ Uf;clear Uf;go_wp2;go_loopw [4,6,15] (fun sn _ si wr=>∃ i:Nat,i<=n/\si=.int .i64 i/\sn=.int .i64 ((12+v+p+cJ p (L.take i):Nat):Int)/\w.grownBy wr none) (fun _ _ si _=>n - (intOf si).toNat)
 case atStart=>exact ⟨0,Nat.zero_le _,rfl,by simp [cJ];go_num,HG.out⟩
 case round =>
  obtain ⟨i,hi,rfl,rfl,hg⟩:=hrel;have bj:=hJ hg;have b1:=HS.out i (by omega);clear hg HG
  by_cases hlt:i<n
  ·obtain ⟨b,off,ao,m,c,rfl,q2,q3,q4,q5⟩:=HL.out.row i (by omega)
   have c0:=bj.out.cell q2 (by simp);have hx:=cS (L:=L) (i:=i) (by omega);have tM:=q3.len;have nh:=HP.out _ hx;have Df:=HK.out _ hx;have b2:=Nb p (L.getD i []);have HX:Hid (cJ p (L.take (i+1))=cJ p (L.take i)+(2+Di p (L.getD i []))):=HN.out i (by omega);obtain ⟨r,hr⟩:∃ r,m - p=r:=⟨_,rfl⟩;have GA:Hid (Di p (L.getD i [])=vl r+r+8):=by show _=_;unfold Di;rw [tM,hr]
   have hnil:=q3.nil;rw [GA.out] at b2;rw [GA.out] at HX;have HC:=hJ (fun (eX:Option Addr) (c':Nat) (W:World)=>lX eX r c' W (by omega));clear q2 q3 GA;generalize vl r+r+8=C at *;generalize cJ p (L.take i)=U at *;have g1:(p:Int)<=(m:Int):=by omega
   have g2:(0:Int)<=(p:Int):=by omega
   have g3:(p:Int)<=(c:Int):=by omega
   rw [tM] at nh;clear tM hx;cases ao with
   | none =>
    obtain ⟨rfl,rfl⟩:=hnil rfl;have g4:¬ (0:Int)<(p:Int):=by omega
    go_wp2_with fail
    refine (HC.out _ _ _).mono ?_;rintro en w2 ⟨rfl,rfl⟩;go_wp2;go_roundw
    case rel=>exact ⟨i+1,by omega,by go_num,by rw [HX.out];go_num,bj.out⟩
    case measure=>simp [intOf];omega
   | some ad =>
    clear hnil
    by_cases VN:c=p
    ·subst VN
     go_wp2_with fail
     refine (HC.out _ _ _).mono ?_;rintro en w2 ⟨rfl,rfl⟩;go_wp2;go_roundw
     case rel=>exact ⟨i+1,by omega,by go_num,by rw [HX.out];go_num,bj.out⟩
     case measure=>simp [intOf];omega
    ·go_wp2_with fail
     refine (HC.out _ _ _).mono ?_;rintro en w2 ⟨rfl,rfl⟩;go_wp2;go_roundw
     case rel=>exact ⟨i+1,by omega,by go_num,by rw [HX.out];go_num,bj.out⟩
     case measure=>simp [intOf];omega
  ·have hin:i=n:=by omega
   subst hin;go_wp2;go_ret;refine ⟨ct ?_,bj.out⟩;rw [HM.out,<- hn,List.take_length]
theorem yq (no ks:Int)(w:World):Calls Tryz.prog 243 #[.agg #[.int .i64 no,.int .i64 ks]] w fun en w'=>en=.returned (.bool (wk ⟨no,ks⟩))/\w.grownBy w' none:=by
 have HW:Hid (wk ⟨no,ks⟩=(decide (no<2) || decide (524287<=no) || decide (ks<1) || decide (4294967295<ks))):=rfl;have G1:=hJ (World.grownBy_alloc w (.cells #[.int .i64 no,.int .i64 ks] 69) none)
 by_cases h1:no<2
 ·go_enter Tryz.func243,Tryz.ntmps243
  go_wp2;go_ret;exact ⟨by rw [HW.out];simp [h1],G1.out⟩
 ·by_cases h2:(524287:Int)<=no
  ·go_enter Tryz.func243,Tryz.ntmps243
   go_wp2;go_ret;exact ⟨by rw [HW.out];simp [h2],G1.out⟩
  ·by_cases h3:ks<1
   ·go_enter Tryz.func243,Tryz.ntmps243
    go_wp2;go_ret;exact ⟨by rw [HW.out];simp [h3],G1.out⟩
   ·go_enter Tryz.func243,Tryz.ntmps243
    go_wp2;go_ret;exact ⟨by rw [HW.out];simp;omega,G1.out⟩
theorem yu (ao:Option Addr)(n c:Nat)(w:World)(x:List Int)(hx:x.length=n):Calls Tryz.prog 245 #[.slice ao n c] w fun en w'=>en=.returned (.bool (cW x))/\w'=w:=by
 have HW:Hid (cW x=!(valid n)):=by show _=_;unfold cW valid;rw [hx]
 go_enter Tryz.func245,Tryz.ntmps245
 go_wp2_with fail
 refine (wU _ _ _ _).mono ?_;rintro en w1 ⟨rfl,rfl⟩;generalize valid n=v at *;go_wp2;go_ret;exact ⟨by rw [HW.out];rfl,rfl⟩
theorem Jj {P:Kd->Bool}{K:List Kd}(h:i<K.length)(k:(K.take i).any P=false)(e:P (K.getD i dO)=false):(K.take (i+1)).any P=false:=by
 have hg:K.getD i dO=K[i]:=by simp [List.getD,List.getElem?_eq_getElem h]
 rw [List.take_add_one,List.getElem?_eq_getElem h,List.any_append,k];rw [hg] at e;simp [e]
theorem Jk {P:List Int->Bool}{K:List (List Int)}(h:i<K.length)(k:(K.take i).any P=false)(e:P (K.getD i [])=false):(K.take (i+1)).any P=false:=by
 have hg:K.getD i []=K[i]:=by simp [List.getD,List.getElem?_eq_getElem h]
 rw [List.take_add_one,List.getElem?_eq_getElem h,List.any_append,k];rw [hg] at e;simp [e]
theorem Jl (a:Option Addr)(n cap:Nat)(K:List Kd)(w:World)(hl:Kl w a K)(hn:K.length=n)(hm:n<=5000) :
  Calls Tryz.prog 278 #[.slice a n cap,.func (.func 243) #[] #[]] w fun en w'=>(∃ r:Int,en=.returned (.int .i64 r)/\(r<0↔K.any wk=false))/\w.grownBy w' none:=by
 have HL:=hJ hl;clear hl;go_enter Tryz.func278,Tryz.ntmps278;go_wp2;go_loopw [5,8] (fun _ si wr=>∃ i:Nat,i<=n/\si=.int .i64 i/\(K.take i).any wk=false/\w.grownBy wr none) (fun _ si _=>n - (intOf si).toNat)
 case atStart=>exact ⟨0,Nat.zero_le _,rfl,by simp,World.grownBy.refl _ _⟩
 case round =>
  obtain ⟨i,hi,rfl,ha,hg⟩:=hrel;have bj:=hJ hg;have HA:=hJ ha;clear hg ha
  by_cases hlt:i<n
  ·obtain ⟨b,off,rfl,q2,q3⟩:=HL.out.row i (by omega)
   have c0:=bj.out.cell q2 (by simp);have c1:=bj.out.cell q3 (by simp);have HX:Hid (wk (K.getD i dO)=false->(K.take (i+1)).any wk=false):=fun e=>Jj (by omega) HA.out e
   have HY:Hid (wk (K.getD i dO)=true->K.any wk=true):=fun e=>List.any_eq_true.2 ⟨_,BB (by omega),e⟩
   have HC:=hJ (fun (W:World)=>yq (K.getD i dO).no (K.getD i dO).keys W);have HE:Hid (wk ⟨(K.getD i dO).no,(K.getD i dO).keys⟩=wk (K.getD i dO)):=rfl;rw [HE.out] at HC;clear q2 q3 HE;generalize (K.getD i dO).no=no at *;generalize (K.getD i dO).keys=ks at *;generalize wk (K.getD i dO)=bb at *
   go_wp2_with fail
   refine (HC.out _).mono ?_;rintro en w2 ⟨rfl,hg2⟩;have eu:=hJ (gQ bj.out hg2);clear hg2;cases bb with
   | true =>
    have lR:=hJ (HY.out rfl);clear HX HY;go_wp2;go_ret;refine ⟨⟨_,rfl,?_⟩,eu.out⟩;rw [lR.out];simp
   | false =>
    have jK:=hJ (HX.out rfl);clear HX HY;go_wp2;go_roundw
    case rel=>exact ⟨i+1,by omega,by go_num,jK.out,eu.out⟩
    case measure=>simp [intOf];omega
  ·have hin:i=n:=by omega
   subst hin;go_wp2;go_ret;refine ⟨⟨-1,rfl,?_⟩,bj.out⟩;have:=HA.out;rw [<- hn,List.take_length] at this;rw [this];simp
theorem yw (a:Option Addr)(n cap:Nat)(K:List Kd)(w:World)(hl:Kl w a K)(hn:K.length=n)(hm:n<=5000) :
  Calls Tryz.prog 242 #[.slice a n cap,.func (.func 243) #[] #[]] w fun en w'=>en=.returned (.bool (K.any wk))/\w.grownBy w' none:=by
 go_enter Tryz.func242,Tryz.ntmps242
 go_wp2_with fail
 refine (Jl a n cap K _ hl hn hm).mono ?_;rintro en w1 ⟨⟨r,rfl,hr⟩,hg⟩;have HR:=hJ hr;have HG:=hJ hg;clear hr hg hl
 by_cases h0:r<0
 ·go_wp2
  go_ret;exact ⟨by rw [HR.out.1 h0];simp [h0],HG.out⟩
 ·have this:Hid (K.any wk=true):=by
   show _=_
   cases hb:K.any wk with
   | true=>rfl
   | false=>exact absurd (HR.out.2 hb) h0
  go_wp2;go_ret;exact ⟨by rw [this.out];rfl,HG.out⟩
theorem Jm (a:Option Addr)(n cap:Nat)(K:List (List Int))(w:World)(hl:Lz w a K)(hn:K.length=n)(hm:n<=5000) :
  Calls Tryz.prog 279 #[.slice a n cap,.func (.func 245) #[] #[]] w fun en w'=>(∃ r:Int,en=.returned (.int .i64 r)/\(r<0↔K.any cW=false))/\w.grownBy w' none:=by
 have HL:=hJ hl;clear hl;go_enter Tryz.func279,Tryz.ntmps279;go_wp2;go_loopw [5,8] (fun _ si wr=>∃ i:Nat,i<=n/\si=.int .i64 i/\(K.take i).any cW=false/\w.grownBy wr none) (fun _ si _=>n - (intOf si).toNat)
 case atStart=>exact ⟨0,Nat.zero_le _,rfl,by simp,World.grownBy.refl _ _⟩
 case round =>
  obtain ⟨i,hi,rfl,ha,hg⟩:=hrel;have bj:=hJ hg;have HA:=hJ ha;clear hg ha
  by_cases hlt:i<n
  ·obtain ⟨b,off,ao,m,c,rfl,q2,q3,q4,q5⟩:=HL.out.row i (by omega)
   have c0:=bj.out.cell q2 (by simp);have HX:Hid (cW (K.getD i [])=false->(K.take (i+1)).any cW=false):=fun e=>Jk (by omega) HA.out e
   have HY:Hid (cW (K.getD i [])=true->K.any cW=true):=fun e=>List.any_eq_true.2 ⟨_,cS (by omega),e⟩
   have HC:=hJ (fun (W:World)=>yu ao m c W (K.getD i []) q3.len);clear q2 q3;generalize cW (K.getD i [])=bb at *
   go_wp2_with fail
   refine (HC.out _).mono ?_;rintro en w2 ⟨rfl,rfl⟩;cases bb with
   | true =>
    have lR:=hJ (HY.out rfl);clear HX HY;go_wp2;go_ret;refine ⟨⟨_,rfl,?_⟩,bj.out⟩;rw [lR.out];simp
   | false =>
    have jK:=hJ (HX.out rfl);clear HX HY;go_wp2;go_roundw
    case rel=>exact ⟨i+1,by omega,by go_num,jK.out,bj.out⟩
    case measure=>simp [intOf];omega
  ·have hin:i=n:=by omega
   subst hin;go_wp2;go_ret;refine ⟨⟨-1,rfl,?_⟩,bj.out⟩;have:=HA.out;rw [<- hn,List.take_length] at this;rw [this];simp
theorem yx (a:Option Addr)(n cap:Nat)(K:List (List Int))(w:World)(hl:Lz w a K)(hn:K.length=n)(hm:n<=5000) :
  Calls Tryz.prog 244 #[.slice a n cap,.func (.func 245) #[] #[]] w fun en w'=>en=.returned (.bool (K.any cW))/\w.grownBy w' none:=by
 go_enter Tryz.func244,Tryz.ntmps244
 go_wp2_with fail
 refine (Jm a n cap K _ hl hn hm).mono ?_;rintro en w1 ⟨⟨r,rfl,hr⟩,hg⟩;have HR:=hJ hr;have HG:=hJ hg;clear hr hg hl
 by_cases h0:r<0
 ·go_wp2
  go_ret;exact ⟨by rw [HR.out.1 h0];simp [h0],HG.out⟩
 ·have this:Hid (K.any cW=true):=by
   show _=_
   cases hb:K.any cW with
   | true=>rfl
   | false=>exact absurd (HR.out.2 hb) h0
  go_wp2;go_ret;exact ⟨by rw [this.out];rfl,HG.out⟩
theorem BC (a:Option Addr)(n cap:Nat)(L:List (List Int))(w:World)(hl:Lz w a L)(hb:Lb L)(hn:L.length=n)(hm:n<=5000) :
  Calls Tryz.prog 246 #[.slice a n cap] w fun en w'=>en=.returned (.bool (nW L))/\w.grownBy w' none:=by
 have HL:=hJ hl;have HB:=hJ hb;clear hl hb;go_enter Tryz.func246,Tryz.ntmps246;go_wp2;go_loopw [3] (fun si wr=>∃ i:Nat,i<=n/\si=.int .i64 ((i+1:Nat):Int)/\(∀ j,j<i->j+1<n->cL (L.getD j []) (L.getD (j+1) [])<0)/\Qt w wr) (fun si _=>n+1 - (intOf si).toNat)
 case atStart=>exact ⟨0,Nat.zero_le _,rfl,fun j hj=>by omega,Qt.refl _⟩
 case round =>
  obtain ⟨i,hi,rfl,ha,hq⟩:=hrel;have HQ:=hJ hq;have HA:=hJ ha;clear hq ha
  by_cases hlt:i+1<n
  ·obtain ⟨b,off,ao,m,c,rfl,q2,q3,q4,q5⟩:=HL.out.row i (by omega)
   obtain ⟨b',off',eX,m',c',e1,r2,r3,r4,r5⟩:=HL.out.row (i+1) (by omega);simp only [Option.some.injEq,Addr.mk.injEq] at e1;obtain ⟨rfl,rfl,_⟩:=e1;have c0:=(HQ.out.cell _).trans q2;have c1:=(HQ.out.cell _).trans r2;have HC:=hJ (fun (W:World) (hW:W.heap=wr.heap)=>qA ao eX m m' c c' _ _ W (q3.heap (hW.trans HQ.out.heap)) (r3.heap (hW.trans HQ.out.heap)) (HB.out _ (cS (by omega))) (HB.out _ (cS (by omega))))
   have HD:Hid (cL (L.getD i []) (L.getD (i+1) [])<0->∀ j,j<i+1->j+1<n->cL (L.getD j []) (L.getD (j+1) [])<0):=by
    intro h j hj rG
    by_cases e:j=i
    ·subst e;exact h
    ·exact HA.out j (by omega) rG
   have HE:Hid (¬ cL (L.getD i []) (L.getD (i+1) [])<0->nW L=false):=by
    intro h;cases hu:nW L with
    | false=>rfl
    | true=>exact absurd ((iO L).1 hu i (by omega)) h
   clear q2 q3 r2 r3;generalize cL (L.getD i []) (L.getD (i+1) [])=z at *;have g1:((i+1:Nat):Int)<(n:Int):=by omega
   have g0:(0:Int)<=((i+1:Nat):Int):=by omega
   have g2:((i+1:Nat):Int) - 1=(i:Int):=by omega
   have g3:(i:Int)<(n:Int):=by omega
   have g4:(0:Int)<=(i:Int):=by omega
   obtain ⟨j,hj⟩:∃ j,i+1=j:=⟨_,rfl⟩;rw [hj] at g1 g0 g2 c1 ⊢;have HJ:=hJ hj;clear hj
   by_cases hz:z<0
   ·have hz':decide (0<=z)=false:=decide_eq_false (by omega)
    go_wp2
    go_quiet ((go_at_call 272;exact Calls.quiet_of_same (HC.out _ rfl)))
    go_wp2;go_roundw
    case rel=>exact ⟨i+1,by omega,by have:=HJ.out;go_num,HD.out hz,HQ.out.trans (Qt.drewN _ _)⟩
    case measure=>have:=HJ.out;simp [intOf];omega
   ·have hz':decide (0<=z)=true:=decide_eq_true (by omega)
    go_wp2
    go_quiet ((go_at_call 272;exact Calls.quiet_of_same (HC.out _ rfl)))
    go_wp2;go_ret;exact ⟨by rw [HE.out hz];rfl,(HQ.out.trans (Qt.drewN _ _)).grown _⟩
  ·have g1:¬ ((i+1:Nat):Int)<(n:Int):=by omega
   obtain ⟨j,hj⟩:∃ j,i+1=j:=⟨_,rfl⟩;rw [hj] at g1 ⊢;have HU:Hid (nW L=true):=(iO L).2 (fun k hk=>HA.out k (by omega) (by omega));go_wp2;go_ret;exact ⟨by rw [HU.out];rfl,HQ.out.grown _⟩
theorem oa (lv:Int)(a:Option Addr)(n cap:Nat)(L:List (List Int))(b:Option Addr)(m bh:Nat)(K:List Kd)(w:World)(hl:Lz w a L)(hb:Lb L)(hn:L.length=n)(hm:n<=5000)(hc:n<=cap)(hcap:cap<=9223372036854775807)(hk:Kl w b K)(hkn:K.length=m)(hkm:m<=5000) :
  Calls Tryz.prog 202 #[.int .i64 lv,.slice a n cap,.slice b m bh] w fun en w'=>en=.returned (.int .i64 (bA lv L K))/\w.grownBy w' none:=by
 have HW:Hid (bA lv L K=if lv<1∨15<lv∨m≠n+1 then 50 else if K.any wk then 51 else if L.any cW then 41 else if nW L then (if 4092<bsize L then 42 else 0) else 30):=by show _=_;unfold bA;rw [hn,hkn]
 have HL:=hJ hl;have HK:=hJ hk
 have XX:Hid (L.any cW=false->∀ x∈L,x.length<=1000000):=by
  intro h x hx;have:=List.any_eq_false.1 h x hx;have:=(eA (by simpa using this)).2;omega
 clear hl hk
 by_cases h1:lv<1
 ·rw [if_pos (.inl h1)] at HW
  go_enter Tryz.func202,Tryz.ntmps202;go_wp2;go_ret;exact ⟨by rw [HW.out];rfl,World.grownBy.refl _ _⟩
 ·by_cases h2:15<lv
  ·rw [if_pos (.inr (.inl h2))] at HW
   go_enter Tryz.func202,Tryz.ntmps202;go_wp2;go_ret;exact ⟨by rw [HW.out];rfl,World.grownBy.refl _ _⟩
  ·by_cases h3:m=n+1
   ·rw [if_neg (by omega)] at HW
    have qD:(m:Int)=(n:Int)+1:=by omega
    go_enter Tryz.func202,Tryz.ntmps202
    go_wp2_with fail
    refine (yw b _ bh K _ HK.out (by omega) (by omega)).mono ?_;rintro en w1 ⟨rfl,hg1⟩;have G1:=hJ hg1;clear hg1;generalize K.any wk=b1 at *;cases b1 with
    | true =>
     go_wp2;go_ret;exact ⟨by rw [HW.out];rfl,G1.out⟩
    | false =>
     go_wp2_with fail
     refine (yx a n cap L _ (HL.out.ae G1.out) hn hm).mono ?_;rintro en w2 ⟨rfl,hg2⟩;have G2:=hJ (gQ G1.out hg2);clear hg2 G1;generalize L.any cW=b2 at *;cases b2 with
     | true =>
      go_wp2;go_ret;exact ⟨by rw [HW.out];rfl,G2.out⟩
     | false =>
      have ad3:=hJ (XX.out rfl);clear XX
      go_wp2_with fail
      refine (BC a n cap L _ (HL.out.ae G2.out) hb hn hm).mono ?_;rintro en w3 ⟨rfl,hg3⟩;have G3:=hJ (gQ G2.out hg3);clear hg3 G2;generalize nW L=b3 at *;cases b3 with
      | false =>
       go_wp2;go_ret;exact ⟨by rw [HW.out];rfl,G3.out⟩
      | true =>
       go_wp2_with fail
       refine (Ji a n cap L _ (HL.out.ae G3.out) hn hm hc hcap ad3.out).mono ?_;rintro en w4 ⟨rfl,hg4⟩;have G4:=hJ (gQ G3.out hg4);clear hg4 G3;generalize bsize L=s at *
       by_cases h5:4092<s
       ·have h5':(4092:Int)<(s:Int):=by omega
        go_wp2;go_ret;exact ⟨by rw [HW.out];simp [h5],G4.out⟩
       ·have h5':¬ (4092:Int)<(s:Int):=by omega
        go_wp2;go_ret;exact ⟨by rw [HW.out];simp [h5],G4.out⟩
   ·rw [if_pos (.inr (.inr h3))] at HW
    have qD:¬ (m:Int)=(n:Int)+1:=by omega
    go_enter Tryz.func202,Tryz.ntmps202;go_wp2;go_ret;exact ⟨by rw [HW.out];rfl,World.grownBy.refl _ _⟩
theorem ZQ {x y:It}:x=y↔x.key=y.key/\x.val=y.val/\x.size=y.size/\x.first=y.first:=by
 obtain ⟨a,b,c,d⟩:=x;obtain ⟨a',b',c',d'⟩:=y;simp
theorem oc (ao:Option Addr)(n c:Nat)(bo:Option Addr)(m d:Nat)(eX:Option Addr)(n' c':Nat)(sH:Option Addr)(m' d':Nat)(x y:It)(s f s' f':Int)(hs:x.size=s)(hf:x.first=f)(hs':y.size=s')(hf':y.first=f')(w:World)
  (h1:ai w ao n c x.key) (h2:ai w bo m d x.val) (h3:ai w eX n' c' y.key) (h4:ai w sH m' d' y.val) (hx:Qy x) (hy:Qy y) :
  Calls Tryz.prog 54 #[.agg #[.slice ao n c,.slice bo m d,.int .i64 s,.int .i64 f],.agg #[.slice eX n' c',.slice sH m' d',.int .i64 s',.int .i64 f']] w fun en w'=>(∃ b,en=.returned (.bool b)/\(b=true↔x=y))/\w.grownBy w' none:=by
 have HE:=hJ (ZQ (x:=x) (y:=y));rw [hs,hs',hf,hf'] at HE;have ga:=World.grownBy_alloc w (.cells #[.slice ao n c,.slice bo m d,.int .i64 s,.int .i64 f] 63) none;have gb:=World.grownBy_alloc (w.alloc (.cells #[.slice ao n c,.slice bo m d,.int .i64 s,.int .i64 f] 63)) (.cells #[.slice eX n' c',.slice sH m' d',.int .i64 s',.int .i64 f'] 63) none;have G:=hJ (gQ ga gb);have H1:=hJ (h1.ae G.out);have H2:=hJ (h2.ae G.out);have H3:=hJ (h3.ae G.out);have H4:=hJ (h4.ae G.out);have HX:=hJ hx;have HY:=hJ hy;clear h1 h2 h3 h4 ga gb hx hy
 by_cases hk:x.key=y.key
 ·by_cases hv:x.val=y.val
  ·have QO:Hid (x=y↔s=s'/\f=f'):=by
    show _↔_
    rw [HE.out];exact ⟨fun h=>h.2.2,fun h=>⟨hk,hv,h⟩⟩
   clear HE
   by_cases XV:s=s'
   ·subst XV
    go_enter Tryz.func54,Tryz.ntmps54
    go_wp2_with fail
    refine (cw _ _ _ _ _ _ _ _ _ H1.out H3.out hk).mono ?_;rintro en w1 ⟨rfl,rfl⟩
    go_wp2_with fail
    refine (cw _ _ _ _ _ _ _ _ _ H2.out H4.out hv).mono ?_;rintro en w1 ⟨rfl,rfl⟩;go_wp2;go_ret;refine ⟨⟨_,rfl,?_⟩,G.out⟩;rw [QO.out];simp
   ·go_enter Tryz.func54,Tryz.ntmps54
    go_wp2_with fail
    refine (cw _ _ _ _ _ _ _ _ _ H1.out H3.out hk).mono ?_;rintro en w1 ⟨rfl,rfl⟩
    go_wp2_with fail
    refine (cw _ _ _ _ _ _ _ _ _ H2.out H4.out hv).mono ?_;rintro en w1 ⟨rfl,rfl⟩;go_wp2;go_ret;refine ⟨⟨_,rfl,?_⟩,G.out⟩;rw [QO.out];simp [XV]
  ·have QO:Hid (¬ x=y):=fun h=>hv (by rw [h])
   clear HE;go_enter Tryz.func54,Tryz.ntmps54
   go_wp2_with fail
   refine (cw _ _ _ _ _ _ _ _ _ H1.out H3.out hk).mono ?_;rintro en w1 ⟨rfl,rfl⟩
   go_wp2_with fail
   refine (lu _ _ _ _ _ _ _ _ _ H2.out H4.out HX.out.val HY.out.val hv).mono ?_;rintro en w1 ⟨rfl,rfl⟩;go_wp2;go_ret;exact ⟨⟨_,rfl,by simp [QO.out]⟩,G.out⟩
 ·have QO:Hid (¬ x=y):=fun h=>hk (by rw [h])
  clear HE
  by_cases hv:x.val=y.val
  ·go_enter Tryz.func54,Tryz.ntmps54
   go_wp2_with fail
   refine (lu _ _ _ _ _ _ _ _ _ H1.out H3.out HX.out.key HY.out.key hk).mono ?_;rintro en w1 ⟨rfl,rfl⟩
   go_wp2_with fail
   refine (cw _ _ _ _ _ _ _ _ _ H2.out H4.out hv).mono ?_;rintro en w1 ⟨rfl,rfl⟩;go_wp2;go_ret;exact ⟨⟨_,rfl,by simp [QO.out]⟩,G.out⟩
  ·go_enter Tryz.func54,Tryz.ntmps54
   go_wp2_with fail
   refine (lu _ _ _ _ _ _ _ _ _ H1.out H3.out HX.out.key HY.out.key hk).mono ?_;rintro en w1 ⟨rfl,rfl⟩
   go_wp2_with fail
   refine (lu _ _ _ _ _ _ _ _ _ H2.out H4.out HX.out.val HY.out.val hv).mono ?_;rintro en w1 ⟨rfl,rfl⟩;go_wp2;go_ret;exact ⟨⟨_,rfl,by simp [QO.out]⟩,G.out⟩
theorem Nn {L M:List It}(hl:L.length=M.length)(h:∀ j,j<L.length->L.getD j aG=M.getD j aG):L=M:=by
 refine List.ext_getElem hl fun j h1 h2=>?_
 have:=h j h1;simpa [List.getD,List.getElem?_eq_getElem h1,List.getElem?_eq_getElem h2] using this
theorem lY (a:Option Addr)(n cap:Nat)(L:List It)(a':Option Addr)(n' cap':Nat)(M:List It)(w:World)(hl:Il w a L)(hb:Ib L)(hn:L.length=n)(hl':Il w a' M)(hb':Ib M)(hn':M.length=n')(hm:n<=9223372036854775807) :
  Calls Tryz.prog 30 #[.slice a n cap,.slice a' n' cap'] w fun en w'=>(∃ b,en=.returned (.bool b)/\(b=true↔L=M))/\w.grownBy w' none:=by
 have HL:=hJ hl;have HM:=hJ hl';have HB:=hJ hb;have HB':=hJ hb';clear hl hl' hb hb'
 by_cases he:n=n'
 ·subst he
  go_enter Tryz.func30,Tryz.ntmps30;go_wp2;go_loopw [5,6] (fun si _ wr=>∃ i:Nat,i<=n/\si=.int .i64 i/\(∀ j,j<i->L.getD j aG=M.getD j aG)/\w.grownBy wr none) (fun si _ _=>n - (intOf si).toNat)
  case atStart=>exact ⟨0,Nat.zero_le _,rfl,fun j hj=>by omega,World.grownBy.refl _ _⟩
  case round =>
   obtain ⟨i,hi,rfl,ha,hg⟩:=hrel;have HG:=hJ hg;have HA:=hJ ha;clear hg ha
   by_cases hlt:i<n
   ·obtain ⟨b,off,ao,m,c,bo,m2,d2,rfl,q2,q3,q4,q5,q6,q7,q8,q9,zY,DY⟩:=HL.out.row i (by omega)
    obtain ⟨b',off',eX,m',c',sH,m2',d2',rfl,r2,r3,r4,r5,r6,r7,r8,r9,Zs,Zt⟩:=HM.out.row i (by omega);have ZR:=fun row=>hJ (gQ (bL (row:=row) HG.out) ((Qt.refl wr).drew.grown row))
    have c0:=HG.out.cell q2 (by simp);have c1:=HG.out.cell q3 (by simp);have c2:=HG.out.cell q4 (by simp);have c3:=HG.out.cell q5 (by simp);have d0:=HG.out.cell r2 (by simp);have d1:=HG.out.cell r3 (by simp);have d2:=HG.out.cell r4 (by simp);have d3:=HG.out.cell r5 (by simp);have HC:=hJ (oc ao m c bo m2 _ eX m' c' sH m2' _ (L.getD i aG) (M.getD i aG) _ _ _ _ rfl rfl rfl rfl wr.drew (q6.ae (ZR none).out) (q9.ae (ZR none).out) (r6.ae (ZR none).out) (r9.ae (ZR none).out) (HB.out.at (by omega)) (HB'.out.at (by omega)))
    have HX:Hid (L.getD i aG=M.getD i aG->∀ j,j<i+1->L.getD j aG=M.getD j aG):=by
     intro h j hj
     by_cases e:j=i
     ·subst e;exact h
     ·exact HA.out j (by omega)
    have HN:Hid (¬ L.getD i aG=M.getD i aG->¬ L=M):=fun h e=>h (by rw [e])
    clear q2 q3 q4 q5 q6 q9 r2 r3 r4 r5 r6 r9 HA;generalize (L.getD i aG).size=sz at *;generalize (L.getD i aG).first=fs at *
    generalize (M.getD i aG).size=sz' at *;generalize (M.getD i aG).first=fs' at *
    generalize L.getD i aG=x at *;generalize M.getD i aG=y at *;have g0:(0:Int)<=(i:Int):=by omega
    have g1:(i:Int)<(n:Int):=by omega
    go_wp2_with fail
    go_region_with (go_at_call 54;refine HC.out.mono ?_;rintro en w2 ⟨⟨bb,rfl,PI⟩,hg2⟩)
    all_goals
     have eu:=hJ (gQ (ZR none).out hg2);have Dh:=hJ PI;clear hg2 PI;cases bb with
     | true =>
      have jK:=hJ (HX.out (Dh.out.1 rfl));clear HX HN Dh;go_wp2;go_roundw
      case rel=>exact ⟨i+1,by omega,by go_num,jK.out,eu.out⟩
      case measure=>simp [intOf];omega
     | false =>
      have Wc:=hJ (HN.out (fun e=>by cases (Dh.out.2 e)));clear HX HN Dh;go_wp2;go_ret;exact ⟨⟨_,rfl,by simp [Wc.out]⟩,eu.out⟩
   ·have hin:i=n:=by omega
    subst hin;have HE:Hid (L=M):=Nn (by omega) (fun j hj=>HA.out j (by omega));clear HA;go_wp2;go_ret;exact ⟨⟨_,rfl,by simp [HE.out]⟩,HG.out⟩
 ·have HE:Hid (¬ L=M):=fun e=>he (by rw [<- hn,<- hn',e])
  go_enter Tryz.func30,Tryz.ntmps30;go_wp2;go_ret;exact ⟨⟨_,rfl,by simp [HE.out]⟩,World.grownBy.refl _ _⟩
theorem qK (s:Int)(w:World):Calls Tryz.prog 175 #[.int .i64 s] w fun en w'=>en=.returned (.int .i64 ((lg s:Nat):Int))/\w'=w:=by
 have HL:=hJ (MC s)
 by_cases h0:s<0
 ·go_enter Tryz.func175,Tryz.ntmps175
  go_wp2;go_ret;exact ⟨ct (by rw [HL.out];omega),rfl⟩
 ·by_cases h1:262144<s
  ·go_enter Tryz.func175,Tryz.ntmps175
   go_wp2;go_ret;exact ⟨ct (by rw [HL.out];omega),rfl⟩
  ·go_enter Tryz.func175,Tryz.ntmps175
   go_wp2;go_ret;exact ⟨ct (by rw [HL.out];omega),rfl⟩
theorem GL {x y:Int}(h:x=y):Ending.returned (Value.int IntKind.u64 x)=.returned (.int .u64 y):=by rw [h]
theorem ud (s:Int)(w:World):Calls Tryz.prog 174 #[.int .i64 s] w fun en w'=>en=.returned (.int .u64 ((tg s:Nat):Int))/\w'=w:=by
 have hl:=Gr s;have HT:Hid (tg s=if 512<lg s then 2*lg s+1 else 2*lg s):=rfl;go_enter Tryz.func174,Tryz.ntmps174
 go_wp2_with fail
 refine (qK s _).mono ?_;rintro en w1 ⟨rfl,rfl⟩;generalize lg s=q at *
 by_cases h5:512<q
 ·go_wp2
  go_ret;exact ⟨GL (by rw [HT.out,if_pos h5];go_num),rfl⟩
 ·go_wp2
  go_ret;exact ⟨GL (by rw [HT.out,if_neg h5];go_num),rfl⟩
theorem rK (a:Option Addr)(cap:Nat)(w:World):Calls Tryz.prog 109 #[.slice a 0 cap] w fun en w'=>en=.returned (.int .i64 0)/\w'=w:=by
 go_enter Tryz.func109,Tryz.ntmps109;go_wp2;go_ret;exact ⟨rfl,rfl⟩
theorem rM (a:Option Addr)(cap:Nat)(x:It)(T:List It)(w:World)(hl:Il w a (x::T))(hc:T.length+1<=5000) :
  Calls Tryz.prog 109 #[.slice a (T.length+1) cap] w fun en w'=>en=.returned (.int .i64 ((pre (x::T):Nat):Int))/\Dr w w':=by
 have HM:Hid (pre (x::T)=bw x.key x.key.length (T.map It.key)):=rfl;obtain ⟨b,off,ao,n,c,bo,m2,d2,rfl,q2,q3,q4,q5,q6,q7,q8,q9,zY,DY⟩:=hl.row 0 (by simp);have qD:ai w ao n c x.key:=by simpa using q6
 have hz:=qD.len;have HF:=hJ qD;have HL:=hJ hl;rw [Nat.zero_mul,Nat.add_zero] at q2;have Dg:=hJ q2;clear q2 q3 q4 q5 q6 q9 qD hl;obtain ⟨N,hN⟩:∃ N,T.length+1=N:=⟨_,rfl⟩;rw [hN];have HN:=hJ hN;have hN5:N<=5000:=by omega
 have Uo:¬ N=0:=by omega
 have Uq:(0:Int)<(N:Int):=by omega
 clear hN hc;have cq:=Dg.out;go_enter Tryz.func109,Tryz.ntmps109;go_wp2;go_loopw [3,4,5] (fun sn si _ wr=>∃ i:Nat,i+1<=N/\si=.int .i64 ((i+1:Nat):Int)/\sn=.int .i64 ((bw x.key n ((T.map It.key).take i):Nat):Int)/\Dr w wr) (fun _ si _ _=>N - (intOf si).toNat)
 case atStart=>exact ⟨0,by omega,rfl,rfl,Dr.refl _⟩
 case round =>
  obtain ⟨i,hi,rfl,rfl,hq⟩:=hrel;have HQ:=hJ hq;clear hq;have hle:bw x.key n ((T.map It.key).take i)<=n:=fF _ _ _
  by_cases hlt:i+1<N
  ·obtain ⟨b',off',sH,m,d,bo2,m3,d3,e1,k2,k3,k4,k5,k6,k7,k8,k9,k10,k11⟩:=HL.out.row (i+1) (by have:=HN.out;simp;omega)
   simp only [Option.some.injEq,Addr.mk.injEq] at e1;obtain ⟨rfl,rfl,_⟩:=e1;have k6':ai w sH m d (T.getD i aG).key:=by simpa using k6
   have hlk:=k6'.len
   have HS:Hid (bw x.key n ((T.map It.key).take (i+1))=min (bw x.key n ((T.map It.key).take i)) (gy x.key (T.getD i aG).key)):=by
    have:=jZ x.key n (T.map It.key) i (by have:=HN.out;rw [List.length_map];omega);rw [Gz] at this;exact this
   have HB:=hJ k6';have Ur:=hJ k2;clear k2 k3 k4 k5 k6 k6' k9;generalize bw x.key n ((T.map It.key).take i)=t at *;generalize (T.getD i aG).key=g at *;obtain ⟨j,hj⟩:∃ j,i+1=j:=⟨_,rfl⟩;rw [hj] at Ur hlt hi HS ⊢;have HJ:=hJ hj;clear hj;have g0:(0:Int)<=(j:Int):=by omega
   have g1:(j:Int)<(N:Int):=by omega
   go_wp2;go_loopw [5] (fun sk wk=>∃ k:Nat,k<=t/\k<=m/\sk=.int .i64 k/\gy (x.key.drop k) (g.drop k)+k=gy x.key g/\Dr w wk) (fun sk _=>t - (intOf sk).toNat)
   case atStart=>exact ⟨0,Nat.zero_le _,Nat.zero_le _,rfl,rfl,HQ.out⟩
   case round =>
    obtain ⟨k,Df,hk2,rfl,he,hqk⟩:=hrel;have HE:=hJ he;have Us:=hJ hqk;clear he hqk;have cf:=(Us.out.cell _).trans Dg.out;have cg:=(Us.out.cell _).trans Ur.out
    by_cases h1:k<t
    ·by_cases h2:k<m
     ·obtain ⟨b1,o1,rfl,_,r1⟩:=HF.out.at (by omega)
      obtain ⟨b2,o2,rfl,_,r2⟩:=HB.out.at (by omega);have c1:=(Us.out.cell _).trans (r1 k (by omega));have c2:=(Us.out.cell _).trans (r2 k h2);have e1:Hid (x.key.getD k 0=g.getD k 0->gy (x.key.drop k) (g.drop k)=gy (x.key.drop (k+1)) (g.drop (k+1))+1):=fun h=>Mp (by omega) (by omega) h
      have e2:Hid (x.key.getD k 0≠g.getD k 0->gy (x.key.drop k) (g.drop k)=0):=fun h=>Gp (by omega) (by omega) h
      have gg1:decide ((k:Int)<(t:Int))=true:=by simp;omega
      have gg2:decide ((k:Int)<(m:Int))=true:=by simp;omega
      have gg3:(k:Int)<(n:Int):=by omega
      have gg4:(k:Int)<(m:Int):=by omega
      have gg0:(0:Int)<=(k:Int):=by omega
      clear r1 r2;generalize x.key.getD k 0=u at *;generalize g.getD k 0=v at *
      by_cases huv:u=v
      ·subst huv
       have E1:=hJ (e1.out rfl);clear e1 e2;have hd:(u==u)=true:=by simp
       go_wp2
       go_quiet (fail)
       go_wp2;go_roundw
       case rel=>exact ⟨k+1,by omega,by omega,by go_num,by have:=E1.out;have:=HE.out;omega,Us.out.more _⟩
       case measure=>simp [intOf];omega
      ·have hd:(v==u)=false:=by simpa using fun e=>huv e.symm
       have HC:Hid (gy x.key g=k):=by have:=e2.out huv;have:=HE.out;show _=_;omega
       clear e1 e2;go_wp2
       go_quiet (fail)
       go_wp2;go_roundw
       case rel=>exact ⟨i+1,by have:=HJ.out;omega,by have:=HJ.out;go_num,by rw [HJ.out,HS.out,HC.out,Nat.min_eq_right (by omega)],Us.out.more _⟩
       case measure=>have:=HJ.out;simp [intOf];omega
     ·have hend:=Gq (a:=x.key) (b:=g) (i:=k) (by omega)
      have HC:Hid (gy x.key g=k):=by have:=HE.out;show _=_;omega
      clear hend;have gg1:decide ((k:Int)<(t:Int))=true:=by simp;omega
      have gg2:decide ((k:Int)<(m:Int))=false:=by simp;omega
      go_wp2
      go_quiet (fail)
      go_wp2;go_roundw
      case rel=>exact ⟨i+1,by have:=HJ.out;omega,by have:=HJ.out;go_num,by rw [HJ.out,HS.out,HC.out,Nat.min_eq_right (by omega)],Us.out.more _⟩
      case measure=>have:=HJ.out;simp [intOf];omega
    ·have HC:Hid (t<=gy x.key g):=by have:=HE.out;show _<=_;omega
     have ZT:k=t:=by omega
     have gg1:decide ((k:Int)<(t:Int))=false:=by simp;omega
     go_wp2
     go_quiet (fail)
     go_wp2;go_roundw
     case rel=>exact ⟨i+1,by have:=HJ.out;omega,by have:=HJ.out;go_num,by rw [HJ.out,HS.out,Nat.min_eq_left HC.out,ZT],Us.out.more _⟩
     case measure=>have:=HJ.out;simp [intOf];omega
  ·have hin:i=T.length:=by have:=HN.out;omega
   have HT:Hid (bw x.key n ((T.map It.key).take i)=pre (x::T)):=by
    show _=_
    rw [HM.out,hin,hz,List.take_of_length_le (by rw [List.length_map];exact Nat.le_refl _)]
   generalize bw x.key n ((T.map It.key).take i)=t at *;obtain ⟨j,hj⟩:∃ j,i+1=j:=⟨_,rfl⟩;rw [hj] at hlt ⊢;have g1:¬ (j:Int)<(N:Int):=by omega
   go_wp2;go_ret;exact ⟨ct (by rw [HT.out]),HQ.out⟩
theorem kJ (a:Option Addr)(n cap:Nat)(L:List It)(w:World)(hl:Il w a L)(hn:L.length=n)(hm:n<=5000) :
  Calls Tryz.prog 109 #[.slice a n cap] w fun en w'=>en=.returned (.int .i64 ((pre L:Nat):Int))/\Dr w w':=by
 cases L with
 | nil =>
  obtain rfl:n=0:=by simpa using hn.symm
  refine (rK a cap w).mono ?_;rintro en w' ⟨rfl,rfl⟩;exact ⟨rfl,Dr.refl _⟩
 | cons x T =>
  have e:n=T.length+1:=by simpa using hn.symm
  subst e;exact rM a cap x T w hl hm
theorem qL (a:Option Addr)(n cap:Nat)(L:List It)(w:World)(hl:Il w a L)(hn:L.length=n)(hm:n<=5000)(hk:∀ x∈L,x.key.length<=1000000) :
  Calls Tryz.prog 108 #[.slice a n cap] w fun en w'=>en=.returned (.int .i64 ((size L:Nat):Int))/\Dr w w':=by
 have HL:=hJ hl;have HP:Hid (∀ x∈L,pre L<=x.key.length):=fun x hx=>(dw x hx).1
 have HS:=hJ (AX (by omega) hk);have HM:Hid (size L=3+vl (pre L)+pre L+fZ (pre L) L):=rfl;have HN:=hJ (fun i h=>pJ (pre L) L i h);have hv:=eI (pre L)
 have hpl:pre L<=1000000:=by
  cases L with
  | nil=>exact Nat.zero_le _
  | cons x L=>exact Nat.le_trans (dw x List.mem_cons_self).1 (hk x List.mem_cons_self)
 have HK:=hJ hk;clear hl hk;go_enter Tryz.func108,Tryz.ntmps108
 go_wp2_with fail
 refine (kJ a n cap L _ HL.out hn hm).mono ?_;rintro en w1 ⟨rfl,hg1⟩;have HG:=hJ hg1;clear hg1;generalize pre L=p at *
 go_wp2_with fail
 refine (fO p _ (by omega)).mono ?_;rintro en w2 ⟨rfl,rfl⟩;have hv':(ah p).length<=10:=hv;generalize Uf:(ah p).length=v at *;have HV:Hid (vl p=v):=Uf;clear Uf hv;go_wp2;go_loopw [4,5,6] (fun sn si _ wr=>∃ i:Nat,i<=n/\si=.int .i64 i/\sn=.int .i64 ((3+v+p+fZ p (L.take i):Nat):Int)/\Dr w wr) (fun _ si _ _=>n - (intOf si).toNat)
 case atStart=>exact ⟨0,Nat.zero_le _,rfl,by simp [fZ],HG.out⟩
 case round =>
  obtain ⟨i,hi,rfl,rfl,hg⟩:=hrel;have bj:=hJ hg;have b1:=HS.out i (by omega);clear hg HG
  by_cases hlt:i<n
  ·obtain ⟨b,off,ao,m,c,bo,m2,d2,rfl,q2,q3,q4,q5,q6,q7,q8,q9,zY,DY⟩:=HL.out.row i (by omega)
   have c0:=(bj.out.cell _).trans q2;have c2:=(bj.out.cell _).trans q4;have hx:=cR (L:=L) (i:=i) (by omega);have tM:=q6.len;have nh:=HP.out _ hx;have Df:=HK.out _ hx;have b2:=Mq p (L.getD i aG);have HX:Hid (fZ p (L.take (i+1))=fZ p (L.take i)+(2+cl p (L.getD i aG))):=HN.out i (by omega);obtain ⟨r,hr⟩:∃ r,m - p=r:=⟨_,rfl⟩;have hr':(m:Int) - (p:Int)=(r:Int):=by omega
   have GA:Hid (cl p (L.getD i aG)=vl r+r+vl (tg (L.getD i aG).size)+tl (L.getD i aG).size):=by show _=_;unfold cl;rw [tM,hr]
   have PA:tl (L.getD i aG).size=if 512<lg (L.getD i aG).size then 4 else lg (L.getD i aG).size:=rfl
   have hlg:=Gr (L.getD i aG).size;have htt:=AH (L.getD i aG).size;have YO:(ah r).length<=10:=eI r;have hv2:(ah (tg (L.getD i aG).size)).length<=10:=eI _;have HVR:=hJ (fun W:World=>fO r W (by omega));have HVT:=hJ (fun W:World=>fO (tg (L.getD i aG).size) W (by omega));have HTG:=hJ (fun W:World=>ud (L.getD i aG).size W);have HLG:=hJ (fun W:World=>qK (L.getD i aG).size W);have hrb:r<=1000000:=by omega
   clear q2 q3 q4 q5 q6 q9 tM nh hx hr;generalize cl p (L.getD i aG)=C at *;generalize fZ p (L.take i)=U at *;generalize tl (L.getD i aG).size=tl1 at *;generalize lg (L.getD i aG).size=lg1 at *;generalize (L.getD i aG).size=sz at *;have DZ:=hJ PA;clear PA;generalize hla:(ah r).length=la at *;generalize hlb:(ah (tg sz)).length=lb1 at *;have ZU:Hid (vl r=la):=hla;have GG:Hid (vl (tg sz)=lb1):=hlb;clear hla hlb;generalize tg sz=t at *;have g0:(0:Int)<=(i:Int):=by omega
   have g1:(i:Int)<(n:Int):=by omega
   obtain ⟨S0,hS0⟩:∃ S0,3+v+p+U=S0:=⟨_,rfl⟩;rw [hS0];have PJ:=hJ hS0;have hSb:S0<=6006000000:=by omega
   clear hS0;go_wp2
   go_quiet ((first
    | (go_at_call_of 173 (Value.int IntKind.u64 (r:Int));exact Calls.quiet_of_same (HVR.out _))
    | (go_at_call_of 173 (Value.int IntKind.u64 (t:Int));exact Calls.quiet_of_same (HVT.out _))
    | (go_at_call 174;exact Calls.quiet_of_same (HTG.out _))))
   go_wp2_with fail
   refine (HLG.out _).mono ?_;rintro en w5 ⟨rfl,rfl⟩
   by_cases h5:512<lg1
   ·rw [if_pos h5] at DZ
    go_wp2;go_roundw
    case rel=>exact ⟨i+1,by omega,by go_num,by rw [HX.out,GA.out,ZU.out,GG.out,DZ.out];have:=PJ.out;go_num,bj.out.more _⟩
    case measure=>simp [intOf];omega
   ·rw [if_neg h5] at DZ
    go_wp2_with fail
    refine (HLG.out _).mono ?_;rintro en w5 ⟨rfl,rfl⟩;go_wp2;go_roundw
    case rel=>exact ⟨i+1,by omega,by go_num,by rw [HX.out,GA.out,ZU.out,GG.out,DZ.out];have:=PJ.out;go_num,bj.out.more _⟩
    case measure=>simp [intOf];omega
  ·have hin:i=n:=by omega
   subst hin;go_wp2;go_ret;refine ⟨ct ?_,bj.out⟩;rw [HM.out,HV.out,<- hn,List.take_length]
theorem xh:∀ {a b:List Int},Bt a->Bt b->Op.bytesLess (a.map fun n=>UInt8.ofNat n.toNat) (b.map fun n=>UInt8.ofNat n.toNat)=decide (cL a b<0)
 | [],[],_,_=>by simp [Op.bytesLess,cL]
 | _::_,[],_,_=>by simp [Op.bytesLess,cL]
 | [],_::_,_,_=>by simp [Op.bytesLess,cL]
 | a::xs,b::ys,ha,hb=>by
  have h1:=ha a (List.mem_cons_self ..);have h2:=hb b (List.mem_cons_self ..);have ih:=xh (a:=xs) (b:=ys) (fun z hz=>ha z (List.mem_cons_of_mem _ hz)) (fun z hz=>hb z (List.mem_cons_of_mem _ hz))
  have e1:(UInt8.ofNat a.toNat<UInt8.ofNat b.toNat)↔a<b:=by
   rw [UInt8.lt_iff_toNat_lt];simp;omega
  have e2:(UInt8.ofNat a.toNat=UInt8.ofNat b.toNat)↔a=b:=by
   rw [<- UInt8.toNat_inj];simp;omega
  rw [List.map_cons,List.map_cons,Op.bytesLess,ih,AA]
  by_cases h3:a<b
  ·simp [e1,h3]
  ·by_cases h4:b<a
   ·have h5:¬ a=b:=by omega
    simp [e1,e2,h3,h4,h5]
   ·have h5:a=b:=by omega
    subst h5;simp
theorem BD (ao bo:Option Addr)(n m c d:Nat)(za zb:List Int)(w:World)(ha:ai w ao n c za)(hb:ai w bo m d zb)(ba:Bt za)(bb:Bt zb) :
  Calls Tryz.prog 114 #[.slice ao n c,.slice bo m d] w fun en w'=>en=.returned (.bool (decide (cL za zb<0)))/\w'=w:=by
 have h1:=dS ha;have h2:=dS hb
 have HE:Hid (Op.bytesLess (strOfNums za).toList (strOfNums zb).toList=decide (cL za zb<0)):=by
  show _=_
  rw [ByteArray.toList_eq,ByteArray.toList_eq,strOfNums_data,strOfNums_data];exact xh ba bb
 clear ha hb;go_enter Tryz.func114,Tryz.ntmps114;go_wp2;go_ret;exact ⟨by rw [<- HE.out];rfl,rfl⟩
theorem Jn (ao:Option Addr)(n c:Nat)(bo:Option Addr)(m d:Nat)(s f:Int)(w:World)(x:It)(hv:x.val.length=m)(hs:x.size=s)(hf:x.first=f) :
  Calls Tryz.prog 172 #[.agg #[.slice ao n c,.slice bo m d,.int .i64 s,.int .i64 f]] w fun en w'=>en=.returned (.bool (!wv x))/\w.grownBy w' none:=by
 have HW:Hid (wv x=if 512<s then decide (m≠0) || decide (f<2) || decide (524287<=f) else decide ((m:Int)≠s) || decide (f≠0)):=by show _=_;unfold wv;rw [hv,hs,hf]
 have G1:=hJ (World.grownBy_alloc w (.cells #[.slice ao n c,.slice bo m d,.int .i64 s,.int .i64 f] 63) none)
 by_cases h5:512<s
 ·rw [if_pos h5] at HW
  by_cases h0:m=0
  ·subst h0
   by_cases h2:f<2
   ·go_enter Tryz.func172,Tryz.ntmps172
    go_wp2;go_ret;exact ⟨by rw [HW.out];simp [h2],G1.out⟩
   ·go_enter Tryz.func172,Tryz.ntmps172
    go_wp2;go_ret;refine ⟨?_,G1.out⟩;rw [HW.out];have h4:decide (f<2)=false:=decide_eq_false (by omega);rw [h4]
    by_cases h3:524287<=f
    ·have h5:¬ f<524287:=by omega
     simp [h3,h5]
    ·have h5:f<524287:=by omega
     simp [h3,h5]
  ·go_enter Tryz.func172,Tryz.ntmps172
   go_wp2;go_ret;exact ⟨by rw [HW.out];simp [h0],G1.out⟩
 ·rw [if_neg h5] at HW
  by_cases h0:(m:Int)=s
  ·go_enter Tryz.func172,Tryz.ntmps172
   go_wp2;go_ret;refine ⟨?_,G1.out⟩;rw [HW.out]
   by_cases hz:f=0 <;> simp [h0,hz]
  ·go_enter Tryz.func172,Tryz.ntmps172
   go_wp2;go_ret;exact ⟨by rw [HW.out];simp [h0],G1.out⟩
def Np (P:It->Bool)(L:List It)(i:Nat):Prop:=(L.take i).any P=false
theorem Np.zero (P:It->Bool)(L:List It):Np P L 0:=by unfold Np;simp
def ZV (L:List It)(n k:Nat):Prop:=∀ j,j<k->j+1<n->cL (L.getD j aG).key (L.getD (j+1) aG).key<0
theorem jo (a:Option Addr)(n cap:Nat)(L:List It)(w:World)(hl:Il w a L)(hb:Ib L)(hn:L.length=n)(hm:n<=5000) :
  Calls Tryz.prog 107 #[.slice a n cap] w fun en w'=>en=.returned (.int .i64 (wrong L))/\w.grownBy w' none:=by
 have HW:Hid (wrong L=if n=0 then 40 else if L.any ws then 41 else if L.any wv then 40 else if IG L then 0 else 30):=by show _=_;unfold wrong;rw [hn]
 have HL:=hJ hl;have HB:=hJ hb;clear hl hb
 by_cases h0:n=0
 ·rw [if_pos h0] at HW
  go_enter Tryz.func107,Tryz.ntmps107;go_wp2;go_ret;exact ⟨by rw [HW.out];rfl,World.grownBy.refl _ _⟩
 ·rw [if_neg h0] at HW
  have QB:((n:Int)==0)=false:=by
   rw [beq_eq_false_iff_ne];omega
  go_enter Tryz.func107,Tryz.ntmps107;go_wp2;go_loopw [3,4] (fun si _ wr=>∃ i:Nat,i<=n/\si=.int .i64 i/\Np ws L i/\w.grownBy wr none) (fun si _ _=>n - (intOf si).toNat)
  case atStart=>exact ⟨0,Nat.zero_le _,rfl,Np.zero _ _,World.grownBy.refl _ _⟩
  case round =>
   obtain ⟨i,hi,rfl,ha,hg⟩:=hrel;have bj:=hJ hg;have HA:=hJ ha;clear hg ha
   by_cases hlt:i<n
   ·obtain ⟨b,off,ao,m,c,bo,m2,d2,rfl,q2,q3,q4,q5,q6,q7,q8,q9,zY,DY⟩:=HL.out.row i (by omega)
    have c0:=bj.out.cell q2 (by simp);have c1:=bj.out.cell q3 (by simp);have c2:=bj.out.cell q4 (by simp);have c3:=bj.out.cell q5 (by simp);have HX:Hid (ws (L.getD i aG)=false->Np ws L (i+1)):=fun e=>nP (by omega) HA.out e
    have HY:Hid (ws (L.getD i aG)=true->L.any ws=true):=fun e=>sG (by omega) e
    have wY:Hid (ws (L.getD i aG)=(!(decide (1<=m) && decide (m<=255)) || decide ((L.getD i aG).size<0) || decide (262144<(L.getD i aG).size))):=by show _=_;unfold ws;rw [q6.len]
    clear q2 q3 q4 q5 q6 q9;generalize (L.getD i aG).size=sz at *;generalize (L.getD i aG).first=fs at *
    generalize ws (L.getD i aG)=bb at *;have G2:=hJ (gQ bj.out (World.grownBy_alloc wr (.cells #[.slice ao m c,.slice bo m2 d2,.int .i64 sz,.int .i64 fs] 63) none))
    by_cases k1:m<1
    ·have lR:=hJ (HY.out (by rw [wY.out];simp;omega))
     clear HX HY wY;go_wp2;go_ret;exact ⟨by rw [HW.out,lR.out];rfl,G2.out⟩
    ·by_cases k2:255<m
     ·have lR:=hJ (HY.out (by rw [wY.out];simp;omega))
      clear HX HY wY;go_wp2;go_ret;exact ⟨by rw [HW.out,lR.out];rfl,G2.out⟩
     ·by_cases k3:sz<0
      ·have lR:=hJ (HY.out (by rw [wY.out];simp [k3]))
       clear HX HY wY;go_wp2;go_ret;exact ⟨by rw [HW.out,lR.out];rfl,G2.out⟩
      ·by_cases k4:262144<sz
       ·have lR:=hJ (HY.out (by rw [wY.out];simp [k4]))
        clear HX HY wY;go_wp2;go_ret;exact ⟨by rw [HW.out,lR.out];rfl,G2.out⟩
       ·have jK:=hJ (HX.out (by rw [wY.out];simp [k3,k4];omega))
        clear HX HY wY;go_wp2;go_roundw
        case rel=>exact ⟨i+1,by omega,by go_num,jK.out,G2.out⟩
        case measure=>simp [intOf];omega
   ·have hin:n=i:=by omega
    subst hin
    have ZW:Hid (L.any ws=false):=by
     have:=HA.out;unfold Np at this
     rwa [<- hn,List.take_length] at this
    rw [ZW.out,if_neg (by simp)] at HW;clear HA ZW;go_wp2;go_loopw [2,5,6] (fun _ si _ wr=>∃ i:Nat,i<=n/\si=.int .i64 i/\Np wv L i/\w.grownBy wr none) (fun _ si _ _=>n - (intOf si).toNat)
    case atStart=>exact ⟨0,Nat.zero_le _,rfl,Np.zero _ _,bj.out⟩
    case round =>
     obtain ⟨j,hj,rfl,ha,hg⟩:=hrel;have eu:=hJ hg;have HA:=hJ ha;clear hg ha bj
     by_cases BF:j<n
     ·obtain ⟨b,off,ao,m,c,bo,m2,d2,rfl,q2,q3,q4,q5,q6,q7,q8,q9,zY,DY⟩:=HL.out.row j (by omega)
      have c0:=eu.out.cell q2 (by simp);have c1:=eu.out.cell q3 (by simp);have c2:=eu.out.cell q4 (by simp);have c3:=eu.out.cell q5 (by simp);have HX:Hid (wv (L.getD j aG)=false->Np wv L (j+1)):=fun e=>nP (by omega) HA.out e
      have HY:Hid (wv (L.getD j aG)=true->L.any wv=true):=fun e=>sG (by omega) e
      have HC:=hJ (fun (W:World)=>Jn ao m c bo m2 d2 (L.getD j aG).size (L.getD j aG).first W (L.getD j aG) q9.len rfl rfl);clear q2 q3 q4 q5 q6 q9;generalize (L.getD j aG).size=sz at *;generalize (L.getD j aG).first=fs at *
      generalize wv (L.getD j aG)=bb at *
      go_wp2_with fail
      refine (HC.out _).mono ?_;rintro en w2 ⟨rfl,hg2⟩;have rq:=hJ (gQ eu.out hg2);clear hg2;cases bb with
      | true =>
       have lR:=hJ (HY.out rfl);clear HX HY;go_wp2;go_ret;exact ⟨by rw [HW.out,lR.out];rfl,rq.out⟩
      | false =>
       have jK:=hJ (HX.out rfl);clear HX HY;go_wp2;go_roundw
       case rel=>exact ⟨j+1,by omega,by go_num,jK.out,rq.out⟩
       case measure=>simp [intOf];omega
     ·have ue:n=j:=by omega
      subst ue
      have ZW:Hid (L.any wv=false):=by
       have:=HA.out;unfold Np at this
       rwa [<- hn,List.take_length] at this
      rw [ZW.out,if_neg (by simp)] at HW;clear HA ZW;go_wp2;go_loopw [2,7,8] (fun _ si _ wr=>∃ k:Nat,k<=n/\si=.int .i64 ((k+1:Nat):Int)/\ZV L n k/\w.grownBy wr none) (fun _ si _ _=>n+1 - (intOf si).toNat)
      case atStart=>exact ⟨0,Nat.zero_le _,rfl,fun j hj=>by omega,eu.out⟩
      case round =>
       obtain ⟨k,hk,rfl,ha,hg⟩:=hrel;have HG:=hJ hg;have HA:=hJ ha;clear hg ha eu
       by_cases ad8:k+1<n
       ·obtain ⟨b,off,ao,m,c,bo,m2,d2,rfl,q2,q3,q4,q5,q6,q7,q8,q9,zY,DY⟩:=HL.out.row k (by omega)
        obtain ⟨b',off',eX,m',c',sH,m2',d2',e1,r2,r3,r4,r5,r6,r7,r8,r9,Zs,Zt⟩:=HL.out.row (k+1) (by omega);simp only [Option.some.injEq,Addr.mk.injEq] at e1;obtain ⟨rfl,rfl,_⟩:=e1;have c0:=HG.out.cell q2 (by simp);have c1:=HG.out.cell r2 (by simp);have HC:=hJ (fun (W:World) (hW:W.heap=wr.heap)=>BD ao eX m m' c c' _ _ W ((q6.ae HG.out).heap hW) ((r6.ae HG.out).heap hW) (HB.out.at (by omega)).key (HB.out.at (by omega)).key)
        have HD:Hid (cL (L.getD k aG).key (L.getD (k+1) aG).key<0->ZV L n (k+1)):=by
         intro h j hj rG
         by_cases e:j=k
         ·subst e;exact h
         ·exact HA.out j (by omega) rG
        have HE:Hid (¬ cL (L.getD k aG).key (L.getD (k+1) aG).key<0->IG L=false):=by
         intro h;cases hu:IG L with
         | false=>rfl
         | true=>exact absurd ((nI L).1 hu k (by omega)) h
        clear q2 q3 q4 q5 q6 q9 r2 r3 r4 r5 r6 r9;generalize cL (L.getD k aG).key (L.getD (k+1) aG).key=z at *;have g1:((k+1:Nat):Int)<(n:Int):=by omega
        have g0:(0:Int)<=((k+1:Nat):Int):=by omega
        have g2:((k+1:Nat):Int) - 1=(k:Int):=by omega
        have g3:(k:Int)<(n:Int):=by omega
        have g4:(0:Int)<=(k:Int):=by omega
        obtain ⟨q,hq⟩:∃ q,k+1=q:=⟨_,rfl⟩;rw [hq] at g1 g0 g2 c1 ⊢;have HJ:=hJ hq;clear hq
        by_cases hz:z<0
        ·have hz':decide (z<0)=true:=decide_eq_true hz
         rw [hz'] at HC;go_wp2
         go_quiet ((go_at_call 114;exact Calls.quiet_of_same (HC.out _ rfl)))
         go_wp2;go_roundw
         case rel=>exact ⟨k+1,by omega,by have:=HJ.out;go_num,HD.out hz,gQ HG.out ((Qt.drewN _ _).grown _)⟩
         case measure=>have:=HJ.out;simp [intOf];omega
        ·have hz':decide (z<0)=false:=decide_eq_false hz
         rw [hz'] at HC;go_wp2
         go_quiet ((go_at_call 114;exact Calls.quiet_of_same (HC.out _ rfl)))
         go_wp2;go_ret;exact ⟨by rw [HW.out,HE.out hz];rfl,gQ HG.out ((Qt.drewN _ _).grown _)⟩
       ·have g1:¬ ((k+1:Nat):Int)<(n:Int):=by omega
        obtain ⟨q,hq⟩:∃ q,k+1=q:=⟨_,rfl⟩;rw [hq] at g1 ⊢;have HU:Hid (IG L=true):=(nI L).2 (fun r hr=>HA.out r (by omega) (by omega));go_wp2;go_ret;exact ⟨by rw [HW.out,HU.out];rfl,HG.out⟩
theorem lD {zs:List Int}{i:Nat}(h:i<zs.length):zs.take (i+1)=zs.take i++[zs.getD i 0]:=by
 rw [List.take_add_one,List.getElem?_eq_getElem h];simp [List.getD,List.getElem?_eq_getElem h]
theorem Eo {zs:List Int}(hp:p<=i)(h:i<zs.length):(zs.drop p).take (i+1 - p)=(zs.drop p).take (i - p)++[zs.getD i 0]:=by
 have e:i+1 - p=(i - p)+1:=by omega
 rw [e,lD (by rw [List.length_drop];omega)];simp [List.getD,show p+(i - p)=i by omega]
structure Gb (w wr:World)(base:Nat)(v:Value)(zs:List Int):Prop where
 own:wr.ownsRow base 5 1 v zs.length (zs.map (Value.int .u8))
 gr:w.grownBy wr none
 le:w.heap.size<=base/\base<=wr.heap.size
theorem Gb.AL (h:Gb w wr base v zs):∃ ao cap,v=.slice ao zs.length cap/\ai wr ao zs.length cap zs:=aY h.own
theorem Gb.app {z:Int}(h:Gb w wr base v zs)(o:Obj)(ho:w'.ownsRow base 5 1 v' (zs.length+1) ((zs++[z]).map (Value.int .u8)))(hg:(wr.alloc o).grownBy w' v.ownBlock):Gb w w' base v' (zs++[z]):=by
 refine ⟨by rw [List.length_append];exact ho,bO h.gr h.own h.le.1 hg,h.le.1,?_⟩;have:=hg.size;have:=h.le.2;simp at *;omega
theorem Gb.ae {base:Nat}(h:Gb w wr base v zs)(hg:wr.grownBy w' none):Gb w w' base v zs :=
 ⟨h.own.kept hg (by cases v.ownBlock <;> simp),gQ h.gr hg,h.le.1,Nat.le_trans h.le.2 hg.size⟩
theorem dA (ao:Option Addr)(n cap:Nat)(zs:List Int)(x d:Nat)(w:World)(hb:ai w ao n cap zs)(hn:n<=1099511627776)(_hx:x<18446744073709551616)(hd:d<=8) :
  Calls Tryz.prog 110 #[.slice ao n cap,.int .u64 x,.int .i64 d] w fun e w'=>∃ eX cap',e=.returned (.slice eX (n+d) cap')/\w'.ownsRow w.heap.size 5 1 (.slice eX (n+d) cap') (n+d) ((zs++lb d x).map (Value.int .u8))/\w.grownBy w' none/\w.heap.size<=w'.heap.size:=by
 go_enter Tryz.func110,Tryz.ntmps110
 go_wp2_with fail
 refine (bq ao n cap zs _ hb (by omega)).mono ?_;rintro en w0 ⟨rfl,aR,hg0,hs0⟩;clear hb;go_wp2;go_loopw [7,8] (fun out si wr=>∃ (k:Nat),k<=d/\si=.int .i64 k/\wr.ownsRow w.heap.size 5 1 out (n+k) ((zs++lb k x).map (Value.int .u8))/\w.grownBy wr none) (fun _ si _=>d - (intOf si).toNat)
 case atStart=>exact ⟨0,by omega,rfl,by simpa [lb] using aR,hg0⟩
 case round =>
  obtain ⟨k,hk,rfl,hown,hg⟩:=hrel
  by_cases hlt:k<d
  ·go_wp2_with (at_builtin;refine aq rfl _ _ rfl w.heap.size _ (n+k) (zs++lb k x) rfl (hown.alloc _) (some ⟨wr.heap.size,0,none⟩) 1 1 [(x:Int) / 2 ^ (8*k) % 256] rfl (ai.lit wr 5 _ [(x:Int) / 2 ^ (8*k) % 256] 1 rfl rfl) (by omega) (by have:=hg.size;simp;omega) ?_)
   intro v' w1 h1 h2;have hg2:=bO hg hown (Nat.le_refl _) h2
   have hown2:w1.ownsRow w.heap.size 5 1 v' (n+(k+1)) ((zs++lb (k+1) x).map (Value.int .u8)):=by
    rw [ia,List.map_append,List.map_append,<- Nat.add_assoc,<- ep];simpa using h1
   clear h1 h2 hown;go_wp2;go_roundw
   case rel=>exact ⟨k+1,by omega,by go_num,hown2,hg2⟩
   case measure=>simp [intOf];omega
  ·have vS:k=d:=by omega
   subst vS;obtain ⟨eX,cap',hv,hB⟩:=aY hown;subst hv;have HB:=hJ hown;have HG:Hid (w.grownBy wr none):=hg;clear hB hown hg;go_wp2;go_ret;exact ⟨_,_,rfl,HB.out,HG.out,HG.out.size⟩
theorem fT (ao:Option Addr)(n cap:Nat)(zs:List Int)(x:Nat)(w:World)(hb:ai w ao n cap zs)(hn:n<=1099511627776)(hx:x<18446744073709551616) :
  Calls Tryz.prog 111 #[.slice ao n cap,.int .u64 x] w fun e w'=>∃ eX cap',e=.returned (.slice eX (n+(ah x).length) cap')/\w'.ownsRow w.heap.size 5 1 (.slice eX (n+(ah x).length) cap') (n+(ah x).length) ((zs++ah x).map (Value.int .u8))/\w.grownBy w' none/\w.heap.size<=w'.heap.size:=by
 have HL:Hid (zs.length=n):=hb.len;have hvl:=jS x;go_enter Tryz.func111,Tryz.ntmps111
 go_wp2_with fail
 refine (bq ao n cap zs _ hb (by omega)).mono ?_;rintro en w0 ⟨rfl,aR,hg0,hs0⟩;clear hb;go_wp2
 go_loopw [5,1] (fun out sx wr=>∃ (f y:Nat) (pre:List Int),1<=f/\f<=10/\y<2*128 ^ (f - 1)/\sx=.int .u64 y/\y<18446744073709551616/\pre++lf f y=zs++ah x /\
   wr.ownsRow w.heap.size 5 1 out pre.length (pre.map (Value.int .u8))/\w.grownBy wr none) (fun _ sx _=>(intOf sx).toNat)
 case atStart=>exact ⟨10,x,zs,by omega,by omega,by simp;omega,rfl,hx,rfl,by rw [HL.out];exact aR,hg0⟩
 case round =>
  obtain ⟨f,y,pre,Dy,hf2,hy,rfl,VC,hpre,hown,hg⟩:=hrel;have HP:Hid (pre++lf f y=zs++ah x):=hpre;have hpl:pre.length<=n+10:=by have:=congrArg List.length hpre;simp at this;have:=HL.out;omega
  have HY:Hid (y<2*128 ^ (f - 1)):=hy;clear hpre hy
  by_cases hlt:y<128
  ·go_wp2_with (at_builtin;refine aq rfl _ _ rfl w.heap.size _ pre.length pre rfl (hown.alloc _) (some ⟨wr.heap.size,0,none⟩) 1 1 [(y:Int)] rfl (ai.lit wr 5 _ [(y:Int)] 1 rfl rfl) (by omega) (by have:=hg.size;simp;omega) ?_)
   intro v' w1 h1 h2;have hg2:=bO hg hown (Nat.le_refl _) h2;have nC:pre++[(y:Int)]=zs++ah x:=by rw [<- HP.out];obtain ⟨f',rfl⟩:∃ f',f=f'+1:=⟨f - 1,by omega⟩;rw [cP f' y hlt]
   have jQ:pre.length+1=n+(ah x).length:=by have:=congrArg List.length nC;simp at this;have:=HL.out;omega
   have h3:w1.ownsRow w.heap.size 5 1 v' (n+(ah x).length) ((zs++ah x).map (Value.int .u8)):=by rw [<- nC,<- jQ];simpa using h1
   obtain ⟨eX,cap',hv,hB⟩:=aY h3;subst hv;have HB:=hJ h3;have HG:Hid (w.grownBy w1 none):=hg2;clear hB hown hg h1 h2 h3 nC jQ hg2;go_wp2;go_ret;exact ⟨_,_,rfl,HB.out,HG.out,HG.out.size⟩
  ·go_wp2_with (at_builtin;refine aq rfl _ _ rfl w.heap.size _ pre.length pre rfl (hown.alloc _) (some ⟨wr.heap.size,0,none⟩) 1 1 [(y:Int) % 128+128] rfl (ai.lit wr 5 _ [(y:Int) % 128+128] 1 rfl rfl) (by omega) (by have:=hg.size;simp;omega) ?_)
   intro v' w1 h1 h2;have hg2:=bO hg hown (Nat.le_refl _) h2;obtain ⟨f',rfl⟩:∃ f',f=f'+1:=⟨f - 1,by omega⟩;have hy:=HY.out;have hp:=HP.out;rw [iB f' y hlt] at hp
   have hf':1<=f':=by
    rcases Nat.eq_zero_or_pos f' with h | h
    ·subst h;simp at hy;omega
    ·exact h
   have jE:y / 128<2*128 ^ (f' - 1):=by
    rw [Nat.add_sub_cancel,show f'=(f' - 1)+1 by omega,Nat.pow_succ] at hy;omega
   have IB:(pre++[(y:Int) % 128+128])++lf f' (y / 128)=zs++ah x:=by rw [<- hp];simp
   have Qo:Hid ((pre++[(y:Int) % 128+128])++lf f' (y / 128)=zs++ah x):=IB;have De:Hid (y / 128<2*128 ^ (f' - 1)):=jE
   have H1:Hid (w1.ownsRow w.heap.size 5 1 v' (pre++[(y:Int) % 128+128]).length ((pre++[(y:Int) % 128+128]).map (Value.int .u8))):=by
    show w1.ownsRow _ _ _ _ _ _
    simpa using h1
   clear hp IB hy jE HP HY h1 h2 hown;go_wp2;go_roundw
   case rel=>exact ⟨f',y / 128,pre++[(y:Int) % 128+128],hf',by omega,De.out,by go_num,by omega,Qo.out,H1.out,hg2⟩
   case measure=>simp [intOf];omega
theorem Gb.put{w:World}{v:Value}{n:Nat}(hl:zs.length=n)(ho:w'.ownsRow wr.heap.size 5 1 v n (zs.map (Value.int .u8)))(hw:w.grownBy wr none)(hg:wr.grownBy w' none):Gb w w' wr.heap.size v zs :=
 ⟨by rw [hl];exact ho,gQ hw hg,hw.size,hg.size⟩
theorem xj{w1:World}{o:Obj}(hg:w.grownBy wr none)(hown:wr.ownsRow base 5 1 v n xs)(hb:w.heap.size<=base)(h:(wr.alloc o).grownBy w1 v.ownBlock):w.grownBy w1 none:=bO hg hown hb h
theorem qM (ao:Option Addr)(n c:Nat)(bo:Option Addr)(m d:Nat)(s f:Int)(p:Nat)(x:It)(w:World)(hk:ai w ao n c x.key)(hv:ai w bo m d x.val)(hs:x.size=s)(hf:x.first=f)(h1:ws x=false)(h2:wv x=false)(hib:Qy x)(hp:p<=n) :
  Calls Tryz.prog 112 #[.agg #[.slice ao n c,.slice bo m d,.int .i64 s,.int .i64 f],.int .i64 p] w fun en w'=>∃ eX cap',en=.returned (.slice eX (cb p x).length cap')/\ai w' eX (cb p x).length cap' (cb p x)/\w.grownBy w' none/\(∀ ad,eX=some ad->w.heap.size<=ad.block):=by
 obtain ⟨a1,a2,a3,a4⟩:=cQ h1;have hlk:=hk.len;have hlv:=hv.len;have hkb:=hib.key;have dZ:=hib.val;have htt:=AH s;obtain ⟨r,hr⟩:∃ r,n - p=r:=⟨_,rfl⟩;have hr':(n:Int) - (p:Int)=(r:Int):=by omega
 have hvl:=nJ h2;rw [hs,hf] at hvl;have Ed:Hid (cb p x=ah r++(x.key.drop p++(ah (tg s)++(if 512<s then lb 4 f.toNat else x.val)))):=by show _=_;unfold cb;rw [hlk,hr,hs,hf]
 have ga:=World.grownBy_alloc w (.cells #[.slice ao n c,.slice bo m d,.int .i64 s,.int .i64 f] 63) none;have G1:=hJ ga;have K1:=hJ (hk.ae ga);have V1:=hJ (hv.ae ga);have X1:=hJ (Bx.new w (.slice ao n c) (.slice bo m d) (.int .i64 s) (.int .i64 f));have hn5:n<=255:=by omega
 have ZP:=hJ ga;clear ga hk hv hr;go_enter Tryz.func112,Tryz.ntmps112
 go_wp2_with fail
 generalize w.alloc (.cells #[.slice ao n c,.slice bo m d,.int .i64 s,.int .i64 f] 63)=w1 at *;generalize hT:w.heap.size=T at *;have HT:=hJ hT;clear hT;have YO:(ah r).length<=10:=eI r;refine (fT none 0 0 [] r _ (ai.empty _) (by omega) (by omega)).mono ?_;rintro en w2 ⟨Ac,c2,rfl,Nq,hg2,hs2⟩;have B2:=hJ (Gb.put (w:=w) (n:=0+(ah r).length) (by simp) Nq G1.out hg2);have K2:=hJ (K1.out.ae hg2);have V2:=hJ (V1.out.ae hg2);have ZX:=hJ hg2;clear Nq hg2 hs2 K2 V2;rw [Nat.zero_add] at *;rw [List.nil_append] at B2;have HR:Hid (x.key.length - p=r):=by show _=_;omega
 have G2:Hid (w1.grownBy w2 none):=ZX.out;clear ZX;generalize ah r=A at *;go_wp2;go_loopw [5,6] (fun so si wr=>∃ (i base:Nat),w1.heap.size<=base/\p<=i/\i<=n/\si=.int .i64 i/\Gb w wr base so (A++(x.key.drop p).take (i - p))/\w1.grownBy wr none) (fun _ si _=>n - (intOf si).toNat)
 case atStart=>exact ⟨p,w1.heap.size,Nat.le_refl _,Nat.le_refl _,hp,rfl,by rw [Nat.sub_self,List.take_zero,List.append_nil];exact B2.out,G2.out⟩
 case round =>
  obtain ⟨i,base,ru,jN,QR,rfl,hgb,hgr⟩:=hrel;have dF:=hJ hgb;have fA:=hJ hgr;clear hgb hgr B2 G2;obtain ⟨x0,x1,x2,x3⟩:=(Bx.kept X1.out fA.out (by simp)).cells
  by_cases hlt:i<n
  ·obtain ⟨kb,ko,rfl,_,hkc⟩:=K1.out.at (by omega)
   have ck:=fA.out.cell (hkc i hlt) (by simp);have vI:=Eo (zs:=x.key) jN (by omega);have hz:0<=x.key.getD i 0/\x.key.getD i 0<=255:=hkb.getD i;generalize x.key.getD i 0=z at *;obtain ⟨Z,hZ⟩:∃ Z,A++(x.key.drop p).take (i - p)=Z:=⟨_,rfl⟩;have HN:Hid (A++(x.key.drop p).take (i+1 - p)=Z++[z]):=by show _=_;rw [vI,<- hZ,List.append_assoc]
   have hzl:Z.length<=300:=by rw [<- hZ,List.length_append,List.length_take];omega
   rw [hZ] at dF;clear hZ vI hkc;have hle:=dF.out.le.2
   go_wp2_with (at_builtin;refine aq rfl _ _ rfl base _ Z.length Z rfl (dF.out.own.alloc _) (some ⟨wr.heap.size,0,none⟩) 1 1 [z] rfl (ai.lit wr 5 _ [z] 1 rfl rfl) (by omega) (by simp;omega) ?_)
   intro v' w3 lZ hg3;have hg4:=xj fA.out dF.out.own ru hg3;have GB3:=hJ (dF.out.app _ (by simpa using lZ) hg3);have GR3:=hJ hg4;clear lZ hg3 hg4 dF fA x0 x1 x2 x3 ck;go_wp2;go_roundw
   case rel=>exact ⟨i+1,base,ru,by omega,by omega,by go_num,by rw [HN.out];exact GB3.out,GR3.out⟩
   case measure=>simp [intOf];omega
  ·have hin:n=i:=by omega
   subst hin;have e9:(x.key.drop p).take (n - p)=x.key.drop p:=List.take_of_length_le (by rw [List.length_drop];omega);rw [e9] at dF;clear e9;have ZU:Hid ((A++x.key.drop p).length<=300):=by show _<=_;rw [List.length_append,List.length_drop];omega
   generalize hZ:A++x.key.drop p=Z at *;have HZ:=hJ hZ;clear hZ;obtain ⟨ca,cc,e9,hbz⟩:=dF.out.AL;subst e9;have BZ:=hJ hbz;have hzl:Z.length<=300:=ZU.out;clear hbz dF ZU
   go_wp2_with fail
   refine (ud s _).mono ?_;rintro en w4 ⟨rfl,rfl⟩
   go_wp2_with fail
   refine (fT ca Z.length cc Z (tg s) _ BZ.out (by omega) (by omega)).mono ?_;rintro en w5 ⟨ao5,c5,rfl,Ut,aK,_⟩;have hv2:(ah (tg s)).length<=10:=eI _;have ZY:=hJ (Gb.put (w:=w) (n:=Z.length+(ah (tg s)).length) (by rw [List.length_append]) Ut (gQ ZP.out fA.out) aK);have ZZ:=hJ (gQ fA.out aK);have S5:=hJ fA.out.size;have G5s:=hJ (gQ ZP.out (gQ fA.out aK)).size;clear Ut aK BZ fA x0 x1 x2 x3;rw [<- List.length_append] at ZY ⊢;generalize hY:Z++ah (tg s)=Y at *;have HY:=hJ hY;have Uu:Y.length<=310:=by rw [<- hY,List.length_append];omega
   clear hY;obtain ⟨x0,x1,x2,x3⟩:=(Bx.kept X1.out ZZ.out (by simp)).cells
   by_cases h5:512<s
   ·rw [if_pos h5] at Ed
    obtain ⟨fn,hfn⟩:∃ fn:Nat,f=(fn:Int):=⟨f.toNat,by omega⟩;subst hfn;obtain ⟨ca6,cc6,e6,jF⟩:=ZY.out.AL;injection e6 with e61 e62 e63
    subst e61 e63;have B6:=hJ jF;clear jF e62 ZY
    go_wp2_with fail
    refine (dA ao5 Y.length c5 Y fn 4 _ B6.out (by omega) (by omega) (by omega)).mono ?_;rintro en w7 ⟨ao7,c7,rfl,Dj,cG,_⟩;have G7:=hJ (gQ ZP.out (gQ ZZ.out cG));have e7:cb p x=Y++lb 4 fn:=by rw [Ed.out,Int.toNat_natCast,<- HY.out,<- HZ.out];simp only [List.append_assoc]
    have hl7:Y.length+4=(cb p x).length:=by rw [e7,List.length_append,aL]
    rw [hl7,<- e7] at Dj;rw [hl7];obtain ⟨ca8,Wd,e8,ig⟩:=aY Dj;injection e8 with e81 e82 e83
    subst e81 e83;have B8:=hJ ig;have N8:=hJ (fun ad (e:ao7=some ad)=>Nat.le_trans G5s.out (Dj.lt ad.block (by rw [e];rfl)).1);clear Dj cG ig e82 e7 hl7 B6 ZZ x0 x1 x2 x3;go_wp2;go_ret;exact ⟨_,_,rfl,B8.out,G7.out,N8.out⟩
   ·rw [if_neg h5] at Ed
    have MH:m<=512:=by omega
    go_wp2;go_loopw [5,7] (fun so si wr=>∃ (j base:Nat),w1.heap.size<=base/\j<=m/\si=.int .i64 j/\Gb w wr base so (Y++x.val.take j)/\w1.grownBy wr none) (fun _ si _=>m - (intOf si).toNat)
    case atStart=>exact ⟨0,_,S5.out,Nat.zero_le _,rfl,by rw [List.take_zero,List.append_nil];exact ZY.out,ZZ.out⟩
    case round =>
     obtain ⟨j,BG,aaa,hj,rfl,hgb,hgr⟩:=hrel;have dF:=hJ hgb;have fA:=hJ hgr;clear hgb hgr ZY ZZ x0 x1 x2 x3;obtain ⟨x0,x1,x2,x3⟩:=(Bx.kept X1.out fA.out (by simp)).cells
     by_cases BF:j<m
     ·obtain ⟨vb,vo,rfl,_,hvc⟩:=V1.out.at (by omega)
      have cv:=fA.out.cell (hvc j BF) (by simp);have vI:=lD (zs:=x.val) (i:=j) (by omega);have hz:0<=x.val.getD j 0/\x.val.getD j 0<=255:=dZ.getD j;generalize x.val.getD j 0=z at *;obtain ⟨Z2,Uv⟩:∃ Z2,Y++x.val.take j=Z2:=⟨_,rfl⟩;have HN:Hid (Y++x.val.take (j+1)=Z2++[z]):=by show _=_;rw [vI,<- Uv,List.append_assoc]
      have aj4:Z2.length<=900:=by rw [<- Uv,List.length_append,List.length_take];omega
      rw [Uv] at dF;clear Uv vI hvc;have hle:=dF.out.le.2
      go_wp2_with (at_builtin;refine aq rfl _ _ rfl BG _ Z2.length Z2 rfl (dF.out.own.alloc _) (some ⟨wr.heap.size,0,none⟩) 1 1 [z] rfl (ai.lit wr 5 _ [z] 1 rfl rfl) (by omega) (by simp;omega) ?_)
      intro v' w3 lZ hg3;have hg4:=xj fA.out dF.out.own aaa hg3;have GB3:=hJ (dF.out.app _ (by simpa using lZ) hg3);have GR3:=hJ hg4;clear lZ hg3 hg4 dF fA x0 x1 x2 x3 cv;go_wp2;go_roundw
      case rel=>exact ⟨j+1,BG,aaa,by omega,by go_num,by rw [HN.out];exact GB3.out,GR3.out⟩
      case measure=>simp [intOf];omega
     ·have hjm:m=j:=by omega
      subst hjm;have e7:Y++x.val.take m=cb p x:=by rw [List.take_of_length_le (by omega),Ed.out,<- HY.out,<- HZ.out];simp only [List.append_assoc]
      rw [e7] at dF;obtain ⟨ca8,Wd,e8,ig⟩:=dF.out.AL;subst e8;have B8:=hJ ig;have G8:=hJ dF.out.gr;have N8:=hJ (fun ad (e:ca8=some ad)=>Nat.le_trans dF.out.le.1 (dF.out.own.lt ad.block (by rw [e];rfl)).1);clear ig dF e7;go_wp2;go_ret;exact ⟨_,_,rfl,B8.out,G8.out,N8.out⟩
theorem Uw (zs:List Int)(s:Nat × Int):s.1<=(sV zs s).2.1:=by
 unfold sV
 split
 ·split
  ·simp
  ·exact Nat.le_refl _
 ·exact Nat.le_refl _
theorem Ux (zs:List Int)(s:Nat × Int)(m:Int):s.1+(sB zs s m).1.length<=(sB zs s m).2.1:=by
 unfold sB
 split
 ·split
  ·simp
  ·simp only [List.length_take,List.length_drop]
   omega
 ·simp
theorem aac (zs:List Int)(s:Nat × Int)(k:Nat):s.1<=(sN zs s k).2.1:=by
 unfold sN
 split
 ·split
  ·exact Nat.le_refl _
  ·simp
 ·exact Nat.le_refl _
theorem QS (zs P:List Int)(s:Nat × Int):s.1<=(aU zs P s).2.1:=by
 have h1:=Uw zs s;have h2:=Ux zs (sV zs s).2 (i64 (sV zs s).1);unfold aU;simp only;omega
structure Uy (w:World)(R G lo p0 p1 g n:Nat)(bo:Option Addr)(m p:Nat)(x:It):Prop where
 key:Rw w g x.key
 kn:x.key.length=n
 kc:n<=10000
 val:ai w bo m m x.val
 vc:m<=5000
 kb:g≠R/\g≠G/\lo<=g
 vb:0<m->bo=some ⟨G,p,none⟩
 gu:U8 w G/\G≠R
 vp:p0<=p/\p+m<=p1
theorem Uy.kept {R G:Nat}{x:It}{row:Option Nat}(h:Uy w R G lo p0 p1 g n bo m p x)(hg:w.grownBy w' row)(hne:∀ b,b≠R->U8 w b->some b≠row):Uy w' R G lo p0 p1 g n bo m p x :=
 ⟨h.key.kept hg (hne g h.kb.1 h.key.u8),h.kn,h.kc,h.val.kept hg (fun ad e hn=>by have:=h.vb hn;rw [e] at this;obtain rfl:=Option.some.inj this;exact hne G h.gu.2 h.gu.1),h.vc,h.kb,h.vb,⟨h.gu.1.kept hg (hne G h.gu.2 h.gu.1),h.gu.2⟩,h.vp⟩
structure mL (w:World)(R G lo pos:Nat)(xs:List Value)(L:List It)(kg kn vp vm:Nat->Nat):Prop where
 len:xs.length=L.length*4
 el:∀ j,j<L.length->∃ bo,xs[j*4]?=some (.slice (some ⟨kg j,0,none⟩) (kn j) (kn j))/\xs[j*4+1]?=some (.slice bo (vm j) (vm j))/\xs[j*4+2]?=some (.int .i64 (L.getD j aG).size)/\xs[j*4+3]?=some (.int .i64 (L.getD j aG).first)/\Uy w R G lo 0 pos (kg j) (kn j) bo (vm j) (vp j) (L.getD j aG)
 kd:∀ i j,i<j->j<L.length->kg i<kg j
 vd:∀ i j,i<j->j<L.length->vp i+vm i<=vp j
theorem mL.nil (w:World)(R G lo pos:Nat):mL w R G lo pos [] [] (fun _=>0) (fun _=>0) (fun _=>0) (fun _=>0):=⟨rfl,fun j hj=>by simp at hj,fun i j _ hj=>by simp at hj,fun i j _ hj=>by simp at hj⟩
theorem mL.kept {R G:Nat}{L:List It}{row:Option Nat}(h:mL w R G lo pos xs L kg kn vp vm)(hg:w.grownBy w' row)(hne:∀ b,b≠R->U8 w b->some b≠row):mL w' R G lo pos xs L kg kn vp vm:=by
 refine ⟨h.len,fun j hj=>?_,h.kd,h.vd⟩;obtain ⟨bo,h1,h2,h3,h4,h5⟩:=h.el j hj;exact ⟨bo,h1,h2,h3,h4,h5.kept hg hne⟩
theorem mL.snoc {L:List It}{x:It}(h:mL w R G lo pos xs L kg kn vp vm)(hx:Uy w R G XW p0 p1 g n bo m p x)(hlo:lo<=XW)(hnew:∀ j,j<L.length->kg j<XW)(hp:pos<=p0)(s f:Int)(hs:x.size=s)(hf:x.first=f) :
  mL w R G lo p1 (xs++[.slice (some ⟨g,0,none⟩) n n,.slice bo m m,.int .i64 s,.int .i64 f]) (L++[x]) (fun j=>if j=L.length then g else kg j) (fun j=>if j=L.length then n else kn j) (fun j=>if j=L.length then p else vp j) (fun j=>if j=L.length then m else vm j):=by
 have hl:=h.len;have hk:=hx.kb;have hv:=hx.vp;refine ⟨by simp [hl];omega,fun j hj=>?_,fun i j hij hj=>?_,fun i j hij hj=>?_⟩
 ·rw [List.length_append] at hj
  simp only [List.length_cons,List.length_nil] at hj
  by_cases e:j<L.length
  ·obtain ⟨b2,h1,h2,h3,h4,h5⟩:=h.el j e
   have eg:(L++[x]).getD j aG=L.getD j aG:=by simp [List.getD,List.getElem?_append_left e]
   have ne:¬ j=L.length:=by omega
   rw [eg];simp only [if_neg ne];refine ⟨b2,?_,?_,?_,?_,⟨h5.key,h5.kn,h5.kc,h5.val,h5.vc,h5.kb,h5.vb,h5.gu,⟨Nat.zero_le _,by have:=h5.vp.2;omega⟩⟩⟩
   ·rw [List.getElem?_append_left (by omega)];exact h1
   ·rw [List.getElem?_append_left (by omega)];exact h2
   ·rw [List.getElem?_append_left (by omega)];exact h3
   ·rw [List.getElem?_append_left (by omega)];exact h4
  ·obtain rfl:j=L.length:=by omega
   have eg:(L++[x]).getD L.length aG=x:=by simp [List.getD]
   rw [eg];simp only [if_true];refine ⟨bo,?_,?_,?_,?_,⟨hx.key,hx.kn,hx.kc,hx.val,hx.vc,⟨hk.1,hk.2.1,by omega⟩,hx.vb,hx.gu,⟨Nat.zero_le _,hv.2⟩⟩⟩
   ·rw [List.getElem?_append_right (by omega)];simp [hl]
   ·rw [List.getElem?_append_right (by omega),show L.length*4+1 - xs.length=1 by omega];simp
   ·rw [List.getElem?_append_right (by omega),show L.length*4+2 - xs.length=2 by omega];simp [hs]
   ·rw [List.getElem?_append_right (by omega),show L.length*4+3 - xs.length=3 by omega];simp [hf]
 ·rw [List.length_append] at hj
  simp only [List.length_cons,List.length_nil] at hj;have ni:¬ i=L.length:=by omega
  simp only [if_neg ni]
  by_cases e:j=L.length
  ·simp only [if_pos e]
   have:=hnew i (by omega);omega
  ·simp only [if_neg e]
   exact h.kd i j hij (by omega)
 ·rw [List.length_append] at hj
  simp only [List.length_cons,List.length_nil] at hj;have ni:¬ i=L.length:=by omega
  simp only [if_neg ni]
  by_cases e:j=L.length
  ·simp only [if_pos e]
   obtain ⟨_,_,_,_,_,h5⟩:=h.el i (by omega);have:=h5.vp.2;omega
  ·simp only [if_neg e]
   exact h.vd i j hij (by omega)
theorem Nr (Q R G:Nat)(zs:List Int)(s:Nat × Int)(po:Option Addr)(pn pc:Nat)(P:List Int)(w:World)(hq:Lr w Q R po pn pc)(h:Rd w R G zs s.1 s.2)(bp:Bt zs)(hP:ai w po pn pc P)(ZG:∀ ad,po=some ad->0<pn->ad.block≠R)(wh:Q≠R)(wj:pn<=5000)(hz:zs.length<=5000) :
  Calls Tryz.prog 240 #[.pointer (some ⟨Q,0,none⟩)] w fun en w'=>(∃ g n bo m p,en=.returned (.agg #[.slice (some ⟨g,0,none⟩) n n,.slice bo m m,.int .i64 (dK zs P s).1.size,.int .i64 (dK zs P s).1.first])/\Uy w' R G w.heap.size s.1 (dK zs P s).2.1 g n bo m p (dK zs P s).1)/\Rd w' R G zs (dK zs P s).2.1 (dK zs P s).2.2/\w.grownBy w' (some R):=by
 have HQ:=hJ hq;have HR:=hJ h;have HP:=hJ hP;have hRl:=h.lt.1;have HRL:=hJ hRl;clear hq h hP hRl;have HI:Hid (dK zs P s=tK zs (aU zs P s).1 (sV zs (aU zs P s).2)):=rfl;have ga:=World.grownBy_alloc w (.cells #[.slice none 0 0,.slice none 0 0,.int .i64 0,.int .i64 0] 63) none;have HKc:=hJ (QG Q R G zs s po pn pc P _ (HQ.out.kept ga (by simp)) (HR.out.kept ga (by simp) (by simp)) bp (HP.out.ae ga) ZG wh wj hz);clear ga;go_enter Tryz.func240,Tryz.ntmps240
 go_wp2_with fail
 refine HKc.out.mono ?_;rintro en w2 ⟨⟨g,k,rfl,hr2,hk2,hg2,hkk⟩,XY,We⟩;have hwg:w.heap.size<g:=by simp at hg2;omega
 have U2:=hJ ((Bx.new w (.slice none 0 0) (.slice none 0 0) (.int .i64 0) (.int .i64 0)).kept We (fun e=>by have:=Option.some.inj e;have:=HRL.out;omega));have W2:=hJ (gQ (bL (row:=some R) (World.grownBy_alloc w (.cells #[.slice none 0 0,.slice none 0 0,.int .i64 0,.int .i64 0] 63) none)) We);have Q2:=hJ (HQ.out.kept W2.out (fun e=>wh (Option.some.inj e)));have K2:=hJ hr2;have D2:=hJ XY;have mM:=hJ (fun (W:World) (hW:Rd W R G zs (aU zs P s).2.1 (aU zs P s).2.2)=>QF R G zs (aU zs P s).2 W hW bp);have hvl:=Bh zs (aU zs P s).2 bp;have HB:=hJ (fun (W:World) (hW:Rd W R G zs (sV zs (aU zs P s).2).2.1 (sV zs (aU zs P s).2).2.2)=>yh R G zs (sV zs (aU zs P s).2).2 ((sV zs (aU zs P s).2).1 / 2:Nat) W hW);have HN:=hJ (fun (W:World) (hW:Rd W R G zs (sV zs (aU zs P s).2).2.1 (sV zs (aU zs P s).2).2.2)=>MP R G zs (sV zs (aU zs P s).2).2 W hW bp);have Wf:=tU zs (sV zs (aU zs P s).2).2 4 bp;have HV:Hid (tK zs (aU zs P s).1 (sV zs (aU zs P s).2)=if (sV zs (aU zs P s).2).1 % 2=1 then (⟨(aU zs P s).1,[],((sV zs (aU zs P s).2).1 / 2:Nat),((sN zs (sV zs (aU zs P s).2).2 4).1:Nat)⟩,(sN zs (sV zs (aU zs P s).2).2 4).2) else (⟨(aU zs P s).1,(sB zs (sV zs (aU zs P s).2).2 ((sV zs (aU zs P s).2).1 / 2:Nat)).1,((sV zs (aU zs P s).2).1 / 2:Nat),0⟩,(sB zs (sV zs (aU zs P s).2).2 ((sV zs (aU zs P s).2).1 / 2:Nat)).2)):=rfl;have Ur:=hJ hk2;have aee:R<w2.heap.size:=XY.lt.1;have aef:G<w2.heap.size:=XY.lt.2;have aeg:Q<w2.heap.size:=Q2.out.lt;have hUl:=U2.out.lt;have GH:=hr2.lt;have HUg:Hid (w.heap.size≠g):=fun e=>by omega
 have hRU:w.heap.size≠R:=by have:=HRL.out;omega
 have Wh:=hJ HR.out.lt.2;have hGU:w.heap.size≠G:=by have:=Wh.out;omega
 clear hr2 hk2 XY We HKc hg2;have U1:=hJ (Nat.le_trans (QS zs P s) (Uw zs (aU zs P s).2));have Ad:=hJ (aac zs (sV zs (aU zs P s).2).2 4);have U3':=hJ (Ux zs (sV zs (aU zs P s).2).2 ((sV zs (aU zs P s).2).1 / 2:Nat));have HWG:=hJ hwg;have XZ:=hJ hkk;generalize (aU zs P s).1=Ky at *;generalize (aU zs P s).2=s2 at *;generalize (sV zs s2).2=s3 at *;generalize (sV zs s2).1=tg1 at *;obtain ⟨qc0,_,_⟩:=Q2.out.cells;have gb:=World.grownBy_alloc w2 (.cells #[.slice (some ⟨g,0,none⟩) k k,.slice none 0 0,.int .i64 0,.int .i64 0] 63) none
 have F3:Hid (Fr w (w2.alloc (.cells #[.slice (some ⟨g,0,none⟩) k k,.slice none 0 0,.int .i64 0,.int .i64 0] 63)) Q R G w.heap.size w2.heap.size g po pn pc zs s2 Ky (.slice (some ⟨g,0,none⟩) k k) (.slice none 0 0) (.int .i64 0) (.int .i64 0)) :=
  ⟨D2.out.kept gb (by simp) (by simp),Q2.out.kept gb (by simp),U2.out.kept gb (by simp),Bx.new w2 _ _ _ _,K2.out.ae gb,gQ W2.out (bL gb),⟨by omega,by omega,by omega,by omega,by omega,W2.out.size⟩,⟨hRU,by have:=HRL.out;omega,wh⟩⟩
 obtain ⟨h2,hh2⟩:∃ h2:Nat,tg1 / 2=h2:=⟨_,rfl⟩;have hdiv:(tg1:Int) / 2=(h2:Int):=by omega
 rw [hh2] at HB HV U3';have hh3:h2<=9223372036854775807:=by omega
 clear hh2 gb D2 Q2 U2 W2 K2
 go_wp2_with fail
 clear qc0;generalize w2.alloc (.cells #[.slice (some ⟨g,0,none⟩) k k,.slice none 0 0,.int .i64 0,.int .i64 0] 63)=w3 at *;have hTl:w.heap.size<=w2.heap.size:=F3.out.hT.2.2.2.2.2;have DZ:=hJ hTl;clear hTl aee aef aeg hUl GH hwg;generalize w2.heap.size=T at *;refine (mM.out _ F3.out.rd).mono ?_;rintro en w4 ⟨rfl,hr4,hg4⟩;have F4:=hJ (F3.out.call hr4 hg4);clear hr4 hg4 F3;have f2:=F4.out.t.frozen 2;obtain ⟨t0,t1,t2,t3⟩:=F4.out.t.cells
 by_cases hod:tg1 % 2=1
 ·have aei:(tg1:Int) % 2=1:=by omega
  rw [if_pos hod] at HV;have qq:=(F4.out.frame (ay w4 T 2 (.int .i64 (h2:Int))) (F4.out.t.Bj _)).lr.cells.1;have F5:=hJ (F4.out.frame (ay w4 T 2 (.int .i64 (h2:Int))) (F4.out.t.Bj _))
  go_wp2_with fail
  generalize w4.setCell ⟨T,2,none⟩ (.int .i64 (h2:Int))=w5 at *;refine (HN.out _ F5.out.rd).mono ?_;rintro en w6 ⟨rfl,ku,bE⟩;have F6:=hJ (F5.out.call ku bE);clear ku bE F5 qq F4 t0 t1 t2 t3 f2;generalize (sN zs s3 4).1=fn at *;have hfn:fn<4294967296:=Wf;have f3:=F6.out.t.frozen 3;obtain ⟨t0,t1,t2,t3⟩:=F6.out.t.cells;have F7:=hJ (F6.out.frame (ay w6 T 3 (.int .i64 (fn:Int))) (F6.out.t.Bk _));obtain ⟨v0,v1,v2,v3⟩:=F7.out.t.cells;obtain ⟨y0,y1,y2,y3⟩:=F7.out.u.cells;have z0:=F7.out.u.frozen 0;have z1:=F7.out.u.frozen 1;have z2:=F7.out.u.frozen 2;have z3:=F7.out.u.frozen 3;have HD:=hJ (F7.out.done (Nat.le_refl _) hGU HUg.out);go_wp2;obtain ⟨d1,d2,d3,d4,d5⟩:=HD.out;refine bodyPost_ret (nU rfl _ _ w.heap.size _ _ _ _ rfl d1) rfl ?_;rw [HI.out,HV.out];have u1:=U1.out;have u2:=Ad.out;have wg:=HWG.out;have gl:=Wh.out;exact ⟨⟨g,k,none,0,s.1,rfl,⟨d4,Ur.out,XZ.out,ai.zero _ _,by omega,⟨F7.out.hR.2.1,by omega,by omega⟩,fun h=>by omega,⟨d3.u8,d3.ne⟩,⟨Nat.le_refl _,by show s.1+0<=(sN zs s3 4).2.1;omega⟩⟩⟩,d3,d5⟩
 ·have aei:(tg1:Int) % 2=0:=by omega
  rw [if_neg hod] at HV;have F5:=hJ (F4.out.frame (ay w4 T 2 (.int .i64 (h2:Int))) (F4.out.t.Bj _));obtain ⟨q0,_,_⟩:=F5.out.lr.cells;obtain ⟨x0,x1,x2,x3⟩:=F5.out.t.cells
  go_wp2_with fail
  clear t0 t1 t2 t3 f2;generalize w4.setCell ⟨T,2,none⟩ (.int .i64 (h2:Int))=w5 at *;clear F4
  go_region_with (go_at_call 211;refine (HB.out _ (by exact F5.out.drew.rd)).mono ?_;rintro en w6 ⟨⟨bo,m,rfl,jF,ZJ,hm6⟩,ku,bE⟩;have F6:=hJ (F5.out.drew.call ku bE);have f1:=F6.out.t.frozen 1;obtain ⟨t0,t1,t2,t3⟩:=F6.out.t.cells;obtain ⟨r0,_,_⟩:=F6.out.lr.cells)
  all_goals
   have F7:=hJ (F6.out.frame (ay w6 T 1 (.slice bo m m)) (F6.out.t.rI _));have B7:=hJ (jF.kept (ay w6 T 1 (.slice bo m m)) (fun ad e h e2=>by have:=ZJ h;rw [e] at this;obtain rfl:=Option.some.inj this;exact F6.out.hT.2.1 (Option.some.inj e2).symm));have HBO:=hJ ZJ;clear jF ZJ ku bE;obtain ⟨v0,v1,v2,v3⟩:=F7.out.t.cells;obtain ⟨y0,y1,y2,y3⟩:=F7.out.u.cells;have z0:=F7.out.u.frozen 0;have z1:=F7.out.u.frozen 1;have z2:=F7.out.u.frozen 2;have z3:=F7.out.u.frozen 3;have HD:=hJ (F7.out.done (Nat.le_refl _) hGU HUg.out);go_wp2;obtain ⟨d1,d2,d3,d4,d5⟩:=HD.out;refine bodyPost_ret (nU rfl _ _ w.heap.size _ _ _ _ rfl d1) rfl ?_;rw [HI.out,HV.out];have u1:=U1.out;have u3:=U3'.out;have wg:=HWG.out;have gl:=Wh.out;have bl:=B7.out.len;refine ⟨⟨g,k,bo,m,s3.1,rfl,⟨d4,Ur.out,XZ.out,B7.out.kept d2 (fun ad e h e2=>?_),by omega,⟨F7.out.hR.2.1,by omega,by omega⟩,HBO.out,⟨d3.u8,d3.ne⟩,⟨u1,by show s3.1+m<=(sB zs s3 (h2:Nat)).2.1;omega⟩⟩⟩,d3,d5⟩
   ·have h9:=HBO.out h
    rw [e] at h9;obtain rfl:=Option.some.inj h9;exact hGU (Option.some.inj e2).symm
structure LK (w wr:World)(Q R G base N:Nat)(po:Option Addr)(pn:Nat)(zs P:List Int)(i:Nat)(st:Nat × Int)(L:List It)(v:Value)(xs:List Value)(pos:Nat):Prop where
 rd:Rd wr R G zs st.1 st.2
 lr:Lr wr Q R po pn pn
 pb:ai wr po pn pn P
 own:wr.ownsRow base 63 4 v i xs
 iv:∃ kg kn vp vm,mL wr R G w.heap.size pos xs L kg kn vp vm
 two:Two w wr R Q
 far:Q<base/\R<base/\G<base/\Q≠R/\w.heap.size<=base/\base<=wr.heap.size
 pg:∀ ad,po=some ad->0<pn->ad.block=G
 len:L.length=i
 u8:U8 wr G
theorem LK.call {Bl:Nat × Int}{L:List It}(h:LK w wr Q R G base N po pn zs P i st L v xs pos)(hr:Rd w' R G zs Bl.1 Bl.2)(hg:wr.grownBy w' (some R)):LK w w' Q R G base N po pn zs P i Bl L v xs pos:=by
 have hne:v.ownBlock≠some R:=fun e=>by have:=(h.own.lt R e).1;have:=h.far.2.1;omega
 exact ⟨hr,h.lr.kept hg (fun e=>h.far.2.2.2.1 (Option.some.inj e)),h.pb.kept hg (fun ad e hn e2=>by have:=h.pg ad e hn;have:=Option.some.inj e2;have:=h.rd.ne;omega),h.own.kept hg (.inr hne),(by obtain ⟨kg,kn,vp,vm,hv⟩:=h.iv;exact ⟨kg,kn,vp,vm,hv.kept hg (fun b hb _ e=>hb (Option.some.inj e))⟩),h.two.tV hg (fun k e=>by have:=Option.some.inj e;omega),⟨h.far.1,h.far.2.1,h.far.2.2.1,h.far.2.2.2.1,h.far.2.2.2.2.1,Nat.le_trans h.far.2.2.2.2.2 hg.size⟩,h.pg,h.len,h.u8.kept hg (fun e=>h.rd.ne (Option.some.inj e))⟩
theorem LK.ae {R G base:Nat}{L:List It}(h:LK w wr Q R G base N po pn zs P i st L v xs pos)(hg:wr.grownBy w' none):LK w w' Q R G base N po pn zs P i st L v xs pos :=
 h.call (h.rd.kept hg (by simp) (by simp)) (bL hg)
theorem LK.app {L:List It}{x:It}(h:LK w wr Q R G base N po pn zs P i st L v xs pos)(hx:Uy wr R G XW p0 p1 g n bo m p x)(hpos:pos<=p0)(hlo:w.heap.size<=XW)(hnew:∃ kg kn vp vm,mL wr R G w.heap.size pos xs L kg kn vp vm/\∀ j,j<L.length->kg j<XW)
  (ho:w'.ownsRow base 63 4 v' (i+1) (xs++[.slice (some ⟨g,0,none⟩) n n,.slice bo m m,.int .i64 x.size,.int .i64 x.first])) (hg:wr.grownBy w' v.ownBlock):LK w w' Q R G base N po pn zs P (i+1) st (L++[x]) v' (xs++[.slice (some ⟨g,0,none⟩) n n,.slice bo m m,.int .i64 x.size,.int .i64 x.first]) p1:=by
 have hb:∀ k,k<base->some k≠v.ownBlock:=fun k hk e=>by have:=(h.own.lt k e.symm).1;omega
 have hne:∀ b,b≠R->U8 wr b->some b≠v.ownBlock:=fun b _ hu=>qI h.own b hu
 exact ⟨h.rd.kept hg (hb R h.far.2.1) (hb G h.far.2.2.1),h.lr.kept hg (hb Q h.far.1),h.pb.kept hg (fun ad e hn=>by rw [h.pg ad e hn];exact hb G h.far.2.2.1),ho,(by obtain ⟨kg,kn,vp,vm,hv,hw⟩:=hnew;exact ⟨_,_,_,_,(hv.kept hg hne).snoc (hx.kept hg hne) hlo hw hpos _ _ rfl rfl⟩),
  h.two.tV hg (fun k e=>by have:=(h.own.lt k e).1;have:=h.far.2.2.2.2.1;omega),⟨h.far.1,h.far.2.1,h.far.2.2.1,h.far.2.2.2.1,h.far.2.2.2.2.1,Nat.le_trans h.far.2.2.2.2.2 hg.size⟩,h.pg,by simp [h.len],h.u8.kept hg (hb G h.far.2.2.1)⟩
theorem Jo (Q R G:Nat)(zs:List Int)(w:World)(hq:Lr w Q R none 0 0)(h:Rd w R G zs 0 0)(bp:Bt zs)(wh:Q≠R)(hQG:Q≠G)(hz:zs.length<=5000) :
  Calls Tryz.prog 200 #[.pointer (some ⟨Q,0,none⟩)] w fun en w'=>(∃ v n base xs kg kn vp vm pos,en=.returned v/\(parse zs).length=n/\w.heap.size<=base/\w'.ownsRow base 63 4 v n xs/\mL w' R G w.heap.size pos xs (parse zs) kg kn vp vm)/\Two w w' R Q:=by
 obtain ⟨i0,hi,hz0,hz1,hz2⟩:=info_parts pT;have HQ:=hJ hq;have Ya:Hid (parse zs=ij zs (sB zs (sV zs (sN zs (sB zs (0,0) 1).2 2).2).2 (i64 (sV zs (sN zs (sB zs (0,0) 1).2 2).2).1)).1 (sN zs (sB zs (0,0) 1).2 2).1 (sB zs (sB zs (sV zs (sN zs (sB zs (0,0) 1).2 2).2).2 (i64 (sV zs (sN zs (sB zs (0,0) 1).2 2).2).1)).2 ((2*(sN zs (sB zs (0,0) 1).2 2).1:Nat):Int)).2 []):=rfl;obtain ⟨c0,c1,f1⟩:=hq.cells;have H1:=hJ (yh R G zs (0,0) 1 w h);have hRl:=h.lt.1;have ZK:=h.lt.2;have hQl:=hq.lt;have eT:=hJ h.ne;clear h hq;go_enter Tryz.func200,Tryz.ntmps200
 go_wp2_with fail
 refine H1.out.mono ?_;rintro en w1 ⟨⟨ao,k,rfl,_,_,_⟩,hr1,hg1⟩;have D1:=hJ hr1;have G1:=hJ hg1;have Q1:=hJ (HQ.out.kept hg1 (fun e=>wh (Option.some.inj e)));clear hr1 hg1 H1 c0 c1 f1;generalize (sB zs (0,0) 1).2=s1 at *;have Wf:=tU zs s1 2 bp;have H2:=hJ (Uk R G zs s1 _ D1.out bp);obtain ⟨c0,c1,f1⟩:=Q1.out.cells
 go_wp2_with fail
 refine H2.out.mono ?_;rintro en w2 ⟨rfl,hr2,hg2⟩;have D2:=hJ hr2;have G2:=hJ (gQ G1.out hg2);have Q2:=hJ (Q1.out.kept hg2 (fun e=>wh (Option.some.inj e)));clear hr2 hg2 H2 c0 c1 f1 D1 G1 Q1;generalize (sN zs s1 2).2=s2 at *;generalize (sN zs s1 2).1=N at *;have hN:N<65536:=Wf;have HV:=hJ (fun (W:World) (hW:Rd W R G zs s2.1 s2.2)=>QF R G zs s2 W hW bp);have hvl:=Bh zs s2 bp;have hwr:=tS hvl;generalize (sV zs s2).2=s3 at *;generalize (sV zs s2).1=x at *;generalize i64 x=m at *;have HB:=hJ (fun (W:World) (hW:Rd W R G zs s3.1 s3.2)=>yh R G zs s3 m W hW);generalize (sB zs s3 m).2=s4 at *;generalize (sB zs s3 m).1=P at *;have LI:=hJ (fun (W:World) (hW:Rd W R G zs s4.1 s4.2)=>yh R G zs s4 ((2*N:Nat):Int) W hW);generalize (sB zs s4 ((2*N:Nat):Int)).2=s5 at *;obtain ⟨c0,c1,f1⟩:=Q2.out.cells;clear Wf
 go_wp2_with fail
 go_region_with (first
  | (go_at_call 239;refine (HV.out _ (by exact D2.out.kept ((Qt.refl w2).drew.grown none) (by simp) (by simp))).mono ?_;rintro en w3 ⟨rfl,hr3,hg3⟩;have d0:=hg3.cell (by exact c0) (by intro e;exact wh (Option.some.inj e));have d1:=hg3.cell (by exact c1) (by intro e;exact wh (Option.some.inj e)))
  | (go_at_call 211;refine (HB.out _ hr3).mono ?_;rintro en w4 ⟨⟨po,pn,rfl,hb4,hao,hk⟩,hr4,hg4⟩;have e0:=hg4.cell d0 (by intro e;exact wh (Option.some.inj e));have e1:=hg4.cell d1 (by intro e;exact wh (Option.some.inj e));have ef:=(Q2.out.kept (gQ (gQ ((Qt.refl w2).drew.grown (some R)) hg3) hg4) (fun e=>wh (Option.some.inj e))).cells.2.2))
 all_goals
  have uf:=gQ (gQ ((Qt.refl w2).drew.grown (some R)) hg3) hg4;have hgc:=ay w4 Q 1 (.slice po pn pn);have Q5:=hJ ((Q2.out.kept uf (fun e=>wh (Option.some.inj e))).set po pn pn);have D5:=hJ (hr4.kept hgc (fun e=>wh (Option.some.inj e).symm) (fun e=>hQG (Option.some.inj e).symm));have B5:=hJ (hb4.kept hgc (fun ad e h e2=>by have h9:=hao h;rw [e] at h9;obtain rfl:=Option.some.inj h9;exact hQG (Option.some.inj e2).symm));have T0:Two w w R Q:=⟨rfl,rfl,rfl,Nat.le_refl _,fun _ _ _ _=>rfl⟩;have T5:=hJ ((T0.tV (gQ G2.out uf) (fun k e=>.inl (Option.some.inj e).symm)).tV hgc (fun k e=>.inr (.inl (Option.some.inj e).symm)));have sJ:=hJ hao;clear uf hgc T0 hr3 hr4 hb4 hao hg3 hg4 d0 d1 e0 e1 ef G2 Q2 D2 HV HB c0 c1 f1;generalize w4.setCell ⟨Q,1,none⟩ (.slice po pn pn)=w5 at *;obtain ⟨c0,c1,f1⟩:=Q5.out.cells;have H6:=hJ (LI.out _ D5.out);clear LI;have hcast:((2*N:Nat):Int)=2*(N:Int):=by omega
  rw [hcast] at H6
  go_wp2_with fail
  refine H6.out.mono ?_;rintro en w6 ⟨⟨Uz,k6,rfl,_,_,_⟩,ku,bE⟩
  have PJ:Hid (LK w w6 Q R G w6.heap.size N po pn zs P 0 s5 [] (.slice none 0 0) [] 0) :=
   ⟨ku,Q5.out.kept bE (fun e=>wh (Option.some.inj e)),B5.out.kept bE (fun ad e h e2=>by have h9:=sJ.out h;rw [e] at h9;obtain rfl:=Option.some.inj h9;exact eT.out (Option.some.inj e2)),⟨rfl,.inl ⟨rfl,rfl⟩⟩,⟨_,_,_,_,mL.nil _ _ _ _ _⟩,T5.out.tV bE (fun k e=>.inl (Option.some.inj e).symm),⟨by have:=T5.out.size;have:=bE.size;omega,ku.lt.1,ku.lt.2,wh,by have:=T5.out.size;have:=bE.size;omega,Nat.le_refl _⟩,(fun ad e h=>by have h9:=sJ.out h;rw [e] at h9;obtain rfl:=Option.some.inj h9;rfl),rfl,ku.u8⟩
  clear ku bE H6 c0 c1 f1 Q5 D5 B5 T5 sJ;go_wp2;obtain ⟨base,hbase⟩:∃ base,base=w6.heap.size:=⟨_,rfl⟩;rw [<- hbase] at PJ;clear hbase;go_loopw [4,5,6,7,41] (fun sl _ _ _ si wr=>∃ (i:Nat) (st:Nat × Int) (L:List It) (xs:List Value) (pos:Nat),i<=N/\si=.int .i64 i/\ij zs P (N - i) st L=parse zs/\LK w wr Q R G base N po pn zs P i st L sl xs pos/\pos<=st.1) (fun _ _ _ _ si _=>N - (intOf si).toNat)
  case atStart=>exact ⟨0,s5,[],[],0,Nat.zero_le _,rfl,Ya.out.symm,PJ.out,Nat.zero_le _⟩
  case round =>
   rename_i sl _ _ _ si wr;obtain ⟨i,st,L,xs,pos,hi',rfl,El,hrn,hps⟩:=hrel;have qN:=hJ hrn;have LM:=hJ El;clear El hrn PJ Ya
   by_cases hlt:i<N
   ·have HI:=hJ (Nr Q R G zs st po pn pn P wr qN.out.lr qN.out.rd bp qN.out.pb (fun ad e h=>by rw [qN.out.pg ad e h];exact eT.out) wh (by omega) hz)
    have yy:Hid (parse zs=if (dK zs P st).2.2=0 then ij zs P (N - (i+1)) (dK zs P st).2 (L++[(dK zs P st).1]) else []):=by
     show _=_
     rw [<- LM.out,show N - i=(N - (i+1))+1 by omega,ij]
    clear LM
    have KN:Hid (∃ kg kn vp vm,mL wr R G w.heap.size pos xs L kg kn vp vm/\∀ j,j<L.length->kg j<wr.heap.size):=by
     obtain ⟨kg,kn,vp,vm,hv⟩:=qN.out.iv;exact ⟨kg,kn,vp,vm,hv,fun j hj=>by obtain ⟨_,_,_,_,_,h5⟩:=hv.el j hj;exact h5.key.lt⟩
    have PB:w.heap.size<=wr.heap.size:=by have:=qN.out.far;omega
    generalize wr.heap.size=lo at *;generalize (dK zs P st).2=Bl at *;generalize (dK zs P st).1=it at *
    go_wp2_with fail
    refine HI.out.mono ?_;rintro en w7 ⟨⟨gg,n,bo,m',pp0,rfl,him⟩,nj,cG⟩;have M7:=hJ him;have N7:=hJ (qN.out.call nj cG)
    have KN7:Hid (∃ kg kn vp vm,mL w7 R G w.heap.size pos xs L kg kn vp vm/\∀ j,j<L.length->kg j<lo):=by
     obtain ⟨kg,kn,vp,vm,hv,hw⟩:=KN.out;exact ⟨kg,kn,vp,vm,hv.kept cG (fun b hb _ e=>hb (Option.some.inj e)),hw⟩
    clear KN;clear him nj cG HI qN;obtain ⟨sz,hsz⟩:∃ sz,it.size=sz:=⟨_,rfl⟩;obtain ⟨fs,IX⟩:∃ fs,it.first=fs:=⟨_,rfl⟩
    rw [hsz,IX];have VT:=hJ hsz;have ZE:=hJ IX;clear hsz IX;have ga:=World.grownBy_alloc w7 (.cells #[.slice (some ⟨gg,0,none⟩) n n,.slice bo m' m',.int .i64 sz,.int .i64 fs] 63) none;have N8:=hJ (N7.out.ae ga);have KN8:Hid (∃ kg kn vp vm,mL (w7.alloc (.cells #[.slice (some ⟨gg,0,none⟩) n n,.slice bo m' m',.int .i64 sz,.int .i64 fs] 63)) R G w.heap.size pos xs L kg kn vp vm/\∀ j,j<L.length->kg j<lo):=KN7.out.imp fun kg h=>h.imp fun kn h=>h.imp fun vp h=>h.imp fun vm h=>⟨h.1.kept ga (fun _ _ _=>by simp),h.2⟩
    clear KN7;have M8:=hJ (M7.out.kept ga (fun _ _ _=>by simp));have X8:=hJ (Bx.new w7 (.slice (some ⟨gg,0,none⟩) n n) (.slice bo m' m') (.int .i64 sz) (.int .i64 fs));have qc:=N8.out.lr.cells.1;have PK:=hJ (fun (W:World) (hW:Rd W R G zs Bl.1 Bl.2)=>Gk R G zs Bl.1 Bl.2 W hW);clear ga N7 M7
    go_wp2_with fail
    clear qc;generalize w7.alloc (.cells #[.slice (some ⟨gg,0,none⟩) n n,.slice bo m' m',.int .i64 sz,.int .i64 fs] 63)=w8 at *;generalize w7.heap.size=T at *;refine (PK.out _ N8.out.rd).mono ?_;rintro en w9 ⟨rfl,UA⟩;have N9:=hJ (N8.out.ae (UA.grown none));have KN9:Hid (∃ kg kn vp vm,mL w9 R G w.heap.size pos xs L kg kn vp vm/\∀ j,j<L.length->kg j<lo):=KN8.out.imp fun kg h=>h.imp fun kn h=>h.imp fun vp h=>h.imp fun vm h=>⟨h.1.kept (UA.grown none) (fun _ _ _=>by simp),h.2⟩
    clear KN8;have M9:=hJ (M8.out.kept (UA.grown none) (fun _ _ _=>by simp));have X9:=hJ (X8.out.kept (UA.grown none) (by simp));clear UA N8 M8 X8;obtain ⟨pp,ee⟩:=Bl
    by_cases he:ee=0
    ·subst he
     have yz:=hJ (yy.out.trans (if_pos rfl));clear yy;obtain ⟨x0,x1,x2,x3⟩:=X9.out.cells
     go_wp2_with (at_builtin;refine wpList_append_own _ rfl _ _ 22 rfl base 63 i0 (.agg #[.slice none 0 0,.slice none 0 0,.int .i64 0,.int .i64 0]) 4 64 Tryz.underlying22 hi hz0 hz1 hz2 rfl (by decide) _ i xs rfl (N9.out.own.alloc _) ⟨w9.heap.size,0,none⟩ 1 1 [.slice (some ⟨gg,0,none⟩) n n,.slice bo m' m',.int .i64 sz,.int .i64 fs] rfl rfl (dU _ _ _ _ _ _) (by intro u hu;simp at hu;rcases hu with rfl | rfl | rfl | rfl <;> rfl) (by unfold maxLen;omega) (by omega) (by have:=N9.out.far.2.2.2.2.2;simp;omega) ?_)
     intro v' fI ho aW _
     have N10:Hid (LK w fI Q R G base N po pn zs P (i+1) (pp,0) (L++[it]) v' (xs++[.slice (some ⟨gg,0,none⟩) n n,.slice bo m' m',.int .i64 it.size,.int .i64 it.first]) pp) :=
      (N9.out.ae (World.grownBy_alloc w9 _ none)).app (M9.out.kept (World.grownBy_alloc w9 _ none) (fun _ _ _=>by simp)) hps PB (KN9.out.imp fun kg h=>h.imp fun kn h=>h.imp fun vp h=>h.imp fun vm h=>⟨h.1.kept (World.grownBy_alloc w9 _ none) (fun _ _ _=>by simp),h.2⟩) (by rw [VT.out,ZE.out];exact ho) aW
     clear ho aW N9 M9 X9 x0 x1 x2 x3;go_wp2;go_roundw
     case rel=>exact ⟨i+1,(pp,0),L++[it],_,pp,by omega,by go_num,yz.out.symm,N10.out,Nat.le_refl _⟩
     case measure=>simp [intOf];omega
    ·have yz:=hJ (yy.out.trans (if_neg he))
     clear yy;go_wp2;go_ret;refine ⟨⟨.slice none 0 0,0,w.heap.size,[],fun _=>0,fun _=>0,fun _=>0,fun _=>0,0,rfl,?_,Nat.le_refl _,⟨rfl,.inl ⟨rfl,rfl⟩⟩,?_⟩,N9.out.two⟩
     ·rw [yz.out];rfl
     ·rw [yz.out];exact mL.nil _ _ _ _ _
   ·have hin:i=N:=by omega
    subst hin
    have QT:Hid (L=parse zs):=by
     have:=LM.out;rw [Nat.sub_self] at this;exact this
    obtain ⟨kg,kn,vp,vm,hv⟩:=qN.out.iv;have HVV:=hJ hv;clear LM hv;go_wp2;go_ret;refine ⟨⟨_,i,base,xs,kg,kn,vp,vm,pos,rfl,by rw [<- QT.out];exact qN.out.len,qN.out.far.2.2.2.2.1,qN.out.own,by rw [<- QT.out];exact HVV.out⟩,qN.out.two⟩
theorem Jp {sz:Nat}{e:TypeId}(h:w.ownsRow base e sz v n xs)(hg:w.grownBy w' none):w'.ownsRow base e sz v n xs :=
 h.kept hg (by cases v.ownBlock with | none=>exact .inl rfl | some g=>exact .inr (by simp))
theorem mL.from {lo':Nat}{L:List It}(h:mL w R G lo pos xs L kg kn vp vm)(hl:lo'<=lo):mL w R G lo' pos xs L kg kn vp vm :=
 ⟨h.len,fun j hj=>by
  obtain ⟨bo,h1,h2,h3,h4,h5⟩:=h.el j hj;exact ⟨bo,h1,h2,h3,h4,⟨h5.key,h5.kn,h5.kc,h5.val,h5.vc,⟨h5.kb.1,h5.kb.2.1,by have:=h5.kb.2.2;omega⟩,h5.vb,h5.gu,h5.vp⟩⟩,h.kd,h.vd⟩
theorem mL.iv {L:List It}(h:mL w R G lo pos xs L kg kn vp vm):Iv w R xs L:=by
 refine ⟨h.len,fun j hj=>?_⟩;obtain ⟨bo,h1,h2,h3,h4,h5⟩:=h.el j hj;have hk:=h5.kc;have hv:=h5.vc;exact ⟨_,_,_,_,_,_,h1,h2,h3,h4,⟨h5.key.all _ _ h5.kn.symm,⟨Nat.le_refl _,by omega⟩,h5.val,⟨Nat.le_refl _,by omega⟩,fun ad e _=>by obtain rfl:=Option.some.inj e;exact ⟨h5.kb.1,h5.key.u8⟩,fun ad e hn=>by have:=h5.vb hn;rw [e] at this;obtain rfl:=Option.some.inj this;exact ⟨h5.gu.2,h5.gu.1⟩⟩⟩
theorem mL.il' {L:List It}(h:mL w R G lo pos xs L kg kn vp vm)(ho:w.ownsRow base 63 4 v n xs):∃ a cap,v=.slice a n cap/\Il w a L/\L.length=n/\n<=cap/\cap<=9223372036854775807:=h.iv.il ho
theorem BH (ao:Option Addr)(c:Nat)(zs:List Int)(w:World)(hb:ai w ao 4092 c zs)(bp:Bt zs) :
  Calls Tryz.prog 180 #[.slice ao 4092 c] w fun en w'=>(∃ v n e L base xs R G kg kn vp vm pos,en=.returned (.tuple #[v,.int .i64 e])/\L.length=n/\n<=5000/\Ib L/\w.heap.size<=base/\w'.ownsRow base 63 4 v n xs/\mL w' R G w.heap.size pos xs L kg kn vp vm/\w.heap.size<=G/\Um zs L e)/\w.grownBy w' none:=by
 have hl:=hb.len;have HIR:=hJ (MX bp (by omega));have HPL:=hJ (Ja bp (by omega));have jp:Hid (Ib (parse zs)):=fun x hx=>(HIR.out x hx).b
 have HB:=hJ hb;clear hb;go_enter Tryz.func180,Tryz.ntmps180
 go_wp2_with fail
 refine (dR ao 4092 c zs _ HB.out (by omega)).mono ?_;rintro en w1 ⟨R,rfl,hr1,hg1,hR⟩;have ga:=World.grownBy_alloc w1 (.cells #[.pointer (some ⟨R,0,none⟩),.slice none 0 0] 204) none
 have Q2:Hid (Lr (w1.alloc (.cells #[.pointer (some ⟨R,0,none⟩),.slice none 0 0] 204)) w1.heap.size R none 0 0):=by
  show _=_
  exact heap_alloc_new w1 _
 have D2:=hJ (hr1.kept ga (by simp) (by simp));have G2:=hJ (gQ hg1 ga);have hRl:=hr1.lt.1;have ZK:=hr1.lt.2;have hsz:w.heap.size<=w1.heap.size:=hg1.size;clear ga hr1 hg1
 go_wp2_with fail
 generalize w1.alloc (.cells #[.pointer (some ⟨R,0,none⟩),.slice none 0 0] 204)=w2 at *;generalize w1.heap.size=Q at *;refine (Jo Q R w.heap.size zs _ Q2.out D2.out bp (by omega) (by omega) (by omega)).mono ?_;rintro en w3 ⟨⟨v,n,base,xs,kg,kn,vp,vm,pos,rfl,hn,ru,hown,UB⟩,wX⟩;have G3:=hJ (wX.grown G2.out (by omega) hsz);obtain ⟨a,cap,rfl,Ns,_,hnc,hcm⟩:=UB.il' hown;have aej:=G2.out.size;have O3:=hJ hown;have V3:=hJ (UB.from aej);have L3:=hJ Ns;clear hown UB;have B3:=hJ (HB.out.ae G3.out);have hn5:n<=5000:=by have:=HPL.out;omega
 clear Ns wX G2 D2 Q2
 go_wp2_with fail
 refine (tR a n cap (parse zs) _ L3.out jp.out hn hn5).mono ?_;rintro en w4 ⟨⟨bo,k,c',rfl,hb4,hk4⟩,hg4⟩;have B4:=hJ hb4;have L4:=hJ (L3.out.ae hg4);have O4:=hJ (Jp O3.out hg4);have V4:=hJ (V3.out.kept hg4 (fun _ _ _=>by simp));have akd:=jp;have Z4:=hJ (B3.out.ae hg4);have G4:=hJ (gQ G3.out hg4);have HEB:=hJ (MO jp.out);clear hb4 hg4 L3 B3 G3;have Yb:=hJ (MZ zs (parse zs));have HPB:Hid (∀ M,Good zs M->parse zs=M):=fun M h=>mF h
 generalize Dk:parse zs=L at *;have Ya:=hJ Dk;clear Dk;generalize (enc L).2=e at *;generalize (enc L).1=ys at *
 by_cases he:e=0
 ·subst he
  by_cases hy:ys=zs
  ·have HGD:=hJ (Yb.out.1 ⟨hy,rfl⟩)
   clear Yb
   go_wp2_with fail
   refine (lC _ _ _ _ _ _ _ _ _ B4.out Z4.out hy).mono ?_;rintro en w5 ⟨rfl,rfl⟩;clear hy;go_wp2
   go_ret2
   exact ⟨⟨_,n,0,L,base,xs,R,w.heap.size,kg,kn,vp,vm,pos,rfl,hn,hn5,jp.out,by omega,O4.out,V4.out,Nat.le_refl _,.inl ⟨rfl,HGD.out,hl⟩⟩,G4.out⟩
  ·have Wi:Hid (∀ M,¬ (Good zs M/\zs.length=4092)):=by
    rintro M ⟨h1,_⟩;obtain rfl:=HPB.out M h1;exact hy (Yb.out.2 h1).1
   clear Yb
   go_wp2_with fail
   refine (nT _ _ _ _ _ _ _ _ _ B4.out Z4.out HEB.out bp hy).mono ?_;rintro en w5 ⟨rfl,rfl⟩;clear hy;go_wp2
   go_ret2
   exact ⟨⟨.slice none 0 0,0,40,[],w.heap.size,[],R,w.heap.size,fun _=>0,fun _=>0,fun _=>0,fun _=>0,0,rfl,rfl,by omega,fun x hx=>by simp at hx,Nat.le_refl _,⟨rfl,.inl ⟨rfl,rfl⟩⟩,mL.nil _ _ _ _ _,Nat.le_refl _,.inr ⟨rfl,rfl,Wi.out⟩⟩,G4.out⟩
 ·have Wi:Hid (∀ M,¬ (Good zs M/\zs.length=4092)):=by
   rintro M ⟨h1,_⟩;obtain rfl:=HPB.out M h1;exact he (Yb.out.2 h1).2
  clear Yb;go_wp2
  go_ret2
  exact ⟨⟨.slice none 0 0,0,40,[],w.heap.size,[],R,w.heap.size,fun _=>0,fun _=>0,fun _=>0,fun _=>0,0,rfl,rfl,by omega,fun x hx=>by simp at hx,Nat.le_refl _,⟨rfl,.inl ⟨rfl,rfl⟩⟩,mL.nil _ _ _ _ _,Nat.le_refl _,.inr ⟨rfl,rfl,Wi.out⟩⟩,G4.out⟩
structure Lw8 (w w':World)(a:Option Addr)(n cap:Nat)(L:List It):Prop where
 ex:∃ base xs R G kg kn vp vm pos,w.heap.size<=base/\w'.ownsRow base 63 4 (.slice a n cap) n xs/\mL w' R G w.heap.size pos xs L kg kn vp vm/\w.heap.size<=G
theorem Lw8.zero (w w':World):Lw8 w w' none 0 0 []:=⟨w.heap.size,[],0,w.heap.size,fun _=>0,fun _=>0,fun _=>0,fun _=>0,0,Nat.le_refl _,⟨rfl,.inl ⟨rfl,rfl⟩⟩,mL.nil _ _ _ _ _,Nat.le_refl _⟩
theorem Ep (ao:Option Addr)(n c:Nat)(zs:List Int)(w:World)(hb:ai w ao n c zs)(bp:Bt zs) :
  Calls Tryz.prog 180 #[.slice ao n c] w fun en w'=>(∃ a n cap e L,en=.returned (.tuple #[.slice a n cap,.int .i64 e])/\Um zs L e/\Il w' a L/\Ib L/\L.length=n/\n<=cap/\cap<=9223372036854775807/\Lw8 w w' a n cap L)/\w.grownBy w' none:=by
 have hl:=hb.len
 by_cases h:n=4092
 ·subst h
  refine (BH ao c zs w hb bp).mono ?_;rintro en w' ⟨⟨v,m,e,L,b2,xs,R,G,kg,kn,vp,vm,pos,rfl,hn,_,hib,hb2,hown,UB,hG,hd⟩,hg⟩;obtain ⟨a,cap,rfl,h1,h2,h3,h4⟩:=UB.il' hown;exact ⟨⟨a,m,cap,e,L,rfl,hd,h1,hib,h2,h3,h4,⟨b2,xs,R,G,kg,kn,vp,vm,pos,hb2,hown,UB,hG⟩⟩,hg⟩
 ·refine (Ei ao n c w h).mono ?_
  rintro en w' ⟨rfl,rfl⟩;exact ⟨⟨none,0,0,40,[],rfl,.inr ⟨rfl,rfl,fun M hM=>h (by rw [<- hl];exact hM.2)⟩,Il.zero _ _,(fun x hx=>by cases hx),rfl,Nat.le_refl _,by omega,Lw8.zero _ _⟩,World.grownBy.refl _ _⟩
end Go.Proofs.YtgldkdbkaachkaaGreatDoor
