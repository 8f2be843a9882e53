import Derived.Test.YtgldkdbkaachkaaGreatDoorK5
import Derived.Deep.RegionLaw
import Derived.Laws.CopyOwn
set_option maxRecDepth 100000
set_option maxHeartbeats 2000000
namespace Go.Proofs.YtgldkdbkaachkaaGreatDoor
open Go.RowKit
variable {L:List (List Int)}{G b i n off:Nat}{a:Option Addr}{w w' w0:World}
structure Lz (w:World)(a:Option Addr)(L:List (List Int)):Prop where
 row:∀ i,i<L.length->∃ b off ao n c,a=some ⟨b,off,none⟩/\w.cell? ⟨b,off+i,none⟩=some (.slice ao n c)/\ai w ao n c (L.getD i [])/\n<=c/\c<=9223372036854775807
theorem Lz.heap (h:Lz w a L)(e:w'.heap=w.heap):Lz w' a L:=by
 refine ⟨fun i hi=>?_⟩;obtain ⟨b,off,ao,n,c,h1,h2,h3,h4,h5⟩:=h.row i hi;exact ⟨b,off,ao,n,c,h1,(World.cell?_of_block (by rw [e])).trans h2,h3.heap e,h4,h5⟩
theorem Lz.ae (h:Lz w a L)(hg:w.grownBy w' none):Lz w' a L:=by
 refine ⟨fun i hi=>?_⟩;obtain ⟨b,off,ao,n,c,h1,h2,h3,h4,h5⟩:=h.row i hi;exact ⟨b,off,ao,n,c,h1,hg.cell h2 (by simp),h3.ae hg,h4,h5⟩
theorem Lz.tail {z:List Int}(h:Lz w (some ⟨b,off,none⟩) (z::L)):Lz w (some ⟨b,off+1,none⟩) L:=by
 refine ⟨fun i hi=>?_⟩;obtain ⟨b',off',ao,n,c,h1,h2,h3,h4,h5⟩:=h.row (i+1) (by simpa using hi);simp only [Option.some.injEq,Addr.mk.injEq] at h1;obtain ⟨rfl,rfl,_⟩:=h1;exact ⟨b,off+1,ao,n,c,rfl,by rw [show off+1+i=off+(i+1) by omega];exact h2,by simpa using h3,h4,h5⟩
theorem Lz.zero (w:World)(a:Option Addr):Lz w a []:=⟨fun i hi=>by simp at hi⟩
theorem jZ (f:List Int)(k:Nat)(L:List (List Int))(i:Nat)(h:i<L.length):bw f k (L.take (i+1))=min (bw f k (L.take i)) (gy f (L.getD i [])):=by
 have e:L.getD i []=L[i]:=by simp [List.getD,List.getElem?_eq_getElem h]
 unfold bw;rw [List.take_add_one,List.getElem?_eq_getElem h,List.foldl_append,e]
 rfl
theorem MB (B k:Nat)(ao:Option Addr)(n c:Nat)(zf:List Int)(bo:Option Addr)(m d:Nat)(zs:List Int)(w:World)(hc:w.cell? ⟨B,0,none⟩=some (.slice ao n c))(hf:ai w ao n c zf)(hk:k<=n)(hnc:n<=c)(hc2:c<=9223372036854775807)(hb:ai w bo m d zs)(hm:m<=9223372036854775807) :
  Calls Tryz.prog 282 #[.int .i64 k,.slice bo m d,.pointer (some ⟨B,0,none⟩)] w fun en w'=>en=.returned (.int .i64 ((min k (gy zf zs):Nat):Int))/\Dr w w':=by
 rw [<- AB];have HB:=hJ hb;clear hb;cases ao with
 | none =>
  obtain ⟨rfl,rfl⟩:=hf.nil rfl;obtain rfl:k=0:=by omega
  have HF:=hJ (hf.take 0 0 (Nat.le_refl _) (fun _=>rfl));clear hf;go_enter Tryz.func282,Tryz.ntmps282
  go_wp2_with fail
  refine (tH _ _ _ _ _ _ _ _ _ HF.out HB.out (by omega) hm).mono ?_;rintro en w1 ⟨rfl,hq⟩;have HQ:=hJ hq;clear hq;go_wp2;go_ret;exact ⟨rfl,HQ.out⟩
 | some ad =>
  have HF:=hJ (hf.take k c hk (fun e=>by cases e));clear hf;go_enter Tryz.func282,Tryz.ntmps282
  go_wp2_with fail
  refine (tH _ _ _ _ _ _ _ _ _ HF.out HB.out (by omega) hm).mono ?_;rintro en w1 ⟨rfl,hq⟩;have HQ:=hJ hq;clear hq;go_wp2;go_ret;exact ⟨rfl,HQ.out⟩
theorem AW (B k:Nat)(ao:Option Addr)(n c:Nat)(zf:List Int)(a:Option Addr)(cap:Nat)(L:List (List Int))(w:World)(hc:w.cell? ⟨B,0,none⟩=some (.slice ao n c))(hf:ai w ao n c zf)(hk:k<=n)(hnc:n<=c)(hc2:c<=9223372036854775807)(hl:Lz w a L)(hL:L.length<=9223372036854775807) :
  Calls Tryz.prog 281 #[.slice a L.length cap,.int .i64 k,.func (.func 282) #[] #[.pointer (some ⟨B,0,none⟩)]] w fun en w'=>en=.returned (.int .i64 ((bw zf k L:Nat):Int))/\Dr w w':=by
 have HC:=hJ hc;have HF:=hJ hf;have HL:=hJ hl;have HE:Hid (L.take L.length=L):=List.take_length;clear hc hf hl;go_enter Tryz.func281,Tryz.ntmps281;go_wp2;go_loopw [1,8,11] (fun st _ si wr=>∃ i:Nat,i<=L.length/\si=.int .i64 i/\st=.int .i64 ((bw zf k (L.take i):Nat):Int)/\Dr w wr) (fun _ _ si _=>L.length - (intOf si).toNat)
 case atStart=>exact ⟨0,Nat.zero_le _,rfl,rfl,Dr.refl _⟩
 case round =>
  obtain ⟨i,hi,rfl,rfl,hq⟩:=hrel;have HQ:=hJ hq;clear hq
  by_cases hlt:i<L.length
  ·obtain ⟨b,off,bo,m,d,rfl,h2,h3,h4,h5⟩:=HL.out.row i hlt
   have c1:=(HQ.out.cell _).trans h2;have HB:=hJ (h3.heap HQ.out.qt.heap);have HS:=hJ (jZ zf k L i hlt);have hle:bw zf k (L.take i)<=n:=Nat.le_trans (fF zf _ k) hk;have g1:(i:Int)<(L.length:Int):=by omega
   have g0:(0:Int)<=(i:Int):=by omega
   clear h2 h3;generalize bw zf k (L.take i)=t at *
   go_wp2_with fail
   refine (MB B t ao n c zf bo m d _ wr ((HQ.out.cell _).trans HC.out) (HF.out.heap HQ.out.qt.heap) hle hnc hc2 HB.out (by omega)).mono ?_;rintro en w1 ⟨rfl,hq⟩;rw [<- HS.out];have Zq:=hJ (HQ.out.trans hq);clear hq;go_wp2;go_roundw
   case rel=>exact ⟨i+1,by omega,by go_num,rfl,Zq.out⟩
   case measure=>simp [intOf];omega
  ·have hin:i=L.length:=by omega
   subst hin;rw [HE.out];go_wp2;go_ret;exact ⟨rfl,HQ.out⟩
def Gy:List (List Int)->Nat
 | []=>0
 | z::L=>bw z z.length L
theorem kf (a:Option Addr)(cap:Nat)(w:World):Calls Tryz.prog 248 #[.slice a 0 cap] w fun en w'=>en=.returned (.int .i64 0)/\w'=w:=by
 go_enter Tryz.func248,Tryz.ntmps248;go_wp2;go_ret;exact ⟨rfl,rfl⟩
theorem kj (a:Option Addr)(cap:Nat)(z:List Int)(L:List (List Int))(w:World)(hl:Lz w a (z::L))(hc:L.length+1<=cap)(hcap:cap<=9223372036854775807) :
  Calls Tryz.prog 248 #[.slice a (L.length+1) cap] w fun en w'=>en=.returned (.int .i64 ((Gy (z::L):Nat):Int))/\w.grownBy w' none:=by
 have HM:Hid (Gy (z::L)=bw z z.length L):=rfl;obtain ⟨b,off,ao,n,c,rfl,h2,h3,h4,h5⟩:=hl.row 0 (by simp);have qD:ai w ao n c z:=by simpa using h3
 have hz:=qD.len;have HG:=hJ (World.grownBy_alloc w (.cells #[.slice ao n c] 25) none);have HF:=hJ (qD.ae HG.out);have HL:=hJ (hl.ae HG.out)
 have k1:(w.alloc (.cells #[.slice ao n c] 25)).cell? ⟨w.heap.size,0,none⟩=some (.slice ao n c):=by
  rw [cell_of_row _ w.heap.size 0 _ _ (0,0) (heap_alloc_new w _)];rfl
 have HK:=hJ k1;rw [Nat.add_zero] at h2;clear h3 qD hl k1;go_enter Tryz.func248,Tryz.ntmps248;go_wp2;have c1:=HK.out;generalize w.alloc (.cells #[.slice ao n c] 25)=w1 at *;have hmf:∀ (fn:Fn) (first cap:Array Value) (w:World),(Instr.makeFunc fn first cap).run Tryz.prog w=.ok (.func fn first cap) w:=fun _ _ _ _=>rfl
 by_cases hc1:cap=1
 ·obtain rfl:L=[]:=List.length_eq_zero_iff.1 (by omega)
  subst hc1
  go_quiet ((go_at_call 281;exact Calls.quiet_of (AW w.heap.size n ao n c z _ _ [] _ (by exact HK.out) (HF.out.heap rfl) (Nat.le_refl _) h4 h5 (Lz.zero _ _) (by simp))))
  go_wp2;go_ret;exact ⟨ct (by rw [HM.out,hz]),gQ HG.out ((Qt.drewN _ _).grown _)⟩
 ·have hc2:1<cap:=by omega
  have HT:=hJ HL.out.tail;clear HL
  go_quiet ((go_at_call 281;exact Calls.quiet_of (AW w.heap.size n ao n c z _ _ L _ (by exact HK.out) (HF.out.heap rfl) (Nat.le_refl _) h4 h5 (HT.out.heap rfl) (by omega))))
  go_wp2;go_ret;exact ⟨ct (by rw [HM.out,hz]),gQ HG.out ((Qt.drewN _ _).grown _)⟩
structure Il (w:World)(a:Option Addr)(L:List It):Prop where
 row:∀ i,i<L.length->∃ b off ao n c bo m d,a=some ⟨b,off,none⟩/\w.cell? ⟨b,off+i*4,none⟩=some (.slice ao n c)/\w.cell? ⟨b,off+i*4+1,none⟩=some (.slice bo m d) /\
  w.cell? ⟨b,off+i*4+2,none⟩=some (.int .i64 (L.getD i aG).size)/\w.cell? ⟨b,off+i*4+3,none⟩=some (.int .i64 (L.getD i aG).first) /\
  ai w ao n c (L.getD i aG).key/\n<=c/\c<=9223372036854775807/\ai w bo m d (L.getD i aG).val/\m<=d/\d<=9223372036854775807
structure Qy (x:It):Prop where
 key:Bt x.key
 val:Bt x.val
 s1:-9223372036854775808<=x.size
 s2:x.size<=9223372036854775807
 f1:-9223372036854775808<=x.first
 f2:x.first<=9223372036854775807
def Ib (L:List It):Prop:=∀ x∈L,Qy x
theorem cR {L:List It}{i:Nat}(h:i<L.length):L.getD i aG∈L:=by
 simp [List.getD,List.getElem?_eq_getElem h]
theorem Ib.at {L:List It}(h:Ib L){i:Nat}(hi:i<L.length):Qy (L.getD i aG):=h _ (cR hi)
theorem Il.heap {L:List It}(h:Il w a L)(e:w'.heap=w.heap):Il w' a L:=by
 refine ⟨fun i hi=>?_⟩;obtain ⟨b,off,ao,n,c,bo,m,d,h1,h2,h3,h4,h5,h6,h7,h8,h9,h10,h11⟩:=h.row i hi;have k:∀ ad:Addr,w'.cell? ad=w.cell? ad:=fun ad=>World.cell?_of_block (by rw [e])
 exact ⟨b,off,ao,n,c,bo,m,d,h1,(k _).trans h2,(k _).trans h3,(k _).trans h4,(k _).trans h5,h6.heap e,h7,h8,h9.heap e,h10,h11⟩
theorem Il.ae {L:List It}(h:Il w a L)(hg:w.grownBy w' none):Il w' a L:=by
 refine ⟨fun i hi=>?_⟩;obtain ⟨b,off,ao,n,c,bo,m,d,h1,h2,h3,h4,h5,h6,h7,h8,h9,h10,h11⟩:=h.row i hi;exact ⟨b,off,ao,n,c,bo,m,d,h1,hg.cell h2 (by simp),hg.cell h3 (by simp),hg.cell h4 (by simp),hg.cell h5 (by simp),h6.ae hg,h7,h8,h9.ae hg,h10,h11⟩
theorem Il.zero (w:World)(a:Option Addr):Il w a []:=⟨fun i hi=>by simp at hi⟩
theorem DX:(Tryz.prog.info? 25).map (fun i=>(i.zero,i.size,i.bytes))=some (some (.slice none 0 0),1,24):=by kernel_rfl
theorem Gz (L:List It)(i:Nat):(L.map It.key).getD i []=(L.getD i aG).key:=by
 simp only [List.getD,List.getElem?_map];cases L[i]? <;> rfl
theorem vY (a:Option Addr)(n cap:Nat)(L:List It)(w:World)(hl:Lz w a (L.map It.key))(hn:L.length=n)(hc:n<=cap)(hcap:cap<=9223372036854775807) :
  Calls Tryz.prog 248 #[.slice a n cap] w fun en w'=>en=.returned (.int .i64 ((pre L:Nat):Int))/\w.grownBy w' none:=by
 cases L with
 | nil =>
  obtain rfl:n=0:=by simpa using hn.symm
  refine (kf a cap w).mono ?_;rintro en w' ⟨rfl,rfl⟩;exact ⟨rfl,World.grownBy.refl _ _⟩
 | cons x L =>
  have:=kj a cap x.key (L.map It.key) w hl (by rw [List.length_map];simp at hn;omega) hcap;rw [List.length_map] at this;obtain rfl:L.length+1=n:=by simpa using hn
  exact this
structure Kr (w0 w:World)(a:Option Addr)(G n i:Nat):Prop where
 ex:∃ cur:Array Value,w.heap[G]?=some (.cells cur 25 (0,0))/\cur.size=n/\∀ j,j<i->∃ b off ao m c,a=some ⟨b,off,none⟩/\w0.cell? ⟨b,off+j*4,none⟩=some (.slice ao m c)/\cur[j]?=some (.slice ao m c)
theorem Kr.lt (h:Kr w0 w a G n i):G<w.heap.size:=by
 obtain ⟨cur,h1,_⟩:=h.ex;exact (Array.getElem?_eq_some_iff.1 h1).1
theorem Kr.ae {G:Nat}(h:Kr w0 w a G n i)(hg:w.grownBy w' none):Kr w0 w' a G n i:=by
 have hl:=h.lt;obtain ⟨cur,h1,h2,h3⟩:=h.ex;exact ⟨cur,(hg.block G hl (by simp)).trans h1,h2,h3⟩
theorem Kr.frozen (h:Kr w0 w a G n i)(j:Nat):w.frozen? ⟨G,j,none⟩=false:=by
 obtain ⟨cur,h1,_⟩:=h.ex;exact frozen_of_row w G j _ _ h1
theorem Kr.cell {i:Nat}(h:Kr w0 w a G n i)(j:Nat)(hj:j<n):∃ v,w.cell? ⟨G,j,none⟩=some v:=by
 obtain ⟨cur,h1,h2,_⟩:=h.ex;exact ⟨cur[j]'(by omega),by rw [cell_of_row w G j _ _ _ h1];exact Array.getElem?_eq_getElem (by omega)⟩
theorem Kr.set {ao:Option Addr}{m c:Nat}(h:Kr w0 w (some ⟨b,off,none⟩) G n i)(hi:i<n)(hc:w0.cell? ⟨b,off+i*4,none⟩=some (.slice ao m c)) :
  Kr w0 (w.setCell ⟨G,i,none⟩ (.slice ao m c)) (some ⟨b,off,none⟩) G n (i+1):=by
 obtain ⟨cur,h1,h2,h3⟩:=h.ex;refine ⟨cur.setIfInBounds i (.slice ao m c),heap_setCell_same w G i cur _ _ h1,by simpa using h2,fun j hj=>?_⟩
 by_cases e:i=j
 ·subst e
  exact ⟨b,off,ao,m,c,rfl,hc,by simp [h2,hi]⟩
 ·obtain ⟨b',off',eX,m',c',k1,k2,k3⟩:=h3 j (by omega)
  exact ⟨b',off',eX,m',c',k1,k2,by rw [Array.getElem?_setIfInBounds_ne e];exact k3⟩
theorem Kr.lz {L:List It}(h:Kr w0 w a G n n)(hn:L.length=n)(hl:Il w0 a L)(hg:w0.grownBy w none):Lz w (some ⟨G,0,none⟩) (L.map It.key):=by
 obtain ⟨cur,h1,h2,h3⟩:=h.ex;refine ⟨fun i hi=>?_⟩;have hi':i<L.length:=by simpa using hi
 obtain ⟨b,off,ao,m,c,k1,k2,k3⟩:=h3 i (by omega);obtain ⟨b',off',eX,m',c',bo,m2,d2,q1,q2,q3,q4,q5,q6,q7,q8,_⟩:=hl.row i hi';rw [q1] at k1;simp only [Option.some.injEq,Addr.mk.injEq] at k1;obtain ⟨rfl,rfl,_⟩:=k1;rw [q2] at k2;obtain ⟨rfl,rfl,rfl⟩:eX=ao/\m'=m/\c'=c:=by simpa using k2
 refine ⟨G,0,eX,m',c',rfl,?_,?_,q7,q8⟩
 ·rw [Nat.zero_add,cell_of_row w G i _ _ _ h1];exact k3
 ·rw [Gz];exact q6.ae hg
theorem Kr.start{w0:World}{a:Option Addr}{base:Nat}{xs:List Value}(h:w.ownsRow base 25 1 (.slice (some ⟨G,0,none⟩) n n) n xs):Kr w0 w a G n 0:=by
 rcases h.2 with ⟨e,_⟩ | ⟨g',cap',cur,hv,hb,hg,hc,hm,hs,ht⟩
 ·cases e
 ·injection hv with e1 _ e3
  simp only [Option.some.injEq,Addr.mk.injEq] at e1;obtain ⟨rfl,_⟩:=e1;subst e3;exact ⟨cur,hg,by simpa using hs,fun j hj=>by omega⟩
theorem qE (a:Option Addr)(n cap:Nat)(L:List It)(w:World)(hl:Il w a L)(hn:L.length=n)(hm:n<=5000) :
  Calls Tryz.prog 230 #[.slice a n cap] w fun en w'=>en=.returned (.int .i64 ((pre L:Nat):Int))/\w.grownBy w' none:=by
 obtain ⟨i0,hi,hz0,hz1,hz2⟩:=info_parts DX;have HL:=hJ hl;clear hl;go_enter Tryz.func230,Tryz.ntmps230
 go_wp2_with (at_make;refine wpList_make_full _ rfl _ _ 23 rfl w.heap.size 25 i0 (.slice none 0 0) 1 Tryz.underlying23 hi hz0 hz1 _ _ _ _ n rfl rfl rfl rfl ?b2 ?b3 (Nat.le_refl _) ?_)
 case b2=>rw [hz2];omega
 case b3=>unfold maxLen;omega
 intro w0 aR hg0;have HK:=hJ (Kr.start (w0:=w) (a:=a) aR);have HG:=hJ hg0;clear aR hg0;go_wp2;go_loopw [11] (fun si wr=>∃ i:Nat,i<=n/\si=.int .i64 i/\Kr w wr a w.heap.size n i/\w.grownBy wr none) (fun si _=>n - (intOf si).toNat)
 case atStart=>exact ⟨0,Nat.zero_le _,rfl,HK.out,HG.out⟩
 case round =>
  obtain ⟨i,hi',rfl,hk,hg⟩:=hrel;have HK1:=hJ hk;have bj:=hJ hg;clear hk hg HK HG
  by_cases hlt:i<n
  ·obtain ⟨b,off,ao,m,c,bo,m2,d2,rfl,q2,q3,q4,q5,q6,q7,q8,q9,zY,DY⟩:=HL.out.row i (by omega)
   have c0:=bj.out.cell q2 (by simp);have c1:=bj.out.cell q3 (by simp);have c2:=bj.out.cell q4 (by simp);have c3:=bj.out.cell q5 (by simp);have HQ:=hJ q2;clear q2 q3 q4 q5 q6 q9;generalize (L.getD i aG).size=sz at *;generalize (L.getD i aG).first=fs at *
   have G2:=hJ (World.grownBy_alloc wr (.cells #[.slice ao m c,.slice bo m2 d2,.int .i64 sz,.int .i64 fs] 63) none);have K2:=hJ (HK1.out.ae G2.out);have f2:=K2.out.frozen i;obtain ⟨v2,e2⟩:=K2.out.cell i hlt;go_wp2;go_roundw
   case rel=>exact ⟨i+1,by omega,by go_num,K2.out.set hlt HQ.out,af (gQ bj.out G2.out) (ay _ _ _ _) (Nat.le_refl _)⟩
   case measure=>simp [intOf];omega
  ·have hin:i=n:=by omega
   subst hin
   go_wp2_with fail
   refine (vY _ _ _ L _ (HK1.out.lz hn HL.out bj.out) hn (Nat.le_refl _) (by omega)).mono ?_;rintro en w1 ⟨rfl,hg2⟩;have eu:=hJ (gQ bj.out hg2);clear hg2;go_wp2;go_ret;exact ⟨rfl,eu.out⟩
theorem eJ (s:Int)(w:World):Calls Tryz.prog 271 #[.int .i64 s] w fun en w'=>en=.returned (.bool (decide (512<s)))/\w'=w:=by
 go_enter Tryz.func271,Tryz.ntmps271;go_wp2;go_ret;exact ⟨rfl,rfl⟩
theorem pP (s:Nat)(w:World)(h:s<=262144):Calls Tryz.prog 274 #[.int .i64 s] w fun en w'=>en=.returned (.int .u64 ((if 512<s then 2*s+1 else 2*s:Nat):Int))/\w'=w:=by
 by_cases h5:512<s
 ·rw [if_pos h5]
  have hd:decide ((512:Int)<(s:Int))=true:=decide_eq_true (by omega);go_enter Tryz.func274,Tryz.ntmps274
  go_wp2_with fail
  refine (eJ _ _).mono ?_;rintro en w1 ⟨rfl,rfl⟩;rw [hd];go_wp2;go_ret;exact ⟨by go_num,rfl⟩
 ·rw [if_neg h5]
  have hd:decide ((512:Int)<(s:Int))=false:=decide_eq_false (by omega);go_enter Tryz.func274,Tryz.ntmps274
  go_wp2_with fail
  refine (eJ _ _).mono ?_;rintro en w1 ⟨rfl,rfl⟩;rw [hd];go_wp2;go_ret;exact ⟨by go_num,rfl⟩
theorem MC (s:Int):((lg s:Nat):Int)=min (max s 0) 262144:=by
 unfold lg
 split
 ·omega
 ·split <;> omega
theorem xY (ao:Option Addr)(n c:Nat)(bo:Option Addr)(m d:Nat)(s f:Int)(p:Nat)(w:World)(x:It)(hk:x.key.length=n)(hs:x.size=s)(hp:p<=n)(hn:n<=1000000) :
  Calls Tryz.prog 232 #[.agg #[.slice ao n c,.slice bo m d,.int .i64 s,.int .i64 f],.int .i64 p] w fun en w'=>en=.returned (.int .i64 ((cl p x:Nat):Int))/\w.grownBy w' none:=by
 obtain ⟨r,hr⟩:∃ r,n - p=r:=⟨_,rfl⟩;have hr':(n:Int) - (p:Int)=(r:Int):=by omega
 obtain ⟨M,hM⟩:∃ M,(if (0:Int) > s then 0 else s)=M:=⟨_,rfl⟩;obtain ⟨q,hq⟩:∃ q,lg s=q:=⟨_,rfl⟩
 have IK:(if (262144:Int)<M then 262144 else M)=(q:Int):=by
  rw [<- hq,MC,<- hM]
  split <;> split <;> omega
 have ajt:∀ (ts:Array TypeId) (t:TypeId) (W:World),(Builtin.max_ ts t #[.int .i64 s,.int .i64 0]).run Tryz.prog W=.ok (.int .i64 M) W:=fun ts t W=>by rw [run_max_int2,hM]
 have hmin:∀ (ts:Array TypeId) (t:TypeId) (W:World),(Builtin.min_ ts t #[.int .i64 M,.int .i64 262144]).run Tryz.prog W=.ok (.int .i64 q) W:=fun ts t W=>by rw [run_min_int2,IK]
 have hlg:q<=262144:=by rw [<- hq];exact Gr s
 have HC:Hid (cl p x=vl r+r+vl (tg s)+tl s):=by show _=_;unfold cl;rw [hk,hs,hr]
 have htg:(if 512<q then 2*q+1 else 2*q)=tg s:=by unfold tg;rw [hq]
 have PA:tl s=if 512<q then 4 else q:=by unfold tl;rw [hq]
 have htt:=AH s;have YO:(ah r).length<=10:=eI r;have hv2:(ah (tg s)).length<=10:=eI (tg s);clear hM hq IK;generalize tg s=g at *;generalize tl s=l at *;have HT:=hJ htg;have DZ:=hJ PA;have HR:=hJ hr;clear htg PA hr;have G1:=hJ (World.grownBy_alloc w (.cells #[.slice ao n c,.slice bo m d,.int .i64 s,.int .i64 f] 63) none);go_enter Tryz.func232,Tryz.ntmps232
 go_wp2_with fail
 refine (gG r _ (by omega)).mono ?_;rintro en w1 ⟨rfl,rfl⟩
 go_wp2_with fail
 refine (pP q _ hlg).mono ?_;rintro en w1 ⟨rfl,rfl⟩;rw [HT.out]
 go_wp2_with fail
 refine (gG g _ (by omega)).mono ?_;rintro en w1 ⟨rfl,rfl⟩
 go_wp2_with fail
 refine (eJ _ _).mono ?_;rintro en w1 ⟨rfl,rfl⟩
 by_cases h5:512<q
 ·have hd:decide ((512:Int)<(q:Int))=true:=decide_eq_true (by omega)
  rw [hd];go_wp2;go_ret;refine ⟨ct ?_,G1.out⟩;rw [HC.out,DZ.out,if_pos h5];simp only [vl];go_num
 ·have hd:decide ((512:Int)<(q:Int))=false:=decide_eq_false (by omega)
  rw [hd];go_wp2;go_ret;refine ⟨ct ?_,G1.out⟩;rw [HC.out,DZ.out,if_neg h5];simp only [vl];go_num
theorem AX {L:List It}(hm:L.length<=5000)(hk:∀ x∈L,x.key.length<=1000000):∀ i,i<=L.length->fZ (pre L) (L.take i)<=5005000000:=by
 intro i hi;have h:=Gt (pre L) 1000000 (L.take i) (fun x hx=>hk x (List.mem_of_mem_take hx));rw [List.length_take] at h;have h2:min i L.length*(1000000+534)<=5000*(1000000+534):=Nat.mul_le_mul_right _ (by omega);omega
theorem AY (a:Option Addr)(n cap:Nat)(L:List It)(w:World)(hl:Il w a L)(hn:L.length=n)(hm:n<=5000)(hk:∀ x∈L,x.key.length<=1000000) :
  Calls Tryz.prog 197 #[.slice a n cap] w fun en w'=>en=.returned (.int .i64 ((size L:Nat):Int))/\w.grownBy w' none:=by
 have HL:=hJ hl;have HP:Hid (∀ x∈L,pre L<=x.key.length):=fun x hx=>(dw x hx).1
 have HS:=hJ (AX (by omega) hk);have HM:Hid (size L=3+vl (pre L)+pre L+fZ (pre L) L):=rfl;have HN:=hJ (fun i h=>pJ (pre L) L i h);have hv:=eI (pre L)
 have hpl:pre L<=1000000:=by
  cases L with
  | nil=>exact Nat.zero_le _
  | cons x L=>exact Nat.le_trans (dw x List.mem_cons_self).1 (hk x List.mem_cons_self)
 have HK:=hJ hk;clear hl hk;go_enter Tryz.func197,Tryz.ntmps197
 go_wp2_with fail
 refine (qE a n cap L _ HL.out hn hm).mono ?_;rintro en w1 ⟨rfl,hg1⟩;have HG:=hJ hg1;clear hg1;generalize pre L=p at *
 go_wp2_with fail
 refine (gG p _ (by omega)).mono ?_;rintro en w2 ⟨rfl,rfl⟩;have hv':(ah p).length<=10:=hv;generalize Uf:(ah p).length=v at *;have HV:Hid (vl p=v):=Uf;clear Uf hv;go_wp2;go_loopw [4,6,17] (fun sn _ si wr=>∃ i:Nat,i<=n/\si=.int .i64 i/\sn=.int .i64 ((3+v+p+fZ p (L.take i):Nat):Int)/\w.grownBy wr none) (fun _ _ si _=>n - (intOf si).toNat)
 case atStart=>exact ⟨0,Nat.zero_le _,rfl,by simp [fZ],HG.out⟩
 case round =>
  obtain ⟨i,hi,rfl,rfl,hg⟩:=hrel;have bj:=hJ hg;have b1:=HS.out i (by omega);clear hg HG
  by_cases hlt:i<n
  ·obtain ⟨b,off,ao,m,c,bo,m2,d2,rfl,q2,q3,q4,q5,q6,q7,q8,q9,zY,DY⟩:=HL.out.row i (by omega)
   have c0:=bj.out.cell q2 (by simp);have c1:=bj.out.cell q3 (by simp);have c2:=bj.out.cell q4 (by simp);have c3:=bj.out.cell q5 (by simp);have hx:=cR (L:=L) (i:=i) (by omega);have tM:=q6.len;have nh:=HP.out _ hx;have Df:=HK.out _ hx;have b2:=Mq p (L.getD i aG);have HX:Hid (fZ p (L.take (i+1))=fZ p (L.take i)+(2+cl p (L.getD i aG))):=HN.out i (by omega);have HC:=hJ (fun (W:World)=>xY ao m c bo m2 d2 (L.getD i aG).size (L.getD i aG).first p W (L.getD i aG) tM rfl (by omega) (by omega));clear q2 q3 q4 q5 q6 q9;generalize (L.getD i aG).size=sz at *;generalize (L.getD i aG).first=fs at *
   generalize cl p (L.getD i aG)=C at *;generalize fZ p (L.take i)=U at *;have G2:=hJ (World.grownBy_alloc wr (.cells #[.slice ao m c,.slice bo m2 d2,.int .i64 sz,.int .i64 fs] 63) none);clear tM nh hx
   go_wp2_with fail
   refine (HC.out _).mono ?_;rintro en w2 ⟨rfl,hg2⟩;have eu:=hJ (gQ (gQ bj.out G2.out) hg2);clear hg2 G2;go_wp2;go_roundw
   case rel=>exact ⟨i+1,by omega,by go_num,by rw [HX.out];go_num,eu.out⟩
   case measure=>simp [intOf];omega
  ·have hin:i=n:=by omega
   subst hin;go_wp2;go_ret;refine ⟨ct ?_,bj.out⟩;rw [HM.out,HV.out,<- hn,List.take_length]
theorem nP {P:It->Bool}{L:List It}(h:i<L.length)(k:(L.take i).any P=false)(e:P (L.getD i aG)=false):(L.take (i+1)).any P=false:=by
 have hg:L.getD i aG=L[i]:=by simp [List.getD,List.getElem?_eq_getElem h]
 rw [List.take_add_one,List.getElem?_eq_getElem h,List.any_append,k];rw [hg] at e;simp [e]
theorem sG {P:It->Bool}{L:List It}(h:i<L.length)(e:P (L.getD i aG)=true):L.any P=true:=List.any_eq_true.2 ⟨_,cR h,e⟩
theorem vZ (ao:Option Addr)(n c:Nat)(bo:Option Addr)(m d:Nat)(s f:Int)(w:World)(x:It)(hk:x.key.length=n)(hs:x.size=s) :
  Calls Tryz.prog 227 #[.agg #[.slice ao n c,.slice bo m d,.int .i64 s,.int .i64 f]] w fun en w'=>en=.returned (.bool (ws x))/\w.grownBy w' none:=by
 have HW:Hid (ws x=(!(valid n) || decide (s<0) || decide (262144<s))):=by show _=_;unfold ws valid;rw [hk,hs]
 have G1:=hJ (World.grownBy_alloc w (.cells #[.slice ao n c,.slice bo m d,.int .i64 s,.int .i64 f] 63) none);go_enter Tryz.func227,Tryz.ntmps227
 go_wp2_with fail
 refine (wU _ _ _ _).mono ?_;rintro en w1 ⟨rfl,rfl⟩;generalize valid n=v at *;cases v with
 | false =>
  go_wp2;go_ret;exact ⟨by rw [HW.out];rfl,G1.out⟩
 | true =>
  by_cases h0:s<0
  ·go_wp2
   go_ret;exact ⟨by rw [HW.out];simp [h0],G1.out⟩
  ·go_wp2
   go_ret;exact ⟨by rw [HW.out];simp,G1.out⟩
theorem tN (ao:Option Addr)(n c:Nat)(bo:Option Addr)(m d:Nat)(s f:Int)(w:World)(x:It)(hv:x.val.length=m)(hs:x.size=s)(hf:x.first=f) :
  Calls Tryz.prog 228 #[.agg #[.slice ao n c,.slice bo m d,.int .i64 s,.int .i64 f]] w fun en w'=>en=.returned (.bool (wv x))/\w.grownBy w' none:=by
 have HW:Hid (wv x=if 512<s then decide (m≠0) || decide (f<2) || decide (524287<=f) else decide ((m:Int)≠s) || decide (f≠0)):=by show _=_;unfold wv;rw [hv,hs,hf]
 have G1:=hJ (World.grownBy_alloc w (.cells #[.slice ao n c,.slice bo m d,.int .i64 s,.int .i64 f] 63) none);go_enter Tryz.func228,Tryz.ntmps228
 go_wp2_with fail
 refine (eJ _ _).mono ?_;rintro en w1 ⟨rfl,rfl⟩
 by_cases h5:512<s
 ·rw [decide_eq_true h5]
  rw [if_pos h5] at HW
  by_cases h0:m=0
  ·subst h0
   by_cases h2:f<2
   ·go_wp2
    go_ret;exact ⟨by rw [HW.out];simp [h2],G1.out⟩
   ·go_wp2
    go_ret;exact ⟨by rw [HW.out];simp,G1.out⟩
  ·go_wp2
   go_ret;exact ⟨by rw [HW.out];simp [h0],G1.out⟩
 ·rw [decide_eq_false h5]
  rw [if_neg h5] at HW
  by_cases h0:(m:Int)=s
  ·go_wp2
   go_ret;refine ⟨?_,G1.out⟩;rw [HW.out]
   by_cases hz:f=0 <;> simp [h0,hz]
  ·go_wp2
   go_ret;exact ⟨by rw [HW.out];simp [h0],G1.out⟩
theorem rF (a:Option Addr)(n cap:Nat)(L:List It)(w:World)(hl:Il w a L)(hn:L.length=n)(hm:n<=5000) :
  Calls Tryz.prog 269 #[.slice a n cap,.func (.func 227) #[] #[]] w fun en w'=>(∃ r:Int,en=.returned (.int .i64 r)/\(r<0↔L.any ws=false))/\w.grownBy w' none:=by
 have HL:=hJ hl;clear hl;go_enter Tryz.func269,Tryz.ntmps269;go_wp2;go_loopw [5,8] (fun _ si wr=>∃ i:Nat,i<=n/\si=.int .i64 i/\(L.take i).any ws=false/\w.grownBy wr none) (fun _ si _=>n - (intOf si).toNat)
 case atStart=>exact ⟨0,Nat.zero_le _,rfl,by simp,World.grownBy.refl _ _⟩
 case round =>
  obtain ⟨i,hi,rfl,ha,hg⟩:=hrel;have bj:=hJ hg;have HA:=hJ ha;clear hg ha
  by_cases hlt:i<n
  ·obtain ⟨b,off,ao,m,c,bo,m2,d2,rfl,q2,q3,q4,q5,q6,q7,q8,q9,zY,DY⟩:=HL.out.row i (by omega)
   have c0:=bj.out.cell q2 (by simp);have c1:=bj.out.cell q3 (by simp);have c2:=bj.out.cell q4 (by simp);have c3:=bj.out.cell q5 (by simp);have HX:Hid (ws (L.getD i aG)=false->(L.take (i+1)).any ws=false):=fun e=>nP (by omega) HA.out e
   have HY:Hid (ws (L.getD i aG)=true->L.any ws=true):=fun e=>sG (by omega) e
   have HC:=hJ (fun (W:World)=>vZ ao m c bo m2 d2 (L.getD i aG).size (L.getD i aG).first W (L.getD i aG) q6.len rfl);clear q2 q3 q4 q5 q6 q9;generalize (L.getD i aG).size=sz at *;generalize (L.getD i aG).first=fs at *
   generalize ws (L.getD i aG)=bb at *
   go_wp2_with fail
   refine (HC.out _).mono ?_;rintro en w2 ⟨rfl,hg2⟩;have eu:=hJ (gQ bj.out hg2);clear hg2;cases bb with
   | true =>
    have lR:=hJ (HY.out rfl);clear HX HY;go_wp2;go_ret;refine ⟨⟨_,rfl,?_⟩,eu.out⟩;rw [lR.out];simp
   | false =>
    have jK:=hJ (HX.out rfl);clear HX HY;go_wp2;go_roundw
    case rel=>exact ⟨i+1,by omega,by go_num,jK.out,eu.out⟩
    case measure=>simp [intOf];omega
  ·have hin:i=n:=by omega
   subst hin;go_wp2;go_ret;refine ⟨⟨-1,rfl,?_⟩,bj.out⟩;have:=HA.out;rw [<- hn,List.take_length] at this;rw [this];simp
theorem mG (a:Option Addr)(n cap:Nat)(L:List It)(w:World)(hl:Il w a L)(hn:L.length=n)(hm:n<=5000) :
  Calls Tryz.prog 226 #[.slice a n cap,.func (.func 227) #[] #[]] w fun en w'=>en=.returned (.bool (L.any ws))/\w.grownBy w' none:=by
 go_enter Tryz.func226,Tryz.ntmps226
 go_wp2_with fail
 refine (rF a n cap L _ hl hn hm).mono ?_;rintro en w1 ⟨⟨r,rfl,hr⟩,hg⟩;have HR:=hJ hr;have HG:=hJ hg;clear hr hg hl
 by_cases h0:r<0
 ·go_wp2
  go_ret;exact ⟨by rw [HR.out.1 h0];simp [h0],HG.out⟩
 ·have this:Hid (L.any ws=true):=by
   show _=_
   cases hb:L.any ws with
   | true=>rfl
   | false=>exact absurd (HR.out.2 hb) h0
  go_wp2;go_ret;exact ⟨by rw [this.out];rfl,HG.out⟩
theorem pQ (a:Option Addr)(n cap:Nat)(L:List It)(w:World)(hl:Il w a L)(hn:L.length=n)(hm:n<=5000) :
  Calls Tryz.prog 269 #[.slice a n cap,.func (.func 228) #[] #[]] w fun en w'=>(∃ r:Int,en=.returned (.int .i64 r)/\(r<0↔L.any wv=false))/\w.grownBy w' none:=by
 have HL:=hJ hl;clear hl;go_enter Tryz.func269,Tryz.ntmps269;go_wp2;go_loopw [5,8] (fun _ si wr=>∃ i:Nat,i<=n/\si=.int .i64 i/\(L.take i).any wv=false/\w.grownBy wr none) (fun _ si _=>n - (intOf si).toNat)
 case atStart=>exact ⟨0,Nat.zero_le _,rfl,by simp,World.grownBy.refl _ _⟩
 case round =>
  obtain ⟨i,hi,rfl,ha,hg⟩:=hrel;have bj:=hJ hg;have HA:=hJ ha;clear hg ha
  by_cases hlt:i<n
  ·obtain ⟨b,off,ao,m,c,bo,m2,d2,rfl,q2,q3,q4,q5,q6,q7,q8,q9,zY,DY⟩:=HL.out.row i (by omega)
   have c0:=bj.out.cell q2 (by simp);have c1:=bj.out.cell q3 (by simp);have c2:=bj.out.cell q4 (by simp);have c3:=bj.out.cell q5 (by simp);have HX:Hid (wv (L.getD i aG)=false->(L.take (i+1)).any wv=false):=fun e=>nP (by omega) HA.out e
   have HY:Hid (wv (L.getD i aG)=true->L.any wv=true):=fun e=>sG (by omega) e
   have HC:=hJ (fun (W:World)=>tN ao m c bo m2 d2 (L.getD i aG).size (L.getD i aG).first W (L.getD i aG) q9.len rfl rfl);clear q2 q3 q4 q5 q6 q9;generalize (L.getD i aG).size=sz at *;generalize (L.getD i aG).first=fs at *
   generalize wv (L.getD i aG)=bb at *
   go_wp2_with fail
   refine (HC.out _).mono ?_;rintro en w2 ⟨rfl,hg2⟩;have eu:=hJ (gQ bj.out hg2);clear hg2;cases bb with
   | true =>
    have lR:=hJ (HY.out rfl);clear HX HY;go_wp2;go_ret;refine ⟨⟨_,rfl,?_⟩,eu.out⟩;rw [lR.out];simp
   | false =>
    have jK:=hJ (HX.out rfl);clear HX HY;go_wp2;go_roundw
    case rel=>exact ⟨i+1,by omega,by go_num,jK.out,eu.out⟩
    case measure=>simp [intOf];omega
  ·have hin:i=n:=by omega
   subst hin;go_wp2;go_ret;refine ⟨⟨-1,rfl,?_⟩,bj.out⟩;have:=HA.out;rw [<- hn,List.take_length] at this;rw [this];simp
theorem lS (a:Option Addr)(n cap:Nat)(L:List It)(w:World)(hl:Il w a L)(hn:L.length=n)(hm:n<=5000) :
  Calls Tryz.prog 226 #[.slice a n cap,.func (.func 228) #[] #[]] w fun en w'=>en=.returned (.bool (L.any wv))/\w.grownBy w' none:=by
 go_enter Tryz.func226,Tryz.ntmps226
 go_wp2_with fail
 refine (pQ a n cap L _ hl hn hm).mono ?_;rintro en w1 ⟨⟨r,rfl,hr⟩,hg⟩;have HR:=hJ hr;have HG:=hJ hg;clear hr hg hl
 by_cases h0:r<0
 ·go_wp2
  go_ret;exact ⟨by rw [HR.out.1 h0];simp [h0],HG.out⟩
 ·have this:Hid (L.any wv=true):=by
   show _=_
   cases hb:L.any wv with
   | true=>rfl
   | false=>exact absurd (HR.out.2 hb) h0
  go_wp2;go_ret;exact ⟨by rw [this.out];rfl,HG.out⟩
theorem Ea (a:Option Addr)(n cap:Nat)(L:List It)(w:World)(hl:Il w a L)(hb:Ib L)(hn:L.length=n)(hm:n<=5000) :
  Calls Tryz.prog 229 #[.slice a n cap] w fun en w'=>en=.returned (.bool (IG L))/\w.grownBy w' none:=by
 have HL:=hJ hl;have HB:=hJ hb;clear hl hb;go_enter Tryz.func229,Tryz.ntmps229;go_wp2;go_loopw [3] (fun si wr=>∃ i:Nat,i<=n/\si=.int .i64 ((i+1:Nat):Int)/\(∀ j,j<i->j+1<n->cL (L.getD j aG).key (L.getD (j+1) aG).key<0)/\Qt w wr) (fun si _=>n+1 - (intOf si).toNat)
 case atStart=>exact ⟨0,Nat.zero_le _,rfl,fun j hj=>by omega,Qt.refl _⟩
 case round =>
  obtain ⟨i,hi,rfl,ha,hq⟩:=hrel;have HQ:=hJ hq;have HA:=hJ ha;clear hq ha
  by_cases hlt:i+1<n
  ·obtain ⟨b,off,ao,m,c,bo,m2,d2,rfl,q2,q3,q4,q5,q6,q7,q8,q9,zY,DY⟩:=HL.out.row i (by omega)
   obtain ⟨b',off',eX,m',c',sH,m2',d2',e1,r2,r3,r4,r5,r6,r7,r8,r9,Zs,Zt⟩:=HL.out.row (i+1) (by omega);simp only [Option.some.injEq,Addr.mk.injEq] at e1;obtain ⟨rfl,rfl,_⟩:=e1;have c0:=(HQ.out.cell _).trans q2;have c1:=(HQ.out.cell _).trans r2;have HC:=hJ (fun (W:World) (hW:W.heap=wr.heap)=>qA ao eX m m' c c' _ _ W (q6.heap (hW.trans HQ.out.heap)) (r6.heap (hW.trans HQ.out.heap)) (HB.out.at (by omega)).key (HB.out.at (by omega)).key)
   have HD:Hid (cL (L.getD i aG).key (L.getD (i+1) aG).key<0->∀ j,j<i+1->j+1<n->cL (L.getD j aG).key (L.getD (j+1) aG).key<0):=by
    intro h j hj rG
    by_cases e:j=i
    ·subst e;exact h
    ·exact HA.out j (by omega) rG
   have HE:Hid (¬ cL (L.getD i aG).key (L.getD (i+1) aG).key<0->IG L=false):=by
    intro h;cases hu:IG L with
    | false=>rfl
    | true=>exact absurd ((nI L).1 hu i (by omega)) h
   clear q2 q3 q4 q5 q6 q9 r2 r3 r4 r5 r6 r9;generalize cL (L.getD i aG).key (L.getD (i+1) aG).key=z at *;have g1:((i+1:Nat):Int)<(n:Int):=by omega
   have g0:(0:Int)<=((i+1:Nat):Int):=by omega
   have g2:((i+1:Nat):Int) - 1=(i:Int):=by omega
   have g3:(i:Int)<(n:Int):=by omega
   have g4:(0:Int)<=(i:Int):=by omega
   obtain ⟨j,hj⟩:∃ j,i+1=j:=⟨_,rfl⟩;rw [hj] at g1 g0 g2 c1 ⊢;have HJ:=hJ hj;clear hj
   by_cases hz:z<0
   ·have hz':decide (0<=z)=false:=decide_eq_false (by omega)
    go_wp2
    go_quiet ((go_at_call 272;exact Calls.quiet_of_same (HC.out _ rfl)))
    go_wp2;go_roundw
    case rel=>exact ⟨i+1,by omega,by have:=HJ.out;go_num,HD.out hz,HQ.out.trans (Qt.drewN _ _)⟩
    case measure=>have:=HJ.out;simp [intOf];omega
   ·have hz':decide (0<=z)=true:=decide_eq_true (by omega)
    go_wp2
    go_quiet ((go_at_call 272;exact Calls.quiet_of_same (HC.out _ rfl)))
    go_wp2;go_ret;exact ⟨by rw [HE.out hz];rfl,(HQ.out.trans (Qt.drewN _ _)).grown _⟩
  ·have g1:¬ ((i+1:Nat):Int)<(n:Int):=by omega
   obtain ⟨j,hj⟩:∃ j,i+1=j:=⟨_,rfl⟩;rw [hj] at g1 ⊢;have HU:Hid (IG L=true):=(nI L).2 (fun k hk=>HA.out k (by omega) (by omega));go_wp2;go_ret;exact ⟨by rw [HU.out];rfl,HQ.out.grown _⟩
theorem kq (a:Option Addr)(n cap:Nat)(L:List It)(w:World)(hl:Il w a L)(hb:Ib L)(hn:L.length=n)(hm:n<=5000) :
  Calls Tryz.prog 196 #[.slice a n cap] w fun en w'=>en=.returned (.int .i64 (wrong L))/\w.grownBy w' none:=by
 have HW:Hid (wrong L=if n=0 then 40 else if L.any ws then 41 else if L.any wv then 40 else if IG L then 0 else 30):=by show _=_;unfold wrong;rw [hn]
 have HL:=hJ hl;clear hl
 by_cases h0:n=0
 ·rw [if_pos h0] at HW
  go_enter Tryz.func196,Tryz.ntmps196;go_wp2;go_ret;exact ⟨by rw [HW.out];rfl,World.grownBy.refl _ _⟩
 ·rw [if_neg h0] at HW
  go_enter Tryz.func196,Tryz.ntmps196
  go_wp2_with fail
  refine (mG a n cap L _ HL.out hn hm).mono ?_;rintro en w1 ⟨rfl,hg1⟩;have G1:=hJ hg1;clear hg1;generalize L.any ws=b1 at *;cases b1 with
  | true =>
   go_wp2;go_ret;exact ⟨by rw [HW.out];rfl,G1.out⟩
  | false =>
   go_wp2_with fail
   refine (lS a n cap L _ (HL.out.ae G1.out) hn hm).mono ?_;rintro en w2 ⟨rfl,hg2⟩;have G2:=hJ (gQ G1.out hg2);clear hg2 G1;generalize L.any wv=b2 at *;cases b2 with
   | true =>
    go_wp2;go_ret;exact ⟨by rw [HW.out];rfl,G2.out⟩
   | false =>
    go_wp2_with fail
    refine (Ea a n cap L _ (HL.out.ae G2.out) hb hn hm).mono ?_;rintro en w3 ⟨rfl,hg3⟩;have G3:=hJ (gQ G2.out hg3);clear hg3 G2;generalize IG L=b3 at *;cases b3 with
    | true =>
     go_wp2;go_ret;exact ⟨by rw [HW.out];rfl,G3.out⟩
    | false =>
     go_wp2;go_ret;exact ⟨by rw [HW.out];rfl,G3.out⟩
theorem fH (p:Nat):∀ (L:List It) (i:Nat),i<L.length->cells p (L.take (i+1))=cells p (L.take i)++cb p (L.getD i aG)
 | x::L,0,_=>by simp [cells]
 | x::L,i+1,h=>by
  have:=fH p L i (by simpa using h);simp only [List.take_succ_cons,cells,List.getD_cons_succ];rw [this,List.append_assoc]
theorem mH (p:Nat):∀ (L:List It) (a i:Nat),i<L.length->slots p a (L.take (i+1))=slots p a (L.take i)++lb 2 (a+(cells p (L.take i)).length)
 | x::L,a,0,_=>by simp [slots,cells]
 | x::L,a,i+1,h=>by
  have:=mH p L (a+(cb p x).length) i (by simpa using h);simp only [List.take_succ_cons,slots,cells];rw [this,List.append_assoc,List.length_append,Nat.add_assoc]
theorem bQ {X Y Z V:List Int}{p:Nat}(hp:X.length=p)(hV:Y.length=V.length):splice (X++(Y++Z)) p V=X++(V++Z):=by
 subst hp;unfold splice;rw [List.take_left,<- hV,<- List.append_assoc X Y Z,<- List.length_append,List.drop_left]
def cst (L:List It):Nat:=(aZ L).length+2*L.length
def laid (L:List It)(i:Nat):List Int :=
 aZ L++(slots (pre L) (cst L) (L.take i)++(List.replicate (2*(L.length - i)) 0++(cells (pre L) (L.take i)++List.replicate (4092 - (cst L+(cells (pre L) (L.take i)).length)) 0)))
theorem tO (p:Nat):∀ (L:List It) (i:Nat),(cells p (L.take i)).length<=(cells p L).length
 | [],i=>by simp [cells]
 | x::L,0=>by simp [cells]
 | x::L,i+1=>by
  have:=tO p L i;simp only [List.take_succ_cons,cells,List.length_append];omega
theorem IL (L:List It)(h:cst L<=4092):splice (List.replicate 4092 0) 0 (aZ L)=laid L 0:=by
 have h':(aZ L).length+2*L.length<=4092:=h;unfold laid splice;simp only [List.take_zero,List.nil_append,slots,cells,List.length_nil,Nat.add_zero,Nat.sub_zero,Nat.zero_add,List.drop_replicate,List.replicate_append_replicate]
 congr 2
 unfold cst;omega
theorem MD (L:List It):laid L L.length=body L:=by
 unfold laid body used;rw [List.take_length,Nat.sub_self,Nat.mul_zero,List.replicate_zero,List.nil_append]
 have e:4092 - (cst L+(cells (pre L) L).length)=4092 - (aZ L++(slots (pre L) ((aZ L).length+2*L.length) L++cells (pre L) L)).length:=by
  rw [List.length_append,List.length_append,cx];unfold cst;omega
 rw [e];unfold cst;simp only [List.append_assoc]
theorem IM (L:List It)(i:Nat)(hi:i<L.length)(h:cst L+(cells (pre L) (L.take i)).length+(cb (pre L) (L.getD i aG)).length<=4092) :
  splice (splice (laid L i) ((aZ L).length+2*i) (lb 2 (cst L+(cells (pre L) (L.take i)).length))) (cst L+(cells (pre L) (L.take i)).length) (cb (pre L) (L.getD i aG))=laid L (i+1):=by
 have hs:=cx (pre L) (L.take i) (cst L);rw [List.length_take] at hs
 have e1:splice (laid L i) ((aZ L).length+2*i) (lb 2 (cst L+(cells (pre L) (L.take i)).length)) =
   (aZ L++slots (pre L) (cst L) (L.take (i+1)))++(List.replicate (2*(L.length - (i+1))) 0++(cells (pre L) (L.take i)++List.replicate (4092 - (cst L+(cells (pre L) (L.take i)).length)) 0)):=by
  unfold laid;rw [show 2*(L.length - i)=2+2*(L.length - (i+1)) by omega,<- List.replicate_append_replicate,List.append_assoc (List.replicate 2 0),<- List.append_assoc (aZ L),bQ (by rw [List.length_append,hs];omega) (by rw [aL,List.length_replicate]),mH _ _ _ _ hi];simp only [List.append_assoc]
 rw [e1];have hs1:=cx (pre L) (L.take (i+1)) (cst L);rw [List.length_take] at hs1
 have hX:((aZ L++slots (pre L) (cst L) (L.take (i+1)))++(List.replicate (2*(L.length - (i+1))) 0++cells (pre L) (L.take i))).length=cst L+(cells (pre L) (L.take i)).length:=by
  simp only [List.length_append,hs1,List.length_replicate];unfold cst;omega
 rw [show (aZ L++slots (pre L) (cst L) (L.take (i+1)))++(List.replicate (2*(L.length - (i+1))) 0++(cells (pre L) (L.take i)++List.replicate (4092 - (cst L+(cells (pre L) (L.take i)).length)) 0)) =
  ((aZ L++slots (pre L) (cst L) (L.take (i+1)))++(List.replicate (2*(L.length - (i+1))) 0++cells (pre L) (L.take i)))++(List.replicate (cb (pre L) (L.getD i aG)).length 0++List.replicate (4092 - (cst L+(cells (pre L) (L.take (i+1))).length)) 0) by
   rw [List.replicate_append_replicate,fH _ _ _ hi,List.length_append];simp only [List.append_assoc];rw [show (cb (pre L) (L.getD i aG)).length+(4092 - (cst L+((cells (pre L) (L.take i)).length+(cb (pre L) (L.getD i aG)).length)))=4092 - (cst L+(cells (pre L) (L.take i)).length) by omega]]
 rw [bQ hX (by simp)];unfold laid;rw [fH _ _ _ hi];simp only [List.append_assoc]
theorem ME (L:List It)(i:Nat)(hi:i<=L.length)(h:cst L+(cells (pre L) (L.take i)).length<=4092):(laid L i).length=4092:=by
 unfold laid;simp only [List.length_append,cx,List.length_replicate,List.length_take];have:cst L=(aZ L).length+2*L.length:=rfl;omega
theorem Eb {L:List It}(h:wrong L=0)(h2:size L<=4092)(i:Nat):cst L+(cells (pre L) (L.take i)).length<=4092:=by
 have h1:=tJ h;have h3:=tO (pre L) L i;unfold used at h1;rw [List.length_append,List.length_append,cx] at h1;unfold cst;omega
end Go.Proofs.YtgldkdbkaachkaaGreatDoor
