import Derived.Test.YteaahinjcfjngaaGreatQ12
import Derived.Laws.CopyOwn
import Derived.Deep.RegionLaw
import Derived.Test.YteaahinjcfjngaaGreatQ5
set_option maxRecDepth 100000
set_option maxHeartbeats 4000000
namespace Go.Proofs.YteaahinjcfjngaaGreat
open Go.RowKit
structure Il (w:World)(a:Option Addr)(L:List It):Prop where
 row:∀ i,i<L.length->∃ b off ao n c bo m d,a=some ⟨b,off,none⟩/\w.cell? ⟨b,off+i*4,none⟩=some (.slice ao n c)/\w.cell? ⟨b,off+i*4+1,none⟩=some (.slice bo m d) /\
  w.cell? ⟨b,off+i*4+2,none⟩=some (.int .i64 (L.getD i it0).size)/\w.cell? ⟨b,off+i*4+3,none⟩=some (.int .i64 (L.getD i it0).first) /\
  Byt w ao n c (L.getD i it0).key/\n<=c/\c<=9223372036854775807/\Byt w bo m d (L.getD i it0).val/\m<=d/\d<=9223372036854775807
theorem getD_mem {L:List It}{i:Nat}(h:i<L.length):L.getD i it0∈L:=by
 simp [List.getD,List.getElem?_eq_getElem h]
theorem Il.heap {w w':World}{a:Option Addr}{L:List It}(h:Il w a L)(e:w'.heap=w.heap):Il w' a L:=by
 refine ⟨fun i hi=>?_⟩;obtain ⟨b,off,ao,n,c,bo,m,d,h1,h2,h3,h4,h5,h6,h7,h8,h9,h10,h11⟩:=h.row i hi;have k:∀ ad:Addr,w'.cell? ad=w.cell? ad:=fun ad=>World.cell?_of_block (by rw [e])
 exact ⟨b,off,ao,n,c,bo,m,d,h1,(k _).trans h2,(k _).trans h3,(k _).trans h4,(k _).trans h5,h6.heap e,h7,h8,h9.heap e,h10,h11⟩
theorem Il.keptN {w w':World}{a:Option Addr}{L:List It}(h:Il w a L)(hg:w.grownBy w' none):Il w' a L:=by
 refine ⟨fun i hi=>?_⟩;obtain ⟨b,off,ao,n,c,bo,m,d,h1,h2,h3,h4,h5,h6,h7,h8,h9,h10,h11⟩:=h.row i hi;exact ⟨b,off,ao,n,c,bo,m,d,h1,hg.cell h2 (by simp),hg.cell h3 (by simp),hg.cell h4 (by simp),hg.cell h5 (by simp),h6.keptN hg,h7,h8,h9.keptN hg,h10,h11⟩
theorem Il.zero (w:World)(a:Option Addr):Il w a []:=⟨fun i hi=>by simp at hi⟩
theorem info_bytes:(Tryz.prog.info? 62).map (fun i=>(i.zero,i.size,i.bytes))=some (some (.slice none 0 0),1,24):=by kernel_rfl
theorem key_map (L:List It)(i:Nat):(L.map It.key).getD i []=(L.getD i it0).key:=by
 simp only [List.getD,List.getElem?_map];cases L[i]? <;> rfl
theorem commonAll_any (a:Option Addr)(n cap:Nat)(L:List It)(w:World)(hl:Lz w a (L.map It.key))(hn:L.length=n)(hc:n<=cap)(hcap:cap<=9223372036854775807) :
  Calls Tryz.prog 112 #[.slice a n cap] w fun en w'=>en=.returned (.int .i64 ((pre L:Nat):Int))/\w.grownBy w' none:=by
 cases L with
 | nil =>
  obtain rfl:n=0:=by simpa using hn.symm
  refine (commonAll_none a cap w).mono ?_;rintro en w' ⟨rfl,rfl⟩;exact ⟨rfl,World.grownBy.refl _ _⟩
 | cons x L =>
  have:=commonAll_some a cap x.key (L.map It.key) w hl (by rw [List.length_map];simp at hn;omega) hcap;rw [List.length_map] at this;obtain rfl:L.length+1=n:=by simpa using hn
  exact this
structure Kr (w0 w:World)(a:Option Addr)(G n i:Nat):Prop where
 ex:∃ cur:Array Value,w.heap[G]?=some (.cells cur 62 (0,0))/\cur.size=n/\∀ j,j<i->∃ b off ao m c,a=some ⟨b,off,none⟩/\w0.cell? ⟨b,off+j*4,none⟩=some (.slice ao m c)/\cur[j]?=some (.slice ao m c)
theorem Kr.lt {w0 w:World}{a:Option Addr}{G n i:Nat}(h:Kr w0 w a G n i):G<w.heap.size:=by
 obtain ⟨cur,h1,_⟩:=h.ex;exact (Array.getElem?_eq_some_iff.1 h1).1
theorem Kr.keptN {w0 w w':World}{a:Option Addr}{G n i:Nat}(h:Kr w0 w a G n i)(hg:w.grownBy w' none):Kr w0 w' a G n i:=by
 have hl:=h.lt;obtain ⟨cur,h1,h2,h3⟩:=h.ex;exact ⟨cur,(hg.block G hl (by simp)).trans h1,h2,h3⟩
theorem Kr.frozen {w0 w:World}{a:Option Addr}{G n i:Nat}(h:Kr w0 w a G n i)(j:Nat):w.frozen? ⟨G,j,none⟩=false:=by
 obtain ⟨cur,h1,_⟩:=h.ex;exact frozen_of_row w G j _ _ h1
theorem Kr.cell {w0 w:World}{a:Option Addr}{G n i:Nat}(h:Kr w0 w a G n i)(j:Nat)(hj:j<n):∃ v,w.cell? ⟨G,j,none⟩=some v:=by
 obtain ⟨cur,h1,h2,_⟩:=h.ex;exact ⟨cur[j]'(by omega),by rw [cell_of_row w G j _ _ _ h1];exact Array.getElem?_eq_getElem (by omega)⟩
theorem Kr.set {w0 w:World}{b off:Nat}{G n i:Nat}{ao:Option Addr}{m c:Nat}(h:Kr w0 w (some ⟨b,off,none⟩) G n i)(hi:i<n)(hc:w0.cell? ⟨b,off+i*4,none⟩=some (.slice ao m c)) :
  Kr w0 (w.setCell ⟨G,i,none⟩ (.slice ao m c)) (some ⟨b,off,none⟩) G n (i+1):=by
 obtain ⟨cur,h1,h2,h3⟩:=h.ex;refine ⟨cur.setIfInBounds i (.slice ao m c),heap_setCell_same w G i cur _ _ h1,by simpa using h2,fun j hj=>?_⟩
 by_cases e:i=j
 ·subst e
  exact ⟨b,off,ao,m,c,rfl,hc,by simp [h2,hi]⟩
 ·obtain ⟨b',off',ao',m',c',k1,k2,k3⟩:=h3 j (by omega)
  exact ⟨b',off',ao',m',c',k1,k2,by rw [Array.getElem?_setIfInBounds_ne e];exact k3⟩
theorem Kr.lz {w0 w:World}{a:Option Addr}{G n:Nat}{L:List It}(h:Kr w0 w a G n n)(hn:L.length=n)(hl:Il w0 a L)(hg:w0.grownBy w none):Lz w (some ⟨G,0,none⟩) (L.map It.key):=by
 obtain ⟨cur,h1,h2,h3⟩:=h.ex;refine ⟨fun i hi=>?_⟩;have hi':i<L.length:=by simpa using hi
 obtain ⟨b,off,ao,m,c,k1,k2,k3⟩:=h3 i (by omega);obtain ⟨b',off',ao',m',c',bo,m2,d2,q1,q2,q3,q4,q5,q6,q7,q8,_⟩:=hl.row i hi';rw [q1] at k1;simp only [Option.some.injEq,Addr.mk.injEq] at k1;obtain ⟨rfl,rfl,_⟩:=k1;rw [q2] at k2;obtain ⟨rfl,rfl,rfl⟩:ao'=ao/\m'=m/\c'=c:=by simpa using k2
 refine ⟨G,0,ao',m',c',rfl,?_,?_,q7,q8⟩
 ·rw [Nat.zero_add,cell_of_row w G i _ _ _ h1];exact k3
 ·rw [key_map];exact q6.keptN hg
theorem Kr.start {w0 w:World}{a:Option Addr}{base G n:Nat}{xs:List Value}(h:w.ownsRow base 62 1 (.slice (some ⟨G,0,none⟩) n n) n xs):Kr w0 w a G n 0:=by
 rcases h.2 with ⟨e,_⟩ | ⟨g',cap',cur,hv,hb,hg,hc,hm,hs,ht⟩
 ·cases e
 ·injection hv with e1 _ e3
  simp only [Option.some.injEq,Addr.mk.injEq] at e1;obtain ⟨rfl,_⟩:=e1;subst e3;exact ⟨cur,hg,by simpa using hs,fun j hj=>by omega⟩
theorem common4_any (a:Option Addr)(n cap:Nat)(L:List It)(w:World)(hl:Il w a L)(hn:L.length=n)(hm:n<=5000) :
  Calls Tryz.prog 115 #[.slice a n cap] w fun en w'=>en=.returned (.int .i64 ((pre L:Nat):Int))/\w.grownBy w' none:=by
 obtain ⟨i0,hi,hz0,hz1,hz2⟩:=info_parts info_bytes;have HL:=hZq hl;clear hl;go_enter Tryz.func115,Tryz.ntmps115
 go_wp2_with (at_make;refine wpList_make_full _ rfl _ _ 59 rfl w.heap.size 62 i0 (.slice none 0 0) 1 Tryz.underlying59 hi hz0 hz1 _ _ _ _ n rfl rfl rfl rfl ?b2 ?b3 (Nat.le_refl _) ?_)
 case b2=>rw [hz2];omega
 case b3=>unfold maxLen;omega
 intro w0 hown0 hg0;have HK:=hZq (Kr.start (w0:=w) (a:=a) hown0);have HG:=hZq hg0;clear hown0 hg0;go_wp2;go_loopw [11] (fun si wr=>∃ i:Nat,i<=n/\si=.int .i64 i/\Kr w wr a w.heap.size n i/\w.grownBy wr none) (fun si _=>n - (intOf si).toNat)
 case atStart=>exact ⟨0,Nat.zero_le _,rfl,HK.out,HG.out⟩
 case round =>
  obtain ⟨i,hi',rfl,hk,hg⟩:=hrel;have HK1:=hZq hk;have HG1:=hZq hg;clear hk hg HK HG
  by_cases hlt:i<n
  ·obtain ⟨b,off,ao,m,c,bo,m2,d2,rfl,q2,q3,q4,q5,q6,q7,q8,q9,q10,q11⟩:=HL.out.row i (by omega)
   have c0:=HG1.out.cell q2 (by simp);have c1:=HG1.out.cell q3 (by simp);have c2:=HG1.out.cell q4 (by simp);have c3:=HG1.out.cell q5 (by simp);have HQ:=hZq q2;clear q2 q3 q4 q5 q6 q9;generalize (L.getD i it0).size=sz at *;generalize (L.getD i it0).first=fs at *
   have G2:=hZq (World.grownBy_alloc wr (.cells #[.slice ao m c,.slice bo m2 d2,.int .i64 sz,.int .i64 fs] 122) none);have K2:=hZq (HK1.out.keptN G2.out);have f2:=K2.out.frozen i;obtain ⟨v2,e2⟩:=K2.out.cell i hlt;go_wp2;go_roundw
   case rel=>exact ⟨i+1,by omega,by go_num,K2.out.set hlt HQ.out,grown_new (gZq HG1.out G2.out) (grown_cell _ _ _ _) (Nat.le_refl _)⟩
   case measure=>simp [intOf];omega
  ·have hin:i=n:=by omega
   subst hin
   go_wp2_with fail
   refine (commonAll_any _ _ _ L _ (HK1.out.lz hn HL.out HG1.out) hn (Nat.le_refl _) (by omega)).mono ?_;rintro en w1 ⟨rfl,hg2⟩;have HG2:=hZq (gZq HG1.out hg2);clear hg2;go_wp2;go_ret;exact ⟨rfl,HG2.out⟩
theorem chained_any (s:Int)(w:World):Calls Tryz.prog 139 #[.int .i64 s] w fun en w'=>en=.returned (.bool (decide (512<s)))/\w'=w:=by
 go_enter Tryz.func139,Tryz.ntmps139;go_wp2;go_ret;exact ⟨rfl,rfl⟩
theorem tagOf_any (s:Nat)(w:World)(h:s<=262144):Calls Tryz.prog 138 #[.int .i64 s] w fun en w'=>en=.returned (.int .u64 ((if 512<s then 2*s+1 else 2*s:Nat):Int))/\w'=w:=by
 by_cases h5:512<s
 ·rw [if_pos h5]
  have hd:decide ((512:Int)<(s:Int))=true:=decide_eq_true (by omega);go_enter Tryz.func138,Tryz.ntmps138
  go_wp2_with fail
  refine (chained_any _ _).mono ?_;rintro en w1 ⟨rfl,rfl⟩;rw [hd];go_wp2;go_ret;exact ⟨by go_num,rfl⟩
 ·rw [if_neg h5]
  have hd:decide ((512:Int)<(s:Int))=false:=decide_eq_false (by omega);go_enter Tryz.func138,Tryz.ntmps138
  go_wp2_with fail
  refine (chained_any _ _).mono ?_;rintro en w1 ⟨rfl,rfl⟩;rw [hd];go_wp2;go_ret;exact ⟨by go_num,rfl⟩
theorem lg_int (s:Int):((lg s:Nat):Int)=min (max s 0) 262144:=by
 unfold lg
 split
 ·omega
 ·split <;> omega
theorem cellSize_any (ao:Option Addr)(n c:Nat)(bo:Option Addr)(m d:Nat)(s f:Int)(p:Nat)(w:World)(x:It)(hk:x.key.length=n)(hs:x.size=s)(hp:p<=n)(hn:n<=140737488351232) :
  Calls Tryz.prog 117 #[.agg #[.slice ao n c,.slice bo m d,.int .i64 s,.int .i64 f],.int .i64 p] w fun en w'=>en=.returned (.int .i64 ((cl p x:Nat):Int))/\w.grownBy w' none:=by
 obtain ⟨r,hr⟩:∃ r,n - p=r:=⟨_,rfl⟩;have hr':(n:Int) - (p:Int)=(r:Int):=by omega
 obtain ⟨M,hM⟩:∃ M,(if (0:Int) > s then 0 else s)=M:=⟨_,rfl⟩;obtain ⟨q,hq⟩:∃ q,lg s=q:=⟨_,rfl⟩
 have hq2:(if (262144:Int)<M then 262144 else M)=(q:Int):=by
  rw [<- hq,lg_int,<- hM]
  split <;> split <;> omega
 have hmax:∀ (ts:Array TypeId) (t:TypeId) (W:World),(Builtin.max_ ts t #[.int .i64 s,.int .i64 0]).run Tryz.prog W=.ok (.int .i64 M) W:=fun ts t W=>by rw [run_max_int2,hM]
 have hmin:∀ (ts:Array TypeId) (t:TypeId) (W:World),(Builtin.min_ ts t #[.int .i64 M,.int .i64 262144]).run Tryz.prog W=.ok (.int .i64 q) W:=fun ts t W=>by rw [run_min_int2,hq2]
 have hlg:q<=262144:=by rw [<- hq];exact lg_le s
 have HC:Hid (cl p x=vl r+r+vl (tg s)+tl s):=by show _=_;unfold cl;rw [hk,hs,hr]
 have htg:(if 512<q then 2*q+1 else 2*q)=tg s:=by unfold tg;rw [hq]
 have htl:tl s=if 512<q then 4 else q:=by unfold tl;rw [hq]
 have htt:=tg_lt s;have hv1:(vform r).length<=10:=vl_le r;have hv2:(vform (tg s)).length<=10:=vl_le (tg s);clear hM hq hq2;generalize tg s=g at *;generalize tl s=l at *;have HT:=hZq htg;have HTL:=hZq htl;have HR:=hZq hr;clear htg htl hr;have G1:=hZq (World.grownBy_alloc w (.cells #[.slice ao n c,.slice bo m d,.int .i64 s,.int .i64 f] 122) none);go_enter Tryz.func117,Tryz.ntmps117
 go_wp2_with fail
 refine (vlen_calls r _ (by omega)).mono ?_;rintro en w1 ⟨rfl,rfl⟩
 go_wp2_with fail
 refine (tagOf_any q _ hlg).mono ?_;rintro en w1 ⟨rfl,rfl⟩;rw [HT.out]
 go_wp2_with fail
 refine (vlen_calls g _ (by omega)).mono ?_;rintro en w1 ⟨rfl,rfl⟩
 go_wp2_with fail
 refine (chained_any _ _).mono ?_;rintro en w1 ⟨rfl,rfl⟩
 by_cases h5:512<q
 ·have hd:decide ((512:Int)<(q:Int))=true:=decide_eq_true (by omega)
  rw [hd];go_wp2;go_ret;refine ⟨ret_int ?_,G1.out⟩;rw [HC.out,HTL.out,if_pos h5];simp only [vl];go_num
 ·have hd:decide ((512:Int)<(q:Int))=false:=decide_eq_false (by omega)
  rw [hd];go_wp2;go_ret;refine ⟨ret_int ?_,G1.out⟩;rw [HC.out,HTL.out,if_neg h5];simp only [vl];go_num
theorem size_int {L:List It}(hm:L.length<=5000)(hk:∀ x∈L,x.key.length<=140737488351232):∀ i,i<=L.length->sums (pre L) (L.take i)<=703687450000000000:=by
 intro i hi;have h:=sums_le (pre L) 140737488351232 (L.take i) (fun x hx=>hk x (List.mem_of_mem_take hx));rw [List.length_take] at h;have h2:min i L.length*(140737488351232+534)<=5000*(140737488351232+534):=Nat.mul_le_mul_right _ (by omega);omega
theorem size_any (a:Option Addr)(n cap:Nat)(L:List It)(w:World)(hl:Il w a L)(hn:L.length=n)(hm:n<=5000)(hk:∀ x∈L,x.key.length<=140737488351232) :
  Calls Tryz.prog 81 #[.slice a n cap] w fun en w'=>en=.returned (.int .i64 ((size L:Nat):Int))/\w.grownBy w' none:=by
 have HL:=hZq hl;have HP:Hid (∀ x∈L,pre L<=x.key.length):=fun x hx=>(pre_each x hx).1
 have HS:=hZq (size_int (by omega) hk);have HM:Hid (size L=3+vl (pre L)+pre L+sums (pre L) L):=rfl;have HN:=hZq (fun i h=>sums_snoc (pre L) L i h);have hv:=vl_le (pre L)
 have hpl:pre L<=140737488351232:=by
  cases L with
  | nil=>exact Nat.zero_le _
  | cons x L=>exact Nat.le_trans (pre_each x List.mem_cons_self).1 (hk x List.mem_cons_self)
 have HK:=hZq hk;clear hl hk;go_enter Tryz.func81,Tryz.ntmps81
 go_wp2_with fail
 refine (common4_any a n cap L _ HL.out hn hm).mono ?_;rintro en w1 ⟨rfl,hg1⟩;have HG:=hZq hg1;clear hg1;generalize pre L=p at *
 go_wp2_with fail
 refine (vlen_calls p _ (by omega)).mono ?_;rintro en w2 ⟨rfl,rfl⟩;have hv':(vform p).length<=10:=hv;generalize hvv:(vform p).length=v at *;have HV:Hid (vl p=v):=hvv;clear hvv hv;go_wp2;go_loopw [4,6,17] (fun sn _ si wr=>∃ i:Nat,i<=n/\si=.int .i64 i/\sn=.int .i64 ((3+v+p+sums p (L.take i):Nat):Int)/\w.grownBy wr none) (fun _ _ si _=>n - (intOf si).toNat)
 case atStart=>exact ⟨0,Nat.zero_le _,rfl,by simp [sums],HG.out⟩
 case round =>
  obtain ⟨i,hi,rfl,rfl,hg⟩:=hrel;have HG1:=hZq hg;have b1:=HS.out i (by omega);clear hg HG
  by_cases hlt:i<n
  ·obtain ⟨b,off,ao,m,c,bo,m2,d2,rfl,q2,q3,q4,q5,q6,q7,q8,q9,q10,q11⟩:=HL.out.row i (by omega)
   have c0:=HG1.out.cell q2 (by simp);have c1:=HG1.out.cell q3 (by simp);have c2:=HG1.out.cell q4 (by simp);have c3:=HG1.out.cell q5 (by simp);have hx:=getD_mem (L:=L) (i:=i) (by omega);have hm1:=q6.len;have hp1:=HP.out _ hx;have hk1:=HK.out _ hx;have b2:=cl_le p (L.getD i it0);have HX:Hid (sums p (L.take (i+1))=sums p (L.take i)+(2+cl p (L.getD i it0))):=HN.out i (by omega);have HC:=hZq (fun (W:World)=>cellSize_any ao m c bo m2 d2 (L.getD i it0).size (L.getD i it0).first p W (L.getD i it0) hm1 rfl (by omega) (by omega));clear q2 q3 q4 q5 q6 q9;generalize (L.getD i it0).size=sz at *;generalize (L.getD i it0).first=fs at *
   generalize cl p (L.getD i it0)=C at *;generalize sums p (L.take i)=U at *;have G2:=hZq (World.grownBy_alloc wr (.cells #[.slice ao m c,.slice bo m2 d2,.int .i64 sz,.int .i64 fs] 122) none);clear hm1 hp1 hx
   go_wp2_with fail
   refine (HC.out _).mono ?_;rintro en w2 ⟨rfl,hg2⟩;have HG2:=hZq (gZq (gZq HG1.out G2.out) hg2);clear hg2 G2;go_wp2;go_roundw
   case rel=>exact ⟨i+1,by omega,by go_num,by rw [HX.out];go_num,HG2.out⟩
   case measure=>simp [intOf];omega
  ·have hin:i=n:=by omega
   subst hin;go_wp2;go_ret;refine ⟨ret_int ?_,HG1.out⟩;rw [HM.out,HV.out,<- hn,List.take_length]
theorem made (n:Nat):(madeCells #[Value.int .u8 0] n).toList=(List.replicate n (0:Int)).map (Value.int .u8):=by
 refine List.ext_getElem (by simp [madeCells]) fun i h1 h2=>?_
 simp [madeCells,Nat.mod_one]
structure Two (w w':World)(R G:Nat):Prop where
 os:w'.os=w.os
 tape:w'.tape=w.tape
 output:w'.output=w.output
 size:w.heap.size<=w'.heap.size
 block:∀ k,k<w.heap.size->k≠R->k≠G->w'.heap[k]?=w.heap[k]?
def enc (L:List It):List Int × Int:=if wrong L=0 then (if size L<=4092 then (body L,0) else ([],42)) else ([],wrong L)
theorem equal_yes (ao bo:Option Addr)(n m c d:Nat)(za zb:List Int)(w:World)(ha:Byt w ao n c za)(hb:Byt w bo m d zb)(e:za=zb) :
  Calls Tryz.prog 127 #[.slice ao n c,.slice bo m d] w fun en w'=>en=.returned (.bool true)/\w'=w:=by
 subst e;have h1:=conv_str ha;have h2:=conv_str hb;clear ha hb;go_enter Tryz.func127,Tryz.ntmps127;go_wp2;go_ret;exact ⟨rfl,rfl⟩
theorem equal_no (ao bo:Option Addr)(n m c d:Nat)(za zb:List Int)(w:World)(ha:Byt w ao n c za)(hb:Byt w bo m d zb)(ba:Bt za)(bb:Bt zb)(e:za≠zb) :
  Calls Tryz.prog 127 #[.slice ao n c,.slice bo m d] w fun en w'=>en=.returned (.bool false)/\w'=w:=by
 have hne:((strOfNums za).toList==(strOfNums zb).toList)=false:=by
  rw [beq_eq_false_iff_ne,ByteArray.toList_eq,ByteArray.toList_eq];intro h;refine e (str_inj ba bb ?_);have:=Array.toList_inj.1 h;cases hx:strOfNums za;cases hy:strOfNums zb;simp_all
 have h1:=conv_str ha;have h2:=conv_str hb;clear ha hb;go_enter Tryz.func127,Tryz.ntmps127;go_wp2;go_ret;exact ⟨rfl,rfl⟩
theorem grown_newR {a b c:World}{R g:Nat}(h:a.grownBy b (some R))(k:b.grownBy c (some g))(hg:a.heap.size<=g):a.grownBy c (some R) :=
 ⟨k.os.trans h.os,k.tape.trans h.tape,k.output.trans h.output,Nat.le_trans h.size k.size,
  fun i hi hne=>(k.block i (Nat.lt_of_lt_of_le hi h.size) (by intro e;have:=Option.some.inj e;omega)).trans (h.block i hi hne)⟩
theorem info_item:(Tryz.prog.info? 122).map (fun i=>(i.zero,i.size,i.bytes))=some (some (.agg #[.slice none 0 0,.slice none 0 0,.int .i64 0,.int .i64 0]),4,64):=by kernel_rfl
theorem common4_big (a:Option Addr)(n cap:Nat)(L:List It)(w:World)(hl:Il w a L)(hn:L.length=n)(hm:n<=2932031007402) :
  Calls Tryz.prog 115 #[.slice a n cap] w fun en w'=>en=.returned (.int .i64 ((pre L:Nat):Int))/\w.grownBy w' none:=by
 obtain ⟨i0,hi,hz0,hz1,hz2⟩:=info_parts info_bytes;have HL:=hZq hl;clear hl;go_enter Tryz.func115,Tryz.ntmps115
 go_wp2_with (at_make;refine wpList_make_full _ rfl _ _ 59 rfl w.heap.size 62 i0 (.slice none 0 0) 1 Tryz.underlying59 hi hz0 hz1 _ _ _ _ n rfl rfl rfl rfl ?b2 ?b3 (Nat.le_refl _) ?_)
 case b2=>rw [hz2];omega
 case b3=>unfold maxLen;omega
 intro w0 hown0 hg0;have HK:=hZq (Kr.start (w0:=w) (a:=a) hown0);have HG:=hZq hg0;clear hown0 hg0;go_wp2;go_loopw [11] (fun si wr=>∃ i:Nat,i<=n/\si=.int .i64 i/\Kr w wr a w.heap.size n i/\w.grownBy wr none) (fun si _=>n - (intOf si).toNat)
 case atStart=>exact ⟨0,Nat.zero_le _,rfl,HK.out,HG.out⟩
 case round =>
  obtain ⟨i,hi',rfl,hk,hg⟩:=hrel;have HK1:=hZq hk;have HG1:=hZq hg;clear hk hg HK HG
  by_cases hlt:i<n
  ·obtain ⟨b,off,ao,m,c,bo,m2,d2,rfl,q2,q3,q4,q5,q6,q7,q8,q9,q10,q11⟩:=HL.out.row i (by omega)
   have c0:=HG1.out.cell q2 (by simp);have c1:=HG1.out.cell q3 (by simp);have c2:=HG1.out.cell q4 (by simp);have c3:=HG1.out.cell q5 (by simp);have HQ:=hZq q2;clear q2 q3 q4 q5 q6 q9;generalize (L.getD i it0).size=sz at *;generalize (L.getD i it0).first=fs at *
   have G2:=hZq (World.grownBy_alloc wr (.cells #[.slice ao m c,.slice bo m2 d2,.int .i64 sz,.int .i64 fs] 122) none);have K2:=hZq (HK1.out.keptN G2.out);have f2:=K2.out.frozen i;obtain ⟨v2,e2⟩:=K2.out.cell i hlt;go_wp2;go_roundw
   case rel=>exact ⟨i+1,by omega,by go_num,K2.out.set hlt HQ.out,grown_new (gZq HG1.out G2.out) (grown_cell _ _ _ _) (Nat.le_refl _)⟩
   case measure=>simp [intOf];omega
  ·have hin:i=n:=by omega
   subst hin
   go_wp2_with fail
   refine (commonAll_any _ _ _ L _ (HK1.out.lz hn HL.out HG1.out) hn (Nat.le_refl _) (by omega)).mono ?_;rintro en w1 ⟨rfl,hg2⟩;have HG2:=hZq (gZq HG1.out hg2);clear hg2;go_wp2;go_ret;exact ⟨rfl,HG2.out⟩
theorem size_intB {L:List It}(hm:L.length<=2932031007402)(hk:∀ x∈L,x.key.length<=255):∀ i,i<=L.length->sums (pre L) (L.take i)<=2932031007402*789:=by
 intro i hi;have h:=sums_le (pre L) 255 (L.take i) (fun x hx=>hk x (List.mem_of_mem_take hx));rw [List.length_take] at h;exact Nat.le_trans h (Nat.mul_le_mul (Nat.le_trans (Nat.min_le_right _ _) hm) (by omega))
theorem size_big (a:Option Addr)(n cap:Nat)(L:List It)(w:World)(hl:Il w a L)(hn:L.length=n)(hm:n<=2932031007402)(hk:∀ x∈L,x.key.length<=255) :
  Calls Tryz.prog 81 #[.slice a n cap] w fun en w'=>en=.returned (.int .i64 ((size L:Nat):Int))/\w.grownBy w' none:=by
 have HL:=hZq hl;have HP:Hid (∀ x∈L,pre L<=x.key.length):=fun x hx=>(pre_each x hx).1
 have HS:=hZq (size_intB (by omega) hk);have HM:Hid (size L=3+vl (pre L)+pre L+sums (pre L) L):=rfl;have HN:=hZq (fun i h=>sums_snoc (pre L) L i h);have hv:=vl_le (pre L)
 have hpl:pre L<=255:=by
  cases L with
  | nil=>exact Nat.zero_le _
  | cons x L=>exact Nat.le_trans (pre_each x List.mem_cons_self).1 (hk x List.mem_cons_self)
 have HK:=hZq hk;clear hl hk;go_enter Tryz.func81,Tryz.ntmps81
 go_wp2_with fail
 refine (common4_big a n cap L _ HL.out hn hm).mono ?_;rintro en w1 ⟨rfl,hg1⟩;have HG:=hZq hg1;clear hg1;generalize pre L=p at *
 go_wp2_with fail
 refine (vlen_calls p _ (by omega)).mono ?_;rintro en w2 ⟨rfl,rfl⟩;have hv':(vform p).length<=10:=hv;generalize hvv:(vform p).length=v at *;have HV:Hid (vl p=v):=hvv;clear hvv hv;go_wp2;go_loopw [4,6,17] (fun sn _ si wr=>∃ i:Nat,i<=n/\si=.int .i64 i/\sn=.int .i64 ((3+v+p+sums p (L.take i):Nat):Int)/\w.grownBy wr none) (fun _ _ si _=>n - (intOf si).toNat)
 case atStart=>exact ⟨0,Nat.zero_le _,rfl,by simp [sums],HG.out⟩
 case round =>
  obtain ⟨i,hi,rfl,rfl,hg⟩:=hrel;have HG1:=hZq hg;have b1:=HS.out i (by omega);simp only [Nat.reduceMul] at b1;clear hg HG
  by_cases hlt:i<n
  ·obtain ⟨b,off,ao,m,c,bo,m2,d2,rfl,q2,q3,q4,q5,q6,q7,q8,q9,q10,q11⟩:=HL.out.row i (by omega)
   have c0:=HG1.out.cell q2 (by simp);have c1:=HG1.out.cell q3 (by simp);have c2:=HG1.out.cell q4 (by simp);have c3:=HG1.out.cell q5 (by simp);have hx:=getD_mem (L:=L) (i:=i) (by omega);have hm1:=q6.len;have hp1:=HP.out _ hx;have hk1:=HK.out _ hx;have b2:=cl_le p (L.getD i it0);have HX:Hid (sums p (L.take (i+1))=sums p (L.take i)+(2+cl p (L.getD i it0))):=HN.out i (by omega);have HC:=hZq (fun (W:World)=>cellSize_any ao m c bo m2 d2 (L.getD i it0).size (L.getD i it0).first p W (L.getD i it0) hm1 rfl (by omega) (by omega));clear q2 q3 q4 q5 q6 q9;generalize (L.getD i it0).size=sz at *;generalize (L.getD i it0).first=fs at *
   generalize cl p (L.getD i it0)=C at *;generalize sums p (L.take i)=U at *;have G2:=hZq (World.grownBy_alloc wr (.cells #[.slice ao m c,.slice bo m2 d2,.int .i64 sz,.int .i64 fs] 122) none);clear hm1 hp1 hx
   go_wp2_with fail
   refine (HC.out _).mono ?_;rintro en w2 ⟨rfl,hg2⟩;have HG2:=hZq (gZq (gZq HG1.out G2.out) hg2);clear hg2 G2;go_wp2;go_roundw
   case rel=>exact ⟨i+1,by omega,by go_num,by rw [HX.out];go_num,HG2.out⟩
   case measure=>simp [intOf];omega
  ·have hin:i=n:=by omega
   subst hin;go_wp2;go_ret;refine ⟨ret_int ?_,HG1.out⟩;rw [HM.out,HV.out,<- hn,List.take_length]
end Go.Proofs.YteaahinjcfjngaaGreat
