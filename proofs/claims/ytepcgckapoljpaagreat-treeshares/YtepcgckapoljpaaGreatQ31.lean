import Derived.Test.YtepcgckapoljpaaGreatQ28
import Derived.Test.YtepcgckapoljpaaGreatQ30
set_option maxRecDepth 100000
set_option maxHeartbeats 8000000
namespace Go.Proofs.YtepcgckapoljpaaGreat
open Go.RowKit
structure UnP (has:List Int)(lo:Int)(count:Nat)(l:List Int):Prop where
 ris:RisN l
 el:∀ z∈l,lo<=z/\2<=z/\z<524287/\z ∉ has
 le:l.length<=count
 all:l.length=count∨∀ z,lo<=z->2<=z->z<524287->z∈l∨z∈has
structure UnI (has:List Int)(lo:Int)(count:Nat)(m:Int)(l:List Int):Prop where
 ris:RisN l
 el:∀ z∈l,lo<=z/\2<=z/\z<m/\z<524287/\z ∉ has
 le:l.length<=count
 all:∀ z,lo<=z->2<=z->z<m->z<524287->z∈l∨z∈has
theorem ris_snoc {l:List Int}{m:Int}(h:RisN l)(hm:∀ z∈l,z<m):RisN (l++[m]):=by
 unfold RisN at *;rw [List.pairwise_append];exact ⟨h,by simp,fun a ha b hb=>by rw [List.mem_singleton.1 hb];exact hm a ha⟩
theorem UnI.out {has:List Int}{lo m:Int}{count:Nat}{l:List Int}(h:UnI has lo count m l)(he:¬ (l.length<count/\m<524287)):UnP has lo count l:=by
 refine ⟨h.ris,fun z hz=>?_,h.le,?_⟩
 ·obtain ⟨h1,h2,h3,h4,h5⟩:=h.el z hz
  exact ⟨h1,h2,h4,h5⟩
 ·by_cases hl:l.length<count
  ·exact .inr (fun z h1 h2 h3=>h.all z h1 h2 (by omega) h3)
  ·exact .inl (by have:=h.le;omega)
theorem UnI.more {has:List Int}{lo m:Int}{count:Nat}{l:List Int}(h:UnI has lo count m l)(hl:l.length<count)(hm:m<524287)(h1:lo<=m)(h2:2<=m)(hn:m ∉ has):UnI has lo count (m+1) (l++[m]):=by
 refine ⟨ris_snoc h.ris (fun z hz=>(h.el z hz).2.2.1),fun z hz=>?_,by rw [List.length_append,List.length_singleton];omega,fun z k1 k2 k3 k4=>?_⟩
 ·rcases List.mem_append.1 hz with hz | hz
  ·obtain ⟨h1,h2,h3,h4,h5⟩:=h.el z hz
   exact ⟨h1,h2,by omega,h4,h5⟩
  ·rw [List.mem_singleton.1 hz]
   exact ⟨h1,h2,by omega,hm,hn⟩
 ·by_cases e:z=m
  ·exact .inl (by rw [e];simp)
  ·rcases h.all z k1 k2 (by omega) k4 with k | k
   ·exact .inl (List.mem_append_left _ k)
   ·exact .inr k
theorem UnI.skip {has:List Int}{lo m:Int}{count:Nat}{l:List Int}(h:UnI has lo count m l)(hn:m∈has):UnI has lo count (m+1) l:=by
 refine ⟨h.ris,fun z hz=>?_,h.le,fun z k1 k2 k3 k4=>?_⟩
 ·obtain ⟨h1,h2,h3,h4,h5⟩:=h.el z hz
  exact ⟨h1,h2,by omega,h4,h5⟩
 ·by_cases e:z=m
  ·exact .inr (by rw [e];exact hn)
  ·exact h.all z k1 k2 (by omega) k4
theorem ChS.nmx {w:World}{base:Nat}{v:Value}{zs:List Int}(h:ChS w base v zs)(hv:∀ ca,zs=[]->v=.slice ca 0 0->ca=none):∃ a c,v=.slice a zs.length c/\NmT w a zs.length c zs:=by
 rcases h with ⟨rfl,ca,rfl⟩ | ⟨_,h⟩
 ·rw [hv ca rfl rfl]
  exact ⟨none,0,rfl,EsT.nul _ _ _⟩
 ·exact NmT.of_owns h
def UnlP (w:World)(has:List Int)(lo:Int)(count:Nat)(en:Ending)(w':World):Prop:=∃ a n c l,en=.returned (.slice a n c)/\NmT w' a n c l/\UnP has lo count l/\w.grownBy w' none
theorem unlike_any (a:Option Addr)(n c:Nat)(has:List Int)(lo:Int)(count:Nat)(w:World)(hh:NmT w a n c has)(hc:count<=1000000) :
  Calls Tryz.prog 25 #[.slice a n c,.int .i64 lo,.int .i64 (count:Nat)] w fun en w'=>UnlP w has lo count en w':=by
 have hlen:=hh.num;obtain ⟨hc1,hc2⟩:n<=c/\c<=9223372036854775807:=⟨hh.cap,hh.c2⟩;have HH:=hZq hh;have HL:=hZq hlen;clear hh hlen
 by_cases hlo:lo<2
 ·have ST:Hid (UnI has lo count 2 []):=⟨by unfold RisN;simp,fun z hz=>by simp at hz,by simp,fun z k1 k2 k3 k4=>by omega⟩
  have S2:Hid (lo<=2/\2<=(2:Int)):=⟨by omega,by omega⟩;go_enter Tryz.func25,Tryz.ntmps25
  go_wp2_with fail
  clear hlo;go_loopw [1,7,8,9] (fun s1 s7 _ _ wr=>∃ (m:Int) (v:Value) (l:List Int),s1=.int .i64 m/\s7=v/\lo<=m/\2<=m/\UnI has lo count m l/\ChS wr w.heap.size v l/\(∀ ca,l=[]->v=.slice ca 0 0->ca=none)/\w.grownBy wr none) (fun s1 _ _ _ _=>(524287 - intOf s1).toNat)
  case atStart=>exact ⟨2,.slice none 0 0,[],rfl,rfl,S2.out.1,S2.out.2,ST.out,.inl ⟨rfl,none,rfl⟩,fun ca _ e=>by cases e;rfl,World.grownBy.refl _ _⟩
  case round =>
   obtain ⟨m,v,l,rfl,rfl,hm1,hm2,hI,hC,hn0,hg⟩:=hrel;obtain ⟨va,vc,rfl⟩:=hC.shape;have HI:=hZq hI;have HC:=hZq hC;have HN:=hZq hn0;have HG:=hZq hg;have hle:=hI.le;obtain ⟨k,hk⟩:∃ k,l.length=k:=⟨_,rfl⟩;rw [hk] at hle ⊢;have HK:=hZq hk;clear hI hC hn0 hg hk
   by_cases h1:k<count
   ·have j1:(k:Int)<(count:Int):=by omega
    have j1n:decide (k<count)=true:=decide_eq_true h1
    by_cases h2:m<524287
    ·have j2:decide (m<524287)=true:=decide_eq_true h2
     go_wp2_with fail
     go_loopw [8,9] (fun s8 s9 wj=>∃ i:Nat,i<=n/\s9=.int .i64 (i:Nat)/\s8=.bool (decide (m∈has.take i))/\wj=wr) (fun _ s9 _=>n - (intOf s9).toNat)
     case atStart=>exact ⟨0,Nat.zero_le _,rfl,by simp,rfl⟩
     case round =>
      obtain ⟨i,hi,rfl,rfl,rfl⟩:=hrel
      by_cases hlt:i<n
      ·have i0:(0:Int)<=(i:Int):=by omega
       have i1:(i:Int)<(n:Int):=by omega
       obtain ⟨z,hx⟩:∃ z,has[i]?=some z:=⟨_,List.getElem?_eq_getElem (by have:=HL.out;omega)⟩;obtain ⟨g,off,rfl,ht,hcl⟩:=HH.out.cell i [.int .i64 z] (by rw [List.getElem?_map,hx];rfl);have hzc:=keep1 (hcl 0 _ rfl) HG.out;rw [show off+i*1+0=off+i by omega] at hzc
       have TS:Hid (decide (m∈has.take (i+1))=(decide (m∈has.take i) || z==m)):=by
        show _=_
        rw [takeS hx]
        by_cases e:m∈has.take i
        ·simp [e]
        ·simp only [List.mem_append,List.mem_singleton,e,false_or,decide_false,Bool.false_or]
         by_cases e2:m=z
         ·simp [e2]
         ·have:¬ z=m:=fun e3=>e2 e3.symm
          simp [e2,this]
       clear ht hcl hx;cases hb:decide (m∈has.take i) with
       | true =>
        rw [hb] at TS
        go_wp2_with fail
        go_roundw
        case rel=>exact ⟨i+1,by omega,by go_num,by rw [TS.out];rfl,by trivial⟩
        case measure=>simp [intOf];omega
       | false =>
        rw [hb] at TS;cases hz:(z==m) with
        | true =>
         rw [hz] at TS
         go_wp2_with fail
         go_roundw
         case rel=>exact ⟨i+1,by omega,by go_num,by rw [TS.out];rfl,by trivial⟩
         case measure=>simp [intOf];omega
        | false =>
         rw [hz] at TS
         go_wp2_with fail
         go_roundw
         case rel=>exact ⟨i+1,by omega,by go_num,by rw [TS.out];rfl,by trivial⟩
         case measure=>simp [intOf];omega
      ·have hin:i=n:=by omega
       subst hin;have i1:¬ (i:Int)<(i:Int):=by omega
       have ht:has.take i=has:=List.take_of_length_le (by have:=HL.out;omega);rw [ht];have ga:=World.grownBy_alloc wr (.cells #[.int .i64 m] 3) none
       by_cases hin:m∈has
       ·rw [decide_eq_true hin]
        have HIN:=hZq hin;clear hin ht ga
        go_wp2_with fail
        go_roundw
        case rel=>exact ⟨m+1,.slice va k vc,l,by go_num,rfl,by omega,by omega,HI.out.skip HIN.out,by have:=HC.out;rw [HK.out] at this;exact this,fun ca e1 e2=>HN.out ca e1 (by rw [HK.out];exact e2),HG.out⟩
        case measure=>simp [intOf];omega
       ·rw [decide_eq_false hin]
        have HIN:=hZq hin
        have CA:Hid (ChS (wr.alloc (.cells #[.int .i64 m] 3)) w.heap.size (.slice va k vc) l):=by
         have:=HC.out.kept ga (fun g e=>by cases e);rw [HK.out] at this;exact this
        have NA:Hid ((wr.alloc (.cells #[.int .i64 m] 3)).cell? ⟨wr.heap.size,0,none⟩=some (.int .i64 m)):=by
         have:=cell_one_new wr (.int .i64 m) 3 0 _ rfl
         rwa [Addr.add_lit] at this
        have GA:=hZq (gZq HG.out ga);clear hin ht ga
        go_wp2_with (at_builtin;refine wpList_more rfl _ _ rfl rfl rfl CA.out NA.out ?c1 ?c2 ?_)
        case c1=>have:=HK.out;omega
        case c2=>have:=HG.out.size;omega
        intro v2 w2 row hc2 hg2 hr2;obtain ⟨a3,c3,hv3⟩:=hc2.shape;obtain ⟨k3,hk3⟩:∃ k,(l++[m]).length=k:=⟨_,rfl⟩;rw [hk3] at hv3;subst hv3;have C2:=hZq hc2
        have G2:Hid (w.grownBy w2 none):=by
         cases row with
         | none=>exact gZq GA.out hg2
         | some g=>exact grown_new GA.out hg2 (hr2 g rfl).1
        have K3:=hZq hk3;clear hc2 hg2 hr2 hk3
        go_wp2_with fail
        go_roundw
        case rel=>exact ⟨m+1,_,l++[m],by go_num,rfl,by omega,by omega,HI.out.more (by have:=HK.out;omega) h2 hm1 hm2 HIN.out,C2.out,fun ca e _=>by simp at e,G2.out⟩
        case measure=>simp [intOf];omega
    ·have j2:decide (m<524287)=false:=decide_eq_false h2
     have j2':¬ m<524287:=h2;go_wp2;go_ret;obtain ⟨a3,c3,e3,n3⟩:=HC.out.nmx HN.out;rw [HK.out] at e3;cases e3;exact ⟨_,_,_,l,rfl,by have:=n3;rw [HK.out] at this;exact this,HI.out.out (by omega),HG.out⟩
   ·have j1:¬ (k:Int)<(count:Int):=by omega
    have j1n:decide (k<count)=false:=decide_eq_false h1;go_wp2;go_ret;obtain ⟨a3,c3,e3,n3⟩:=HC.out.nmx HN.out;rw [HK.out] at e3;cases e3;exact ⟨_,_,_,l,rfl,by have:=n3;rw [HK.out] at this;exact this,HI.out.out (by have:=HK.out;omega),HG.out⟩
 ·have ST:Hid (UnI has lo count lo []):=⟨by unfold RisN;simp,fun z hz=>by simp at hz,by simp,fun z k1 k2 k3 k4=>by omega⟩
  have S2:Hid (lo<=lo/\2<=(lo:Int)):=⟨by omega,by omega⟩;go_enter Tryz.func25,Tryz.ntmps25
  go_wp2_with fail
  clear hlo;go_loopw [1,7,8,9] (fun s1 s7 _ _ wr=>∃ (m:Int) (v:Value) (l:List Int),s1=.int .i64 m/\s7=v/\lo<=m/\2<=m/\UnI has lo count m l/\ChS wr w.heap.size v l/\(∀ ca,l=[]->v=.slice ca 0 0->ca=none)/\w.grownBy wr none) (fun s1 _ _ _ _=>(524287 - intOf s1).toNat)
  case atStart=>exact ⟨lo,.slice none 0 0,[],rfl,rfl,S2.out.1,S2.out.2,ST.out,.inl ⟨rfl,none,rfl⟩,fun ca _ e=>by cases e;rfl,World.grownBy.refl _ _⟩
  case round =>
   obtain ⟨m,v,l,rfl,rfl,hm1,hm2,hI,hC,hn0,hg⟩:=hrel;obtain ⟨va,vc,rfl⟩:=hC.shape;have HI:=hZq hI;have HC:=hZq hC;have HN:=hZq hn0;have HG:=hZq hg;have hle:=hI.le;obtain ⟨k,hk⟩:∃ k,l.length=k:=⟨_,rfl⟩;rw [hk] at hle ⊢;have HK:=hZq hk;clear hI hC hn0 hg hk
   by_cases h1:k<count
   ·have j1:(k:Int)<(count:Int):=by omega
    have j1n:decide (k<count)=true:=decide_eq_true h1
    by_cases h2:m<524287
    ·have j2:decide (m<524287)=true:=decide_eq_true h2
     go_wp2_with fail
     go_loopw [8,9] (fun s8 s9 wj=>∃ i:Nat,i<=n/\s9=.int .i64 (i:Nat)/\s8=.bool (decide (m∈has.take i))/\wj=wr) (fun _ s9 _=>n - (intOf s9).toNat)
     case atStart=>exact ⟨0,Nat.zero_le _,rfl,by simp,rfl⟩
     case round =>
      obtain ⟨i,hi,rfl,rfl,rfl⟩:=hrel
      by_cases hlt:i<n
      ·have i0:(0:Int)<=(i:Int):=by omega
       have i1:(i:Int)<(n:Int):=by omega
       obtain ⟨z,hx⟩:∃ z,has[i]?=some z:=⟨_,List.getElem?_eq_getElem (by have:=HL.out;omega)⟩;obtain ⟨g,off,rfl,ht,hcl⟩:=HH.out.cell i [.int .i64 z] (by rw [List.getElem?_map,hx];rfl);have hzc:=keep1 (hcl 0 _ rfl) HG.out;rw [show off+i*1+0=off+i by omega] at hzc
       have TS:Hid (decide (m∈has.take (i+1))=(decide (m∈has.take i) || z==m)):=by
        show _=_
        rw [takeS hx]
        by_cases e:m∈has.take i
        ·simp [e]
        ·simp only [List.mem_append,List.mem_singleton,e,false_or,decide_false,Bool.false_or]
         by_cases e2:m=z
         ·simp [e2]
         ·have:¬ z=m:=fun e3=>e2 e3.symm
          simp [e2,this]
       clear ht hcl hx;cases hb:decide (m∈has.take i) with
       | true =>
        rw [hb] at TS
        go_wp2_with fail
        go_roundw
        case rel=>exact ⟨i+1,by omega,by go_num,by rw [TS.out];rfl,by trivial⟩
        case measure=>simp [intOf];omega
       | false =>
        rw [hb] at TS;cases hz:(z==m) with
        | true =>
         rw [hz] at TS
         go_wp2_with fail
         go_roundw
         case rel=>exact ⟨i+1,by omega,by go_num,by rw [TS.out];rfl,by trivial⟩
         case measure=>simp [intOf];omega
        | false =>
         rw [hz] at TS
         go_wp2_with fail
         go_roundw
         case rel=>exact ⟨i+1,by omega,by go_num,by rw [TS.out];rfl,by trivial⟩
         case measure=>simp [intOf];omega
      ·have hin:i=n:=by omega
       subst hin;have i1:¬ (i:Int)<(i:Int):=by omega
       have ht:has.take i=has:=List.take_of_length_le (by have:=HL.out;omega);rw [ht];have ga:=World.grownBy_alloc wr (.cells #[.int .i64 m] 3) none
       by_cases hin:m∈has
       ·rw [decide_eq_true hin]
        have HIN:=hZq hin;clear hin ht ga
        go_wp2_with fail
        go_roundw
        case rel=>exact ⟨m+1,.slice va k vc,l,by go_num,rfl,by omega,by omega,HI.out.skip HIN.out,by have:=HC.out;rw [HK.out] at this;exact this,fun ca e1 e2=>HN.out ca e1 (by rw [HK.out];exact e2),HG.out⟩
        case measure=>simp [intOf];omega
       ·rw [decide_eq_false hin]
        have HIN:=hZq hin
        have CA:Hid (ChS (wr.alloc (.cells #[.int .i64 m] 3)) w.heap.size (.slice va k vc) l):=by
         have:=HC.out.kept ga (fun g e=>by cases e);rw [HK.out] at this;exact this
        have NA:Hid ((wr.alloc (.cells #[.int .i64 m] 3)).cell? ⟨wr.heap.size,0,none⟩=some (.int .i64 m)):=by
         have:=cell_one_new wr (.int .i64 m) 3 0 _ rfl
         rwa [Addr.add_lit] at this
        have GA:=hZq (gZq HG.out ga);clear hin ht ga
        go_wp2_with (at_builtin;refine wpList_more rfl _ _ rfl rfl rfl CA.out NA.out ?c1 ?c2 ?_)
        case c1=>have:=HK.out;omega
        case c2=>have:=HG.out.size;omega
        intro v2 w2 row hc2 hg2 hr2;obtain ⟨a3,c3,hv3⟩:=hc2.shape;obtain ⟨k3,hk3⟩:∃ k,(l++[m]).length=k:=⟨_,rfl⟩;rw [hk3] at hv3;subst hv3;have C2:=hZq hc2
        have G2:Hid (w.grownBy w2 none):=by
         cases row with
         | none=>exact gZq GA.out hg2
         | some g=>exact grown_new GA.out hg2 (hr2 g rfl).1
        have K3:=hZq hk3;clear hc2 hg2 hr2 hk3
        go_wp2_with fail
        go_roundw
        case rel=>exact ⟨m+1,_,l++[m],by go_num,rfl,by omega,by omega,HI.out.more (by have:=HK.out;omega) h2 hm1 hm2 HIN.out,C2.out,fun ca e _=>by simp at e,G2.out⟩
        case measure=>simp [intOf];omega
    ·have j2:decide (m<524287)=false:=decide_eq_false h2
     have j2':¬ m<524287:=h2;go_wp2;go_ret;obtain ⟨a3,c3,e3,n3⟩:=HC.out.nmx HN.out;rw [HK.out] at e3;cases e3;exact ⟨_,_,_,l,rfl,by have:=n3;rw [HK.out] at this;exact this,HI.out.out (by omega),HG.out⟩
   ·have j1:¬ (k:Int)<(count:Int):=by omega
    have j1n:decide (k<count)=false:=decide_eq_false h1;go_wp2;go_ret;obtain ⟨a3,c3,e3,n3⟩:=HC.out.nmx HN.out;rw [HK.out] at e3;cases e3;exact ⟨_,_,_,l,rfl,by have:=n3;rw [HK.out] at this;exact this,HI.out.out (by have:=HK.out;omega),HG.out⟩
end Go.Proofs.YtepcgckapoljpaaGreat
