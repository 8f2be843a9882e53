import Derived.Test.YteaahinjcfjngaaGreatQ51
namespace Go.Proofs.YteaahinjcfjngaaGreat
open Go.RowKit
theorem btu_room {w:World}{a:Option Addr}{n c:Nat}{zs:List Int}(h:BtU w a n c zs):n=zs.length/\zs.length<=c/\c<=9223372036854775807:=by
 have:=h.b.len;have:=h.l1;have:=h.l2;omega
theorem RnU.nv {w:World}{a:Option Addr}{l:List RnT}{t:TrT}(h:RnU w a l)(hb:BlT l t):NvL w a (tellO (some t)):=fun i x hx=>by
 have hi:=(List.getElem?_eq_some_iff.1 hx).1;obtain ⟨n,hn⟩:∃ n,l[i]?=some n:=⟨_,List.getElem?_eq_getElem (by rw [hb.ln];exact hi)⟩;have he:=hb.eq i n x hn hx;obtain ⟨b,off,pa,pn,pc,ca,cn,cc,sa,sn,sc,ka,kn,kc,h1,h3⟩:=h.at' i n hn
 have hl:pn=x.ps.length:=by
  rw [<- he.ps];unfold zipR;rw [List.length_map,List.length_range];exact h3.ps.len.symm
 have hs:sn=x.ss.length:=by
  rw [<- he.ss];exact h3.ss.len.symm
 have k0:=h3.c0;have k1:=h3.c1;rw [he.no] at k0;rw [he.lv] at k1;subst hl hs;refine ⟨b,off,pa,pc,ca,cn,cc,sa,sc,ka,kn,kc,h1,⟨k0,k1,h3.c2,h3.c3,h3.c4,h3.c5,fun j p hp=>?_,⟨fun j hj=>?_⟩,h3.ss.cap.1,h3.ss.cap.2.1⟩⟩
 ·rw [<- he.ps] at hp
  unfold zipR at hp;rw [List.getElem?_map] at hp;obtain ⟨j',hj',rfl⟩:=Option.map_eq_some_iff.1 hp;have hjl:=(List.getElem?_eq_some_iff.1 hj').1;rw [List.length_range] at hjl;rw [List.getElem?_range hjl] at hj';obtain rfl:=Option.some.inj hj';obtain ⟨es,q1,q2⟩:=h3.ps.ex;obtain ⟨e,e1,ka',kn',kc',va',vn',vc',rfl,b1,b2⟩:=q2.get (List.getElem?_eq_getElem hjl);obtain ⟨g,off',e4,e5⟩:=q1.cell j _ e1;have r1:=btu_room b1;have r2:=btu_room b2;have x1:=e5 0 _ rfl;have x2:=e5 1 _ rfl;have y1:=b1.b;have y2:=b2.b;have z1:n.ps.getD j ([],[])=n.ps[j]:=by simp [List.getD,List.getElem?_eq_getElem hjl]
  rw [r1.1] at x1 y1;rw [r2.1] at x2 y2;simp only [z1];exact ⟨g,off',ka',kc',va',vc',e4,x1,x2,y1,y2,r1.2.1,r1.2.2,r2.2.1,r2.2.2⟩
 ·have hj2:j<n.ss.length:=by rw [he.ss];exact hj
  obtain ⟨g,off',ao,m,d,q1,q2,q3⟩:=h3.ss.str (List.getElem?_eq_getElem hj2);have r:=btu_room q3;have hgd:x.ss.getD j []=n.ss[j]:=by rw [<- he.ss];simp [List.getD,List.getElem?_eq_getElem hj2]
  rw [hgd];exact ⟨g,off',ao,m,d,q1,q2,q3.b,by omega,by omega⟩
def lvS (f:NoT->Nat)(xs:List NoT):Nat->Nat
 | 0=>0
 | k+1=>lvS f xs k+sumT f (atL xs k)
theorem atL_cons (x:NoT)(xs:List NoT)(i:Nat):atL (x::xs) i=if x.lv=i then x::atL xs i else atL xs i:=by
 unfold atL
 by_cases h:x.lv=i
 ·rw [if_pos h,List.filter_cons_of_pos (by simpa using h)]
 ·rw [if_neg h,List.filter_cons_of_neg (by simpa using h)]
theorem lvS_cons (f:NoT->Nat)(x:NoT)(xs:List NoT):∀ k,lvS f (x::xs) k=lvS f xs k+if x.lv<k then f x else 0
 | 0=>by simp [lvS]
 | k+1=>by
  rw [lvS,lvS,lvS_cons f x xs k,atL_cons]
  by_cases h1:x.lv=k
  ·rw [if_pos h1,if_neg (by omega),if_pos (by omega),sumT]
   omega
  ·by_cases h2:x.lv<k
   ·rw [if_neg h1,if_pos h2,if_pos (by omega)]
    omega
   ·rw [if_neg h1,if_neg h2,if_neg (by omega)]
    omega
theorem lvS_nil (f:NoT->Nat):∀ k,lvS f [] k=0
 | 0=>rfl
 | k+1=>by rw [lvS,lvS_nil f k];rfl
theorem lvS_all (f:NoT->Nat){k:Nat}:∀ xs:List NoT,(∀ x∈xs,x.lv<k)->lvS f xs k=sumT f xs
 | [],_=>lvS_nil f k
 | x::xs,h=>by
  rw [lvS_cons,lvS_all f xs (fun y hy=>h y (List.mem_cons_of_mem _ hy)),if_pos (h x List.mem_cons_self),sumT];omega
theorem lvS_mono (f:NoT->Nat)(xs:List NoT){k m:Nat}(h:k<=m):lvS f xs k<=lvS f xs m:=by
 induction m with
 | zero=>rw [show k=0 by omega];exact Nat.le_refl _
 | succ m ih =>
  rcases Nat.lt_or_eq_of_le h with h1 | rfl
  ·exact Nat.le_trans (ih (by omega)) (by rw [lvS];exact Nat.le_add_right _ _)
  ·exact Nat.le_refl _
def cpN (x:NoT):Nat:=sumT (fun p:PrT=>chN p.val.length) x.ps
def cbN (x:NoT):Nat:=sumT (fun p:PrT=>if 512<p.val.length then p.val.length else 0) x.ps
theorem sum_pg (xs:List NoT):sumT pgN xs=xs.length+sumT cpN xs:=by
 have h1:sumT pgN xs=sumT (fun _=>1) xs+sumT cpN xs:=sumT_sum (fun _=>1) cpN xs;rw [h1,sumT_mul,Nat.one_mul]
theorem sum_us (xs:List NoT):sumT usN xs=sumT nsz xs+sumT cbN xs:=sumT_sum nsz cbN xs
theorem sum_ky:∀ xs:List NoT,sumT kyN xs=(xs.flatMap NoT.ps).length
 | []=>rfl
 | x::xs=>by rw [sumT,sum_ky xs,List.flatMap_cons,List.length_append];rfl
theorem sum_mn:∀ (xs:List NoT) (a:Nat),(∀ x∈xs,a<=nsz x)->a*xs.length<=sumT nsz xs
 | [],_,_=>by simp [sumT]
 | x::xs,a,h=>by
  have h1:=h x List.mem_cons_self;have h2:=sum_mn xs a (fun y hy=>h y (List.mem_cons_of_mem _ hy));rw [sumT,List.length_cons,Nat.mul_add];omega
theorem sq_zero {mid:Nat}{x:NoT}:sqN mid x=0↔nsz x=mid:=by
 unfold sqN;refine ⟨fun h=>?_,fun h=>by rw [h,Nat.sub_self]⟩;have h1:=(Nat.add_eq_zero_iff.1 h).1;have h2:=(Nat.add_eq_zero_iff.1 h).2;rcases Nat.mul_eq_zero.1 h1 with h3 | h3 <;> rcases Nat.mul_eq_zero.1 h2 with h4 | h4 <;> omega
theorem fit22 {L:List NoT}(h0:0<L.length)(hl:L.length<=100000)(hz:∀ x∈L,SzN x) :
  let mn:=mnF L 4092
  let mx:=mxF L 0
  let me:=quW (sumT nsz L) (L.length*4092)
  let sp:=spW (sumT (sqN (sumT nsz L / L.length)) L) L.length
  (FloatKind.f64.format.order me (quW mn 4092)==some Ordering.lt)=false/\(FloatKind.f64.format.order me (quW mx 4092)==some Ordering.gt)=false/\(FloatKind.f64.format.order sp 0==some Ordering.lt)=false /\
  (FloatKind.f64.format.order sp 0==some Ordering.eq)=((mn:Int)==(mx:Int))/\5<=mn/\mn<=4092/\mx<=4092:=by
 intro mn mx me sp;have a1:∀ x∈L,mn<=nsz x:=fun x hx=>mn_mem L 4092 x hx
 have a2:∀ x∈L,nsz x<=mx:=fun x hx=>mx_mem L 0 x hx
 have a3:5<=mn:=mn_low L 4092 5 (by decide) (fun x hx=>(hz x hx).lo);have a4:mn<=4092:=mn_le L 4092;have a5:mx<=4092:=mx_le L 0 4092 (Nat.zero_le _) (fun x hx=>(hz x hx).hi);have s1:=sum_mn L mn a1;have s2:=sumT_bound22 (f:=nsz) L a2;have s3:=sumT_bound22 (f:=nsz) (c:=4092) L (fun x hx=>(hz x hx).hi);obtain ⟨c,hc⟩:∃ c,L.length=c:=⟨_,rfl⟩;obtain ⟨S,hS⟩:∃ S,sumT nsz L=S:=⟨_,rfl⟩;have hme:me=quW S (c*4092):=by show quW _ _=_;rw [hc,hS]
 have hsp:sp=spW (sumT (sqN (S / c)) L) c:=by show spW _ _=_;rw [hc,hS]
 rw [hc] at h0 hl s1 s2 s3;rw [hS] at s1 s2 s3;have big:∀ k:Nat,k<=409200000->k<2 ^ 53:=fun k hk=>Nat.lt_of_le_of_lt hk (by decide)
 have q1:quW mn 4092<=me:=by
  rw [hme];refine qu_ratio (big _ (by omega)) (by decide) (big _ (by omega)) (big _ (by omega)) (by decide) (by omega) ?_;rw [<- Nat.mul_assoc];exact Nat.mul_le_mul_right _ s1
 have q2:me<=quW mx 4092:=by
  rw [hme];refine qu_ratio (big _ (by omega)) (big _ (by omega)) (big _ (by omega)) (by decide) (by omega) (by decide) ?_;rw [<- Nat.mul_assoc,Nat.mul_comm mx c];exact Nat.mul_le_mul_right _ s2
 have i1:me<=infF:=by rw [hme];exact (qu_some (big _ (by omega)) (big _ (by omega)) (by omega)).2
 have i2:quW mn 4092<=infF:=(qu_some (big _ (by omega)) (by decide) (by decide)).2;have i3:quW mx 4092<=infF:=(qu_some (big _ (by omega)) (by decide) (by decide)).2;have hmid:S / c<=4092:=Nat.div_le_of_le_mul (by omega);have hsq:=sumT_bound22 (f:=sqN (S / c)) (c:=16744464) L (fun x hx=>sq_le hmid (hz x hx).hi);rw [hc] at hsq;have hsq2:sumT (sqN (S / c)) L<=1674446400000:=Nat.le_trans hsq (Nat.mul_le_mul_right _ hl);obtain ⟨z1,z2⟩:=sp_zero (S:=sumT (sqN (S / c)) L) (N:=c) (Nat.lt_of_le_of_lt hsq2 (by decide)) (Nat.le_trans hl (by decide)) h0;rw [<- hsp] at z1 z2
 have zz:sumT (sqN (S / c)) L=0↔mn=mx:=by
  refine ⟨fun h=>?_,fun h=>?_⟩
  ·have h1:=sumT_all h
   have e:∀ x∈L,nsz x=S / c:=fun x hx=>sq_zero.1 (h1 x hx)
   obtain ⟨x,hx⟩:∃ x,x∈L:=List.exists_mem_of_length_pos (by omega);have b1:S / c<=mn:=mn_low L 4092 _ hmid (fun y hy=>Nat.le_of_eq (e y hy).symm);have b2:mx<=S / c:=mx_le L 0 _ (Nat.zero_le _) (fun y hy=>Nat.le_of_eq (e y hy));have:=a1 x hx;have:=a2 x hx;omega
  ·have e:S=mn*c:=by rw [<- h,Nat.mul_comm c mn] at s2;omega
   have e2:S / c=mn:=by rw [e];exact Nat.mul_div_cancel _ h0
   refine sumT_zero fun x hx=>sq_zero.2 ?_
   have:=a1 x hx;have:=a2 x hx;omega
 have o1:FloatKind.f64.format.order me (quW mn 4092)=some (compare me (quW mn 4092)):=order_rung i1 i2;have o2:FloatKind.f64.format.order me (quW mx 4092)=some (compare me (quW mx 4092)):=order_rung i1 i3;have o3:FloatKind.f64.format.order sp 0=some (compare sp 0):=order_rung z2 (Nat.zero_le _);refine ⟨?_,?_,?_,?_,a3,a4,a5⟩
 ·rw [o1,beq_eq_false_iff_ne]
  intro e;have:=Nat.compare_eq_lt.1 (Option.some.inj e);omega
 ·rw [o2,beq_eq_false_iff_ne]
  intro e;have:=Nat.compare_eq_gt.1 (Option.some.inj e);omega
 ·rw [o3,beq_eq_false_iff_ne]
  intro e;have:=Nat.compare_eq_lt.1 (Option.some.inj e);omega
 ·rw [o3]
  by_cases e:mn=mx
  ·have e1:=z1.2 (zz.2 e)
   rw [e1,e,Nat.compare_eq_eq.2 rfl];simp
  ·have e1:sp≠0:=fun h=>e (zz.1 (z1.1 h))
   have e2:compare sp 0=.gt:=Nat.compare_eq_gt.2 (by omega);have e3:((mn:Int)==(mx:Int))=false:=by rw [beq_eq_false_iff_ne];omega
   rw [e2,e3]
   rfl
theorem lvls_at {xs:List NoT}{h i:Nat}(h0:i<h):(lvlsE xs h)[i]?=some (lvlE xs i):=by
 unfold lvlsE;rw [List.getElem?_map,List.getElem?_range h0]
 rfl
end Go.Proofs.YteaahinjcfjngaaGreat
