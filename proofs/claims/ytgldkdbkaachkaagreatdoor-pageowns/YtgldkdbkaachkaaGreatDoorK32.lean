import Derived.Test.YtgldkdbkaachkaaGreatDoorK31
import Derived.Test.YtgldkdbkaachkaaGreatDoorK34
import Derived.Test.YtgldkdbkaachkaaGreatDoorK35
import Derived.Test.YtgldkdbkaachkaaGreatDoorK36
import Derived.Test.YtgldkdbkaachkaaGreatDoorK37
import Derived.Test.YtgldkdbkaachkaaGreatDoorK38
set_option maxRecDepth 100000
set_option maxHeartbeats 4000000
namespace Go.Proofs.YtgldkdbkaachkaaGreatDoor
open Go.RowKit
variable {zs:List Int}{B H base:Nat}{cs:Nat->Value}{w w' w0 wl:World}
structure Cb (w0 wl:World)(B base:Nat)(w:World)(cs:Nat->Value)(L:Nat->List au)(H:Nat):Prop where
 k:∃ ys,gU kdS Da w B base cs L ys
 g:w0.grownBy w none
 gl:wl.grownBy w (some B)
 lim:∀ i,∀ t∈L i,t.C=0∨t.g<H
 no:∀ i,i≠0->i≠1->i≠3->i≠6->i≠7->L i=[]
structure Cd (w0 wl:World)(B base:Nat):Prop where
 b:w0.heap.size<=B/\B<base
 l:wl.heap.size=base
theorem Cb.n {B:Nat}{w:World}{L:Nat->List au}(h:Cb w0 wl B base w cs L H)(hg:w.grownBy w' none):Cb w0 wl B base w' cs L H:=by
 obtain ⟨ys,hk⟩:=h.k;exact ⟨⟨ys,hk.ae qw hg⟩,gQ h.g hg,gN h.gl hg (by simp),h.lim,h.no⟩
theorem Cb.f {cs':Nat->Value}{L L':Nat->List au}{H':Nat}(hc:Cd w0 wl B base)(h:Cb w0 wl B base w cs L H)(hf:pF w w' B base cs cs')(hk:∃ ys,gU kdS Da w' B base cs' L' ys)(Tw:∀ i,∀ t∈L' i,t.C=0∨t.g<H')(hno:∀ i,i≠0->i≠1->i≠3->i≠6->i≠7->L' i=[]):Cb w0 wl B base w' cs' L' H' :=
 ⟨hk,hf.grown h.g hc.b.1 (by have:=hc.b;omega),⟨hf.os.trans h.gl.os,hf.tape.trans h.gl.tape,hf.output.trans h.gl.output,Nat.le_trans h.gl.size hf.size,fun i hi hne=>(hf.low i (Nat.lt_of_lt_of_le hi h.gl.size) (by have:=hc.l;omega) (fun e=>hne (by rw [e]))).trans (h.gl.block i hi hne)⟩,Tw,hno⟩
theorem Cb.new {B base:Nat}{cs:Nat->Value}{L:Nat->List au}(h:Cb w0 wl B base w cs L H){d:Nat}(hd:w.heap.size<=d):ja base cs d:=by
 obtain ⟨ys,hk⟩:=h.k;exact hk.t.new hd
theorem Cb.uW {L:Nat->List au}(h:Cb w0 wl B base w cs L H)(hg:w.grownBy w' none)(D:Nat)(hD:w.heap.size<=D)(hD2:D<w'.heap.size):Kee w w' base cs (dr cs 41 (.slice (some ⟨D,0,none⟩) 0 0))/\Cb w0 wl B base w' (dr cs 41 (.slice (some ⟨D,0,none⟩) 0 0)) L H:=by
 obtain ⟨ys,hk⟩:=h.k;obtain ⟨k1,k2⟩:=hk.uW qw hg D hD hD2;exact ⟨k1,⟨⟨ys,k2⟩,gQ h.g hg,gN h.gl hg (by simp),h.lim,h.no⟩⟩
theorem Cb.off {L:Nat->List au}{D:Nat}(hc:Cd w0 wl B base)(h:Cb w0 wl B base w cs L H)(hD:(cs 41).ownBlock=some D)(hg:w.grownBy w' (some D)):Cb w0 wl B base w' cs L H:=by
 obtain ⟨ys,hk⟩:=h.k;have hb:=(hk.t.bk 41 (by omega) D hD).1;have:=hc.b;have:=hc.l;exact ⟨⟨ys,hk.off qw hD hg⟩,af h.g hg (by omega),gN h.gl hg (fun g e=>by have:=Option.some.inj e;omega),h.lim,h.no⟩
theorem FQ {t s:au}(h:t.C=0∨t.g<H)(hs:H<=s.g):t.bR s:=fun i j hi hj e=>by
 rcases h with h | h
 ·omega
 ·injection e with e1;omega
theorem Xu {L:Nat->List au}{G:Nat}(hc:Cd w0 wl B base)(h:Cb w0 wl B base w cs L H)(hr:Rw w G zs)(hf:ja base cs G)(hG:H<=G)(hz:zs.length=4096)(hL:(L 0).length<=100000) :
  Calls Tryz.prog 14 #[.pointer (some ⟨B,0,none⟩),.slice (some ⟨G,0,none⟩) 4096 4096] w fun en w'=>en=.returned (.tuple #[])/\∃ cs' s,Cb w0 wl B base w' cs' (bI L 0 [s]) (G+1)/\pF w w' B base cs cs':=by
 obtain ⟨ys,hk⟩:=h.k;refine (jd qw hk rfl rfl (some ⟨G,0,none⟩) 4096 4096 zs ⟨hr.all 4096 4096 hz.symm,fun ad e _=>by obtain rfl:=Option.some.inj e;exact hf⟩ (by omega) (by omega)).mono ?_;rintro en w' ⟨rfl,cs',y,k1,k2,_⟩;have hsz:((zs.map (Value.int .u8)).toArray).size=4096:=by simp [hz]
 have hrd:Ho w base cs 1 5 ⟨.slice (some ⟨G,0,none⟩) 4096 4096,G,0,4096,4096,4096,4096⟩:=⟨⟨Nat.le_refl _,by simp,by simp,by simp,by simp,_,rfl,fun _=>rfl⟩,fun j hj=>⟨⟨_,by rw [Nat.zero_add];exact (cell_of_row w G j _ _ _ hr).trans (Array.getElem?_eq_getElem (show j<_ by rw [hsz];exact hj))⟩,by rw [Nat.zero_add];exact frozen_of_row w G j _ _ hr⟩,by simp,⟨_,_,hr⟩,hf⟩;refine ⟨rfl,cs',_,h.f hc k1 ⟨_,k2 _ rfl rfl rfl hrd (fun t ht=>FQ (h.lim 0 t ht) hG)⟩ (fun i t ht=>?_) (fun i h2 h3 h4 h5 h6=>by rw [aB _ _ h2];exact h.no i h2 h3 h4 h5 h6),k1⟩;unfold bI at ht
 split at ht
 ·rcases List.mem_append.1 ht with h1 | h1
  ·rcases h.lim _ t h1 with a | a
   ·exact Or.inl a
   ·exact Or.inr (by omega)
  ·rw [List.mem_singleton.1 h1];exact Or.inr (by show G<G+1;omega)
 ·rcases h.lim _ t ht with a | a
  ·exact Or.inl a
  ·exact Or.inr (by omega)
theorem Xv:Kp5 kdS Da:=⟨qw,rfl,rfl,rfl,rfl,⟨_,rfl⟩,rfl,rfl,rfl,rfl,rfl⟩
theorem Xw {L:Nat->List au}{lo:Nat}{x:Pv}{p:Pg}{D E F:List au}(hc:Cd w0 wl B base)(h:Cb w0 wl B base w cs L H)(hp:YE w base cs lo x p D E F)(hpf:Pf8 x p)(hH:H<=lo)(hL:∀ j,(L j).length<=100000) :
  Calls Tryz.prog 15 #[.pointer (some ⟨B,0,none⟩),.agg #[.int .i64 x.k,.slice x.i.a x.i.n x.i.c,.int .i64 x.l,.slice x.s.a x.s.n x.s.c,.slice x.d.a x.d.n x.d.c,.int .i64 x.x,.slice x.b.a x.b.n x.b.c,.slice x.t.a x.t.n x.t.c,.int .i64 x.h.v,.int .i64 x.h.c,.int .i64 x.h.r,.int .i64 x.h.h,.int .i64 x.h.k,.int .i64 x.h.f,.int .i64 x.h.n]] w fun en w'=>en=.returned (.tuple #[])/\∃ cs' L',Cb w0 wl B base w' cs' L' w'.heap.size/\pF w w' B base cs cs'/\∀ j,(L' j).length<=(L j).length+10000:=by
 obtain ⟨ys,hk⟩:=h.k
 refine (Pf Xv hk lo x p D E F hp hpf (fun j t ht=>by
  rcases h.lim j t ht with a | a
  ·exact Or.inl a
  ·exact Or.inr (by omega)) hL).mono ?_
 rintro en w' ⟨rfl,cs',ys',s6,s3,s7,s1,G,k1,k2,d1,d2,d3⟩
 have hno:∀ i,i≠0->i≠1->i≠3->i≠6->i≠7->bI (bI (bI (bI (bI (bI (bI L 0 D) 6 [s6]) 0 E) 3 [s3]) 7 [s7]) 0 G) 1 [s1] i=[]:=fun i h0 h1 h3 h6 h7=>by
  rw [aB _ _ h1,aB _ _ h0,aB _ _ h7,aB _ _ h3,aB _ _ h0,aB _ _ h6,aB _ _ h0];exact h.no i h0 h1 h3 h6 h7
 refine ⟨rfl,cs',_,h.f hc k1 ⟨_,k2⟩ (fun i t ht=>Or.inr ?_) hno,k1,fun j=>?_⟩
 ·rcases Nat.lt_or_ge i 13 with hi | hi
  ·exact k2.lt hi ht
  ·rw [hno i (by omega) (by omega) (by omega) (by omega) (by omega)] at ht;simp at ht
 ·have ls:∀ (M:Nat->List au) (i:Nat) (Q:List au),(bI M i Q j).length<=(M j).length+Q.length:=fun M i Q=>by
   unfold bI
   split
   ·rename_i e;subst e;rw [List.length_append];omega
   ·omega
  have a1:=ls (bI (bI (bI (bI (bI (bI L 0 D) 6 [s6]) 0 E) 3 [s3]) 7 [s7]) 0 G) 1 [s1];have a2:=ls (bI (bI (bI (bI (bI L 0 D) 6 [s6]) 0 E) 3 [s3]) 7 [s7]) 0 G;have a3:=ls (bI (bI (bI (bI L 0 D) 6 [s6]) 0 E) 3 [s3]) 7 [s7];have a4:=ls (bI (bI (bI L 0 D) 6 [s6]) 0 E) 3 [s3];have a5:=ls (bI (bI L 0 D) 6 [s6]) 0 E;have a6:=ls (bI L 0 D) 6 [s6];have a7:=ls L 0 D;simp only [List.length_cons,List.length_nil] at a1 a3 a4 a6;omega
theorem GY.Vi {y:Pv}{p:Pg}{b:Yw}(h:GY w base y p b)(hg:w.grownBy w' (some B))(hB:B<base):GY w' base y p b:=by
 have hbm:=h.bm;have Yf:=h.mm;have hdm:=h.dm;have hA:=(h.it.own.lt b.A rfl).1;have hS:=(h.sp.own.lt b.B rfl).1;have hK:=(h.kd.lt b.K rfl).1;have hT:=(h.li.lt b.T rfl).1;have hh:=h.sp.hb;refine ⟨h.kind,h.level,h.next,h.head,h.yi,h.it.kept hg (fun e=>?_) (fun j hj=>⟨fun e=>?_,fun e=>?_⟩),h.ib,h.im,h.ys,h.sp.kept hg (fun e=>?_) (fun e=>?_) (fun j hj e=>?_),h.sb,h.bm,h.sm,h.yd,h.kd.kept hg (.inr (fun e=>?_)),h.yb,h.da.kept hg (fun e=>?_),h.db,h.dm,h.mm,h.yt,h.li.kept hg (.inr (fun e=>?_))⟩
 ·have:=Option.some.inj e;omega
 ·have:=Option.some.inj e;have:=h.it.lo j hj;omega
 ·have:=Option.some.inj e;have:=h.it.lo j hj;omega
 ·have:=Option.some.inj e;omega
 ·have:=Option.some.inj e;omega
 ·have:=Option.some.inj e;have:=h.sp.lo j hj;omega
 ·have e':b.K=B:=Option.some.inj e;omega
 ·have:=Option.some.inj e;omega
 ·have e':b.T=B:=Option.some.inj e;omega
theorem zT (x:Pv)(p:Pg)(w:World)(hp:Pm w x p)(hk:iT p.kind=false):Calls Tryz.prog 8 #[.agg #[.int .i64 x.k,.slice x.i.a x.i.n x.i.c,.int .i64 x.l,.slice x.s.a x.s.n x.s.c,.slice x.d.a x.d.n x.d.c,.int .i64 x.x,.slice x.b.a x.b.n x.b.c,.slice x.t.a x.t.n x.t.c,.int .i64 x.h.v,.int .i64 x.h.c,.int .i64 x.h.r,.int .i64 x.h.h,.int .i64 x.h.k,.int .i64 x.h.f,.int .i64 x.h.n]] w fun en w'=>Xc p w en w':=by
 have HQ:=hJ hk;have e2:iT x.k=false:=by rw [hp.kind];exact hk
 have e1:kW x.k=#[.int .i64 0,.nilFunc,.nilFunc,.nilFunc]:=by
  refine (sQ (fun j hj e=>?_)).1;have:iT x.k=true:=by rw [e,lN];omega
  rw [e2] at this;cases this
 have E1:=hJ e1;have E2:=hJ e2;clear hp hk e1 e2;go_enter Tryz.func8,Tryz.ntmps8;go_upto_region 1 with fail
 have X1:=hJ (Px.new w x);have G1:=hJ (gP w x);generalize w.alloc (.cells #[.int .i64 x.k,.slice x.i.a x.i.n x.i.c,.int .i64 x.l,.slice x.s.a x.s.n x.s.c,.slice x.d.a x.d.n x.d.c,.int .i64 x.x,.slice x.b.a x.b.n x.b.c,.slice x.t.a x.t.n x.t.c,.int .i64 x.h.v,.int .i64 x.h.c,.int .i64 x.h.r,.int .i64 x.h.h,.int .i64 x.h.k,.int .i64 x.h.f,.int .i64 x.h.n] 30)=w1 at *;obtain ⟨c0,c1,c2,c3,c4,c5,c6,c7,c8,c9,c10,c11,c12,c13,c14⟩:=X1.out.cells
 go_wp2_with fail
 refine (eF x.k _).mono ?_;rintro en w2 ⟨rfl,hg2⟩;rw [E1.out,E2.out];have ga:=World.grownBy_alloc w2 (.cells #[.int .i64 0,.nilFunc,.nilFunc,.nilFunc] 73) none;have G3:=hJ (gQ (gQ G1.out hg2) ga);clear hg2 ga X1 G1 c0 c1 c2 c3 c4 c5 c6 c7 c8 c9 c10 c11 c12 c13 c14;go_wp2
 go_ret2
 exact ⟨⟨none,0,[],80,rfl,.inl ⟨HQ.out,rfl,rfl⟩,ai.empty _,Bt.nil,by omega,fun h=>by omega⟩,G3.out⟩
theorem ld (x:Pv)(p:Pg)(w:World)(hp:Pm w x p)(he:qW x p)(ht:pA w)(hm:Mk w):Calls Tryz.prog 8 #[.agg #[.int .i64 x.k,.slice x.i.a x.i.n x.i.c,.int .i64 x.l,.slice x.s.a x.s.n x.s.c,.slice x.d.a x.d.n x.d.c,.int .i64 x.x,.slice x.b.a x.b.n x.b.c,.slice x.t.a x.t.n x.t.c,.int .i64 x.h.v,.int .i64 x.h.c,.int .i64 x.h.r,.int .i64 x.h.h,.int .i64 x.h.k,.int .i64 x.h.f,.int .i64 x.h.n]] w fun en w'=>Xc p w en w':=by
 cases hk:iT p.kind with
 | false=>exact zT x p w hp hk
 | true =>
  have h:=lN.1 hk
  by_cases h1:p.kind=1
  ·exact Lj x p w hp he ht hm h1
  ·by_cases h2:p.kind=2
   ·exact Lf x p w hp he ht hm h2
   ·by_cases h3:p.kind=3
    ·exact Li x p w hp he ht hm h3
    ·by_cases h4:p.kind=4
     ·exact Lh x p w hp he ht hm h4
     ·exact Lg x p w hp he ht hm (by omega)
def sY:It:=⟨[107],[118,118],2,0⟩
def pgK:Pg:=⟨1,[sY],0,[],[],0,[],[],zH⟩
theorem Ij:wrong [sY]=0:=by decide
theorem Pk:size [sY]=11:=by decide
theorem Xx:used [sY]=[1,1,0,1,107,7,0,0,4,118,118]:=by decide
theorem zU:body [sY]=[1,1,0,1,107,7,0,0,4,118,118]++List.replicate 4081 0:=by
 unfold body;rw [Xx];simp only [List.length_cons,List.length_nil]
theorem vz:Ib [sY]:=by
 intro x hx;obtain rfl:=List.mem_singleton.1 hx;exact ⟨btl _ rfl,btl _ rfl,by decide,by decide,by decide,by decide⟩
set_option maxRecDepth 100000
theorem Xy:runs 4294967295 [1,1,0,1,107,7,0,0,4,118,118]=622882929:=by decide +kernel
theorem kz0:aX 2046 622882929=430575013:=by rw [<- az];decide +kernel
theorem kz1:aX 2046 430575013=2530128549:=by rw [<- az];decide +kernel
theorem kz2:aX 2046 2530128549=1819359665:=by rw [<- az];decide +kernel
theorem kz3:aX 2046 1819359665=916697747:=by rw [<- az];decide +kernel
theorem kz4:aX 2046 916697747=402550181:=by rw [<- az];decide +kernel
theorem kz5:aX 2046 402550181=1475387649:=by rw [<- az];decide +kernel
theorem kz6:aX 2046 1475387649=4059080439:=by rw [<- az];decide +kernel
theorem kz7:aX 2046 4059080439=1078168711:=by rw [<- az];decide +kernel
theorem kz8:aX 2046 1078168711=4111499635:=by rw [<- az];decide +kernel
theorem kz9:aX 2046 4111499635=2285608818:=by rw [<- az];decide +kernel
theorem age:aX 2046 2285608818=494244352:=by rw [<- az];decide +kernel
theorem agf:aX 2046 494244352=2487820922:=by rw [<- az];decide +kernel
theorem agh:aX 2046 2487820922=1556955403:=by rw [<- az];decide +kernel
theorem agi:aX 2046 1556955403=769036597:=by rw [<- az];decide +kernel
theorem agj:aX 2046 769036597=3282804844:=by rw [<- az];decide +kernel
theorem agk:aX 1958 3282804844=176656722:=by rw [<- az];decide +kernel
theorem TK:aX 32648 622882929=176656722:=by
 rw [show (32648:Nat)=2046+2046+2046+2046+2046+2046+2046+2046+2046+2046+2046+2046+2046+2046+2046+1958 from rfl];rw [aC,aC,aC,aC,aC,aC,aC,aC,aC,aC,aC,aC,aC,aC,aC,kz0,kz1,kz2,kz3,kz4,kz5,kz6,kz7,kz8,kz9,age,agf,agh,agi,agj,agk]
theorem abX:upd 0 (body [sY])=4118310573:=by
 unfold upd;rw [zU,ny,Xy,mr,TK]
theorem Vj:fe 4118310573=[173,110,120,245]:=by decide
def jH:List Int:=[1,1,0,1,107,7,0,0,4,118,118]++(List.replicate 4081 0++[173,110,120,245])
theorem Vk:enc [sY]=(body [sY],0):=uQ ⟨Ij,by rw [Pk];decide,rfl⟩
theorem Xz:(body [sY]).length=4092:=nL Ij (by rw [Pk];decide)
theorem Po:gM (body [sY])=jH/\kG (body [sY])=0:=by
 unfold gM kG;rw [if_pos Xz,if_pos Xz,abX,Vj,zU];exact ⟨List.append_assoc _ _ _,rfl⟩
theorem Pp:uM pgK jH 0:=by
 refine .inr (.inr ⟨rfl,rfl,body [sY],0,.inl ⟨rfl,?_,?_⟩,.inr ⟨rfl,Po.2.symm,Po.1.symm⟩⟩)
 ·show _=(enc [sY]).1;rw [Vk]
 ·show _=(enc [sY]).2;rw [Vk]
theorem Ik:jH.length=4096:=by unfold jH;rw [List.length_append,List.length_append,List.length_replicate];rfl
theorem TL {e:Int}(h:uM ⟨1,[sY],0,[],[],7,[],[],zH⟩ zs e):e=81:=by
 have hne:(⟨1,[sY],0,[],[],7,[],[],zH⟩:Pg)≠eV ⟨1,[sY],0,[],[],7,[],[],zH⟩:=by
  intro e;injection e with _ _ _ _ _ h _ _ _
  exact absurd h (by decide)
 rcases h with ⟨h0,_⟩ | ⟨_,_,h,_⟩ | ⟨_,h,_⟩
 ·exact absurd h0 (by decide)
 ·exact h
 ·exact absurd h hne
theorem Pq:¬ fits (List.replicate 4096 0):=by
 rintro ⟨_,h⟩;rw [List.take_replicate,List.drop_replicate,show min 4092 4096=4092 by decide,Iw,Ix] at h;exact absurd h (by decide)
theorem Il.agl (w:World)(x:It)(a b:Option Addr)(n1 c1 n2 c2:Nat)(k:Nat)(hk:k=w.heap.size)(h1:ai w a n1 c1 x.key)(h2:ai w b n2 c2 x.val)(l1:n1<=c1/\c1<=100)(l2:n2<=c2/\c2<=100)(s1 f1:Int)(hs1:x.size=s1)(Dy:x.first=f1) :
  Il (w.alloc (.cells #[.slice a n1 c1,.slice b n2 c2,.int .i64 s1,.int .i64 f1] 63)) (some ⟨k,0,none⟩) [x]:=by
 subst hk hs1 Dy;have hc:=fun i=>cell_of_row (w.alloc (.cells #[.slice a n1 c1,.slice b n2 c2,.int .i64 x.size,.int .i64 x.first] 63)) w.heap.size i _ _ (0,0) (heap_alloc_new w _)
 refine ⟨fun i hi=>?_⟩
 match i,hi with
 | 0,_=>exact ⟨w.heap.size,0,a,n1,c1,b,n2,c2,rfl,hc 0,hc 1,hc 2,hc 3,h1.on _,l1.1,by omega,h2.on _,l2.1,by omega⟩
 | i+1,h=>exact absurd h (by simp)
theorem jf (n:Int)(w:World):Calls Tryz.prog 13 #[.int .i64 n] w fun en w'=>en=.returned (.int .i64 n)/\w'=w:=by
 go_enter Tryz.func13,Tryz.ntmps13;go_wp2;go_ret;exact ⟨rfl,rfl⟩
end Go.Proofs.YtgldkdbkaachkaaGreatDoor
