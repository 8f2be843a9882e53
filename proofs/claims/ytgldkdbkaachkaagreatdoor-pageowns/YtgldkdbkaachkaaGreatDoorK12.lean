import Derived.ProofKit
import Derived.OpenShut
import Derived.Deep.Slices
import Derived.ChangeSame
import Derived.Test.YtgldkdbkaachkaaGreatDoorK11
set_option maxRecDepth 100000
set_option maxHeartbeats 4000000
namespace Go.Proofs.YtgldkdbkaachkaaGreatDoor
open Go.ChangeShapes Go.WideShapes Go.ChangeAt Go.WideMaps Go.WideElems Go.RowKit Go.Deep
theorem kO:Tryz.prog.cellsOf 25=1:=by kernel_rfl
theorem lF:Tryz.prog.cellsOf 3=1:=by kernel_rfl
theorem um:Tryz.prog.cellsOf 63=4:=by kernel_rfl
theorem mO {w:World}{a:Addr}{v:Value}(h:w.cell? a=some v):∃ b off,a=⟨b,off,none⟩:=by
 obtain ⟨b,off,spot⟩:=a;have:spot=none:=World.cell?_spot h;exact ⟨b,off,by rw [this]⟩
theorem js {H:Type}{enc:TypeId × Value->H}{w:World}{base:Nat}{held:Bool}{fuel:Nat}{cs:List Value}{x:DataW H × List MemPlace}
  (h:DataW.trod enc Tryz.prog w base (fun _=>true) held fuel 25 cs=some x):∃ ao n c zs,cs=[.slice ao n c]/\ai w ao n c zs/\Bt zs/\n<=c/\c<=9223372036854775807:=by
 rcases open_ints Tryz.underlying25 Tryz.underlying5 (by kernel_rfl) h with ⟨hcs,_⟩ | ⟨x,l,c,zs,hcs,_,hl,hm,hz,_,hcell,hwz⟩
 ·exact ⟨none,0,0,[],hcs,ai.empty w,Bt.nil,Nat.le_refl _,by omega⟩
 ·obtain ⟨h1,h2,h3,h4⟩:=Ds (zs:=zs) (.inr ⟨_,rfl,hl,hm,by simpa using hz,hcell,hwz⟩)
  exact ⟨_,_,_,_,hcs,h1,h2,h3,h4⟩
theorem BS {P:Nat->It->Prop}:∀ (n:Nat),(∀ i,i<n->∃ x,P i x)->∃ L:List It,L.length=n/\∀ i,i<n->P i (L.getD i aG)
 | 0,_=>⟨[],rfl,fun i hi=>by omega⟩
 | n+1,h=>by
  obtain ⟨L,hl,hL⟩:=BS n (fun i hi=>h i (by omega));obtain ⟨z,hz⟩:=h n (by omega);refine ⟨L++[z],by simp [hl],fun i hi=>?_⟩
  by_cases hin:i<n
  ·have e:(L++[z]).getD i aG=L.getD i aG:=by simp [List.getD,List.getElem?_append_left (show i<L.length by omega)]
   rw [e];exact hL i hin
  ·have:i=n:=by omega
   subst this;have e:(L++[z]).getD i aG=z:=by subst hl;simp [List.getD]
   rw [e];exact hz
theorem Re {H:Type}{enc:TypeId × Value->H}{P:Program}{w:World}{base:Nat}{spare:Nat->Bool}{held:Bool}{t:TypeId}{f0 f1 f2 f3:Field}{fuel:Nat}{cs:List Value}{x:DataW H × List MemPlace}(ht:P.underlying t=some (.struct #[f0,f1,f2,f3]))(h:DataW.trod enc P w base spare held fuel t cs=some x) :
  ∃ y0 y1 y2 y3 n,cs.length=P.cellsOf t/\DataW.trod enc P w base spare held n f0.type ((cs.drop f0.offset).take (P.cellsOf f0.type))=some y0/\DataW.trod enc P w base spare held n f1.type ((cs.drop f1.offset).take (P.cellsOf f1.type))=some y1 /\
   DataW.trod enc P w base spare held n f2.type ((cs.drop f2.offset).take (P.cellsOf f2.type))=some y2/\DataW.trod enc P w base spare held n f3.type ((cs.drop f3.offset).take (P.cellsOf f3.type))=some y3:=by
 obtain ⟨xs,n,_,rfl,hl,hlen,hf⟩:=DataW.trod_struct ht h
 match xs,hlen with
 | [y0,y1,y2,y3],_=>exact ⟨y0,y1,y2,y3,n,hl,by simpa using hf 0 f0 rfl,by simpa using hf 1 f1 rfl,by simpa using hf 2 f2 rfl,by simpa using hf 3 f3 rfl⟩
structure Ic (w:World)(ao:Option Addr)(n c:Nat)(bo:Option Addr)(m d:Nat)(x:It):Prop where
 k:ai w ao n c x.key
 kc:n<=c/\c<=9223372036854775807
 v:ai w bo m d x.val
 vc:m<=d/\d<=9223372036854775807
 b:Qy x
theorem JB {H:Type}{enc:TypeId × Value->H}{w:World}{base:Nat}{held:Bool}{fuel:Nat}{cs:List Value}{x:DataW H × List MemPlace}
  (h:DataW.trod enc Tryz.prog w base (fun _=>true) held fuel 63 cs=some x):∃ ao n c bo m d y,cs=[.slice ao n c,.slice bo m d,.int .i64 y.size,.int .i64 y.first]/\Ic w ao n c bo m d y:=by
 obtain ⟨y0,y1,y2,y3,n',hl,h0,h1,h2,h3⟩:=Re Tryz.underlying63 h;rw [um] at hl;obtain ⟨ao,n,c,za,e0,b0,t0,l0,l1⟩:=js h0;obtain ⟨bo,m,d,zb,e1,b1,t1,m0,m1⟩:=js h1;obtain ⟨s,e2,_,ws⟩:=DataW.trod_int Tryz.underlying3 h2;obtain ⟨f,e3,_,wf⟩:=DataW.trod_int Tryz.underlying3 h3;simp only [kO,lF] at e0 e1 e2 e3;have hs:=bounds_i64 ws;have hf:=bounds_i64 wf
 match cs,hl with
 | [c0,c1,c2,c3],_ =>
  simp at e0 e1 e2 e3;exact ⟨ao,n,c,bo,m,d,⟨za,zb,s,f⟩,by rw [e0,e1,e2,e3],⟨b0,⟨l0,l1⟩,b1,⟨m0,m1⟩,⟨t0,t1,by simp only;omega,by simp only;omega,by simp only;omega,by simp only;omega⟩⟩⟩
theorem Ex {H:Type}{enc:TypeId × Value->H}{w:World}{base:Nat}{held:Bool}{fuel:Nat}{a:Option Addr}{len cap:Nat}{x:DataW H × List MemPlace}
  (h:DataW.trod enc Tryz.prog w base (fun _=>true) held fuel 22 [.slice a len cap]=some x):∃ L,Il w a L/\Ib L/\L.length=len/\len<=cap/\cap<=9223372036854775807:=by
 rcases open_slice Tryz.underlying22 h with ⟨hcs,_⟩ | ⟨ad,l,c,m,n,D,Pc,hcs,_,hl,hm,Yf,_,hel⟩
 ·simp at hcs
  obtain ⟨rfl,rfl,rfl⟩:=hcs;exact ⟨[],Il.zero _ _,(fun x hx=>by cases hx),rfl,Nat.le_refl _,by omega⟩
 ·simp at hcs
  obtain ⟨rfl,rfl,rfl⟩:=hcs;have hlm:len<=m:=by rw [Yf];split <;> omega
  have each:∀ i,i<len->∃ y ao n c bo m d,w.cell? ((ad.add (i*4)).add 0)=some (.slice ao n c)/\w.cell? ((ad.add (i*4)).add 1)=some (.slice bo m d)/\w.cell? ((ad.add (i*4)).add 2)=some (.int .i64 y.size)/\w.cell? ((ad.add (i*4)).add 3)=some (.int .i64 y.first)/\Ic w ao n c bo m d y:=by
   intro i hi;obtain ⟨cs',h1,h2⟩:=hel i (by omega);rw [um] at h1;obtain ⟨ao,n2,c2,bo,m2,d2,y,rfl,GQ⟩:=JB h2;obtain ⟨_,_,hc⟩:=World.cells?_some h1;exact ⟨y,ao,n2,c2,bo,m2,d2,by simpa using hc 0 (by omega),by simpa using hc 1 (by omega),by simpa using hc 2 (by omega),by simpa using hc 3 (by omega),GQ⟩
  clear hel;obtain ⟨L,hLl,hL⟩:=BS len each;refine ⟨L,⟨fun i hi=>?_⟩,fun x hx=>?_,hLl,hl,by unfold maxLen at hm;omega⟩
  ·obtain ⟨b,off,rfl⟩:∃ b off,ad=⟨b,off,none⟩:=by
    obtain ⟨_,_,_,_,_,_,_,h6,_⟩:=each 0 (by omega);have e':(ad.add (0*4)).add 0=ad:=by simp [Addr.add]
    rw [e'] at h6;exact mO h6
   obtain ⟨ao,n2,c2,bo,m2,d2,h3,h4,h5,h6,GQ⟩:=hL i (by omega);simp only [Addr.add_lit,Nat.add_zero] at h3 h4 h5 h6;exact ⟨b,off,ao,n2,c2,bo,m2,d2,rfl,h3,h4,h5,h6,GQ.k,GQ.kc.1,GQ.kc.2,GQ.v,GQ.vc.1,GQ.vc.2⟩
  ·obtain ⟨j,hj,rfl⟩:=List.getElem_of_mem hx
   obtain ⟨_,_,_,_,_,_,_,_,_,_,GQ⟩:=hL j (by omega);have:=GQ.b;simpa [List.getD,List.getElem?_eq_getElem hj] using this
end Go.Proofs.YtgldkdbkaachkaaGreatDoor
namespace Go.Proofs.YtgldkdbkaachkaaGreatDoor
open Go.ChangeShapes Go.WideShapes Go.ChangeAt Go.WideMaps Go.WideElems Go.RowKit Go.Deep
theorem xo:Tryz.prog.cellsOf 69=2:=by kernel_rfl
theorem uo {T:Type}(d:T){P:Nat->T->Prop}:∀ (n:Nat),(∀ i,i<n->∃ x,P i x)->∃ L:List T,L.length=n/\∀ i,i<n->P i (L.getD i d)
 | 0,_=>⟨[],rfl,fun i hi=>by omega⟩
 | n+1,h=>by
  obtain ⟨L,hl,hL⟩:=uo d n (fun i hi=>h i (by omega));obtain ⟨z,hz⟩:=h n (by omega);refine ⟨L++[z],by simp [hl],fun i hi=>?_⟩
  by_cases hin:i<n
  ·have e:(L++[z]).getD i d=L.getD i d:=by simp [List.getD,List.getElem?_append_left (show i<L.length by omega)]
   rw [e];exact hL i hin
  ·have:i=n:=by omega
   subst this;have e:(L++[z]).getD i d=z:=by subst hl;simp [List.getD]
   rw [e];exact hz
theorem Rf {H:Type}{enc:TypeId × Value->H}{P:Program}{w:World}{base:Nat}{spare:Nat->Bool}{held:Bool}{t:TypeId}{f0 f1:Field}{fuel:Nat}{cs:List Value}{x:DataW H × List MemPlace}(ht:P.underlying t=some (.struct #[f0,f1]))(h:DataW.trod enc P w base spare held fuel t cs=some x) :
  ∃ y0 y1 n,cs.length=P.cellsOf t/\DataW.trod enc P w base spare held n f0.type ((cs.drop f0.offset).take (P.cellsOf f0.type))=some y0/\DataW.trod enc P w base spare held n f1.type ((cs.drop f1.offset).take (P.cellsOf f1.type))=some y1:=by
 obtain ⟨xs,n,_,rfl,hl,hlen,hf⟩:=DataW.trod_struct ht h
 match xs,hlen with
 | [y0,y1],_=>exact ⟨y0,y1,n,hl,by simpa using hf 0 f0 rfl,by simpa using hf 1 f1 rfl⟩
theorem Ey {H:Type}{enc:TypeId × Value->H}{w:World}{base:Nat}{held:Bool}{fuel:Nat}{a:Option Addr}{len cap:Nat}{x:DataW H × List MemPlace}
  (h:DataW.trod enc Tryz.prog w base (fun _=>true) held fuel 23 [.slice a len cap]=some x):∃ L,Lz w a L/\Lb L/\L.length=len/\len<=cap/\cap<=9223372036854775807:=by
 rcases open_slice Tryz.underlying23 h with ⟨hcs,_⟩ | ⟨ad,l,c,m,n,D,Pc,hcs,_,hl,hm,Yf,_,hel⟩
 ·simp at hcs
  obtain ⟨rfl,rfl,rfl⟩:=hcs;exact ⟨[],Lz.zero _ _,(fun x hx=>by cases hx),rfl,Nat.le_refl _,by omega⟩
 ·simp at hcs
  obtain ⟨rfl,rfl,rfl⟩:=hcs;have hlm:len<=m:=by rw [Yf];split <;> omega
  have each:∀ i,i<len->∃ zs,∃ ao n c,w.cell? ((ad.add (i*1)).add 0)=some (.slice ao n c)/\ai w ao n c zs/\Bt zs/\n<=c/\c<=9223372036854775807:=by
   intro i hi;obtain ⟨cs',h1,h2⟩:=hel i (by omega);rw [kO] at h1;obtain ⟨ao,n2,c2,zs,rfl,GQ⟩:=js h2;obtain ⟨_,_,hc⟩:=World.cells?_some h1;exact ⟨zs,ao,n2,c2,by simpa using hc 0 (by omega),GQ⟩
  clear hel;obtain ⟨L,hLl,hL⟩:=uo ([]:List Int) len each;refine ⟨L,⟨fun i hi=>?_⟩,fun x hx=>?_,hLl,hl,by unfold maxLen at hm;omega⟩
  ·obtain ⟨b,off,rfl⟩:∃ b off,ad=⟨b,off,none⟩:=by
    obtain ⟨_,_,_,_,h6,_⟩:=each 0 (by omega);have e':(ad.add (0*1)).add 0=ad:=by simp [Addr.add]
    rw [e'] at h6;exact mO h6
   obtain ⟨ao,n2,c2,h3,h4,h5,h6,h7⟩:=hL i (by omega);simp only [Addr.add_lit,Nat.add_zero,Nat.mul_one] at h3;exact ⟨b,off,ao,n2,c2,rfl,h3,h4,h6,h7⟩
  ·obtain ⟨j,hj,rfl⟩:=List.getElem_of_mem hx
   obtain ⟨_,_,_,_,_,h5,_⟩:=hL j (by omega);simpa [List.getD,List.getElem?_eq_getElem hj] using h5
theorem JC {H:Type}{enc:TypeId × Value->H}{w:World}{base:Nat}{held:Bool}{fuel:Nat}{a:Option Addr}{len cap:Nat}{x:DataW H × List MemPlace}
  (h:DataW.trod enc Tryz.prog w base (fun _=>true) held fuel 24 [.slice a len cap]=some x):∃ L,Kl w a L/\Kb L/\L.length=len/\len<=cap/\cap<=9223372036854775807:=by
 rcases open_slice Tryz.underlying24 h with ⟨hcs,_⟩ | ⟨ad,l,c,m,n,D,Pc,hcs,_,hl,hm,Yf,_,hel⟩
 ·simp at hcs
  obtain ⟨rfl,rfl,rfl⟩:=hcs;exact ⟨[],Kl.zero _ _,(fun x hx=>by cases hx),rfl,Nat.le_refl _,by omega⟩
 ·simp at hcs
  obtain ⟨rfl,rfl,rfl⟩:=hcs;have hlm:len<=m:=by rw [Yf];split <;> omega
  have each:∀ i,i<len->∃ y:Kd,w.cell? ((ad.add (i*2)).add 0)=some (.int .i64 y.no)/\w.cell? ((ad.add (i*2)).add 1)=some (.int .i64 y.keys)/\Kdb y:=by
   intro i hi;obtain ⟨cs',h1,h2⟩:=hel i (by omega);rw [xo] at h1;obtain ⟨y0,y1,n',hl',h3,h4⟩:=Rf Tryz.underlying69 h2;rw [xo] at hl';obtain ⟨s,e2,_,ws⟩:=DataW.trod_int Tryz.underlying3 h3;obtain ⟨f,e3,_,wf⟩:=DataW.trod_int Tryz.underlying3 h4;simp only [lF] at e2 e3;have hs:=bounds_i64 ws;have hf:=bounds_i64 wf
   match cs',hl',h1 with
   | [c0,c1],_,h1 =>
    simp at e2 e3;obtain ⟨_,_,hc⟩:=World.cells?_some h1;exact ⟨⟨s,f⟩,by rw [<- e2];simpa using hc 0 (by omega),by rw [<- e3];simpa using hc 1 (by omega),⟨by simp only;omega,by simp only;omega,by simp only;omega,by simp only;omega⟩⟩
  clear hel;obtain ⟨L,hLl,hL⟩:=uo dO len each;refine ⟨L,⟨fun i hi=>?_⟩,fun x hx=>?_,hLl,hl,by unfold maxLen at hm;omega⟩
  ·obtain ⟨b,off,rfl⟩:∃ b off,ad=⟨b,off,none⟩:=by
    obtain ⟨_,h6,_⟩:=each 0 (by omega);have e':(ad.add (0*2)).add 0=ad:=by simp [Addr.add]
    rw [e'] at h6;exact mO h6
   obtain ⟨h3,h4,h5⟩:=hL i (by omega);simp only [Addr.add_lit,Nat.add_zero] at h3 h4;exact ⟨b,off,rfl,h3,h4⟩
  ·obtain ⟨j,hj,rfl⟩:=List.getElem_of_mem hx
   obtain ⟨_,_,h5⟩:=hL j (by omega);simpa [List.getD,List.getElem?_eq_getElem hj] using h5
end Go.Proofs.YtgldkdbkaachkaaGreatDoor
namespace Go.Proofs.YtgldkdbkaachkaaGreatDoor
open Go.RowKit
theorem Ow.blk {w:World}{g cap:Nat}{zs:List Int}(h:Ow w g cap zs):∃ cur,w.heap[g]?=some (.cells cur 5 (0,0)):=by
 obtain ⟨cur,h1,_⟩:=h.ex;exact ⟨cur,h1⟩
theorem Wv {w:World}{g cap:Nat}{zs ts:List Int}(h:Ow w g cap (zs++ts))(n:Nat)(hn:n=zs.length):ai w (some ⟨g,0,none⟩) n cap zs:=h.part.AL n hn
theorem fJ {w w':World}{base sz:Nat}{e:TypeId}{v:Value}{n:Nat}{xs:List Value}(h:w.ownsRow base e sz v n xs)(hg:w.grownBy w' none):w'.ownsRow base e sz v n xs :=
 h.kept hg (by cases v.ownBlock with | none=>exact .inl rfl | some g=>exact .inr (by simp))
theorem jt {w wr w':World}{o:Obj}{base n:Nat}{v:Value}{xs:List Value}{t:TypeId}{sz:Nat}(hg:w.grownBy wr none)(ho:wr.ownsRow base t sz v n xs)(hb:w.heap.size<=base)(h:(wr.alloc o).grownBy w' v.ownBlock):w.grownBy w' none:=by
 refine ⟨h.os.trans hg.os,h.tape.trans hg.tape,h.output.trans hg.output,?_,fun q hq _=>?_⟩
 ·have:=h.size;have:=hg.size;simp at *;omega
 ·have IK:q<wr.heap.size:=Nat.lt_of_lt_of_le hq hg.size
  rw [h.block q (by simp;omega) (by intro e;have:=(ho.lt q e.symm).1;omega),Below.heap_alloc wr _ q IK];exact hg.block q hq (by simp)
end Go.Proofs.YtgldkdbkaachkaaGreatDoor
namespace Go.Proofs.YtgldkdbkaachkaaGreatDoor
open Go.RowKit
theorem BU (a:Option Addr)(n cap:Nat)(K:List Kd)(w:World)(hl:Kl w a K)(hn:K.length=n)(hm:n<=5000) :
  Calls Tryz.prog 24 #[.slice a n cap] w fun en w'=>(∃ v,en=.returned v/\w'.ownsRow w.heap.size 69 2 v n (kc K))/\w.grownBy w' none/\w.heap.size<w'.heap.size:=by
 obtain ⟨i1,jN,hy0,vL,jE⟩:=info_parts uj;have HL:=hJ hl;clear hl;go_enter Tryz.func24,Tryz.ntmps24
 go_wp2_with (at_make;refine wpList_make_own _ rfl _ _ 24 rfl w.heap.size 69 i1 (.agg #[.int .i64 0,.int .i64 0]) 2 Tryz.underlying24 jN hy0 vL _ _ _ n rfl rfl rfl ?b2 ?b3 (Nat.le_refl _) ?_)
 case b2=>rw [jE];omega
 case b3=>unfold maxLen;omega
 intro w0 aR hg0;have hs0:w.heap.size<w0.heap.size:=(aR.lt w.heap.size rfl).2;have O0:=hJ aR;have G0:=hJ hg0;clear aR hg0;go_wp2;go_loopw [3,4] (fun sl si wr=>∃ i:Nat,i<=n/\si=.int .i64 i/\wr.ownsRow w.heap.size 69 2 sl i (kc (K.take i))/\w.grownBy wr none/\w.heap.size<wr.heap.size) (fun _ si _=>n - (intOf si).toNat)
 case atStart=>exact ⟨0,Nat.zero_le _,rfl,O0.out,G0.out,hs0⟩
 case round =>
  obtain ⟨i,hi',rfl,hown,hg,hs⟩:=hrel;have HO:=hJ hown;have HG:=hJ hg;clear hown hg O0 G0
  by_cases hlt:i<n
  ·obtain ⟨b1,off,rfl,q2,q3⟩:=HL.out.row i (by omega)
   have c0:=HG.out.cell q2 (by simp);have c1:=HG.out.cell q3 (by simp)
   have yF:Hid (kc (K.take (i+1))=kc (K.take i)++[.int .i64 (K.getD i dO).no,.int .i64 (K.getD i dO).keys]):=by
    show _=_
    rw [<- sO,List.take_add_one,List.getElem?_eq_getElem (show i<K.length by omega)];simp [List.getD,List.getElem?_eq_getElem (show i<K.length by omega)]
   clear q2 q3;generalize (K.getD i dO).no=no at *;generalize (K.getD i dO).keys=ks at *
   go_wp2_with (at_builtin;refine wpList_append_own _ rfl _ _ 24 rfl w.heap.size 69 i1 (.agg #[.int .i64 0,.int .i64 0]) 2 16 Tryz.underlying24 jN hy0 vL jE rfl (by decide) _ i (kc (K.take i)) rfl (HO.out.alloc _) ⟨wr.heap.size,0,none⟩ 1 1 [.int .i64 no,.int .i64 ks] rfl rfl (cell_two_new _ _ _ _) (by intro u hu;simp at hu;rcases hu with rfl | rfl <;> rfl) (by unfold maxLen;omega) (by omega) (by have:=HG.out.size;simp;omega) ?_)
   intro v' fI ho aW _;have Ww:=hJ ho;have bj:=hJ (jt HG.out HO.out (Nat.le_refl _) aW);have hs1:w.heap.size<fI.heap.size:=by have:=aW.size;simp at this;omega
   clear ho aW HO HG c0 c1;go_wp2;go_roundw
   case rel=>exact ⟨i+1,by omega,by go_num,by rw [yF.out];exact Ww.out,bj.out,hs1⟩
   case measure=>simp [intOf];omega
  ·have hin:i=n:=by omega
   subst hin;have e:K.take i=K:=by rw [<- hn,List.take_length]
   rw [e] at HO;go_wp2;go_ret;exact ⟨⟨_,rfl,HO.out⟩,HG.out,hs⟩
end Go.Proofs.YtgldkdbkaachkaaGreatDoor
namespace Go.Proofs.YtgldkdbkaachkaaGreatDoor
open Go.RowKit
theorem uq (a:Option Addr)(cap:Nat)(z:List Int)(L:List (List Int))(w:World)(hl:Lz w a (z::L))(hz:z.length<=1000000)(hL:L.length+1<=5000) :
  Calls Tryz.prog 176 #[.slice a (L.length+1) cap] w fun en w'=>en=.returned (.int .i64 ((aF (z::L):Nat):Int))/\Qt w w':=by
 have HM:Hid (aF (z::L)=bw z z.length L):=rfl;obtain ⟨b,off,ao,n,c,rfl,h2,h3,h4,h5⟩:=hl.row 0 (by simp);have qD:ai w ao n c z:=by simpa using h3
 have JD:=qD.len;have HF:=hJ qD;have HL:=hJ hl;have HE:Hid (L.take L.length=L):=List.take_length;rw [Nat.add_zero] at h2;clear h3 qD hl;obtain ⟨m,hm⟩:∃ m,L.length=m:=⟨_,rfl⟩;rw [hm] at hL ⊢;have HMm:=hJ hm;clear hm;go_enter Tryz.func176,Tryz.ntmps176;go_wp2;go_loopw [3,4,5] (fun sn si _ wr=>∃ i:Nat,i<=m/\si=.int .i64 ((i+1:Nat):Int)/\sn=.int .i64 ((bw z n (L.take i):Nat):Int)/\Qt w wr) (fun _ si _ _=>m+1 - (intOf si).toNat)
 case atStart=>exact ⟨0,Nat.zero_le _,rfl,rfl,Qt.refl _⟩
 case round =>
  obtain ⟨i,hi,rfl,rfl,hq⟩:=hrel;have HQ:=hJ hq;clear hq;have hle:bw z n (L.take i)<=n:=fF z _ n
  by_cases hlt:i<m
  ·obtain ⟨b',off',bo,k,d,e1,k2,k3,k4,k5⟩:=HL.out.row (i+1) (by simp;have:=HMm.out;omega)
   simp only [Option.some.injEq,Addr.mk.injEq] at e1;obtain ⟨rfl,rfl,_⟩:=e1;have qH:ai w bo k d (L.getD i []):=by simpa using k3
   have nu:=qH.len;have HB:=hJ qH;have HS:=hJ (jZ z n L i (by have:=HMm.out;omega));have c1:=(HQ.out.cell _).trans h2;have c2:=(HQ.out.cell _).trans k2;have Ur:=hJ k2;clear k2 k3 qH;generalize bw z n (L.take i)=t at *;generalize L.getD i []=s at *;have aku:=Gn z s;have akv:=sy z s;obtain ⟨u,hu⟩:∃ u,min t k=u:=⟨_,rfl⟩;obtain ⟨T,hT⟩:∃ T,min t (gy z s)=T:=⟨_,rfl⟩;have hTu:T<=u:=by omega
   have hmin:∀ (ts:Array TypeId) (ty:TypeId) (W:World),(Builtin.min_ ts ty #[.int .i64 t,.int .i64 k]).run Tryz.prog W=.ok (.int .i64 u) W:=fun ts ty W=>by
    rw [run_min_int2]
    congr 2
    split <;> omega
   rw [hT] at HS;have HT:=hJ hT;have HU:=hJ hu;have UK:u<=k:=by omega
   have hu2:u<=n:=by omega
   clear hT hu;obtain ⟨j,hj⟩:∃ j,i+1=j:=⟨_,rfl⟩;have g1:((j:Nat):Int)<(m:Int)+1:=by omega
   have g0:(0:Int)<=(j:Int):=by omega
   rw [hj] at c2 Ur ⊢;have HJ:=hJ hj;clear hj;go_wp2;go_loopw [3,5] (fun sn si wr'=>∃ (k' p':Nat),si=.int .i64 k'/\sn=.int .i64 p'/\((p'=u/\k'<=T)∨(p'=T/\k'=T+1))/\Qt w wr') (fun _ si _=>u+2 - (intOf si).toNat)
   case atStart=>exact ⟨0,u,rfl,rfl,.inl ⟨rfl,Nat.zero_le _⟩,HQ.out⟩
   case round =>
    obtain ⟨k',p',rfl,rfl,aaK,hq⟩:=hrel;have Dg:=hJ hq;clear hq;rcases aaK with ⟨rfl,Df⟩ | ⟨rfl,rfl⟩
    ·by_cases BF:k'<p'
     ·obtain ⟨b1,o1,rfl,_,y1⟩:=HF.out.at (by omega)
      obtain ⟨b2,o2,rfl,_,y2⟩:=HB.out.at (by omega);have d0:=(Dg.out.cell _).trans h2;have d1:=(Dg.out.cell _).trans Ur.out;have d2:=(Dg.out.cell _).trans (y1 k' (by omega));have d3:=(Dg.out.cell _).trans (y2 k' (by omega))
      have hth:Hid (z.getD k' 0=s.getD k' 0->k'+1<=T):=fun h=>by
       have h6:=HT.out;have h5:=HU.out
       by_cases hc:k'<gy z s
       ·omega
       ·exfalso
        have h7:gy z s=k':=by omega
        have h8:=qB z s (gy z s+1) (by omega) (by omega) (by
         have h9:=gI z s (gy z s) (Nat.le_refl _);rw [List.take_add_one,List.take_add_one,h9,h7]
         congr 1
         rw [List.getElem?_eq_getElem (show k'<z.length by omega),List.getElem?_eq_getElem (show k'<s.length by omega)];simpa [List.getD,List.getElem?_eq_getElem (show k'<z.length by omega),List.getElem?_eq_getElem (show k'<s.length by omega)] using h)
        omega
      have hne:Hid (¬ z.getD k' 0=s.getD k' 0->T=k'):=fun h=>by
       have h6:=HT.out;have h5:=HU.out
       by_cases hc:k'<gy z s
       ·exfalso
        refine h ?_;have h9:=gI z s (gy z s) (Nat.le_refl _);have h10:=congrArg (fun l=>l.getD k' 0) h9;simpa [List.getD,List.getElem?_take,hc] using h10
       ·omega
      clear y1 y2;have g2:(k':Int)<(n:Int):=by omega
      have g3:(k':Int)<(k:Int):=by omega
      have g4:(0:Int)<=(k':Int):=by omega
      have g5:(k':Int)<(p':Int):=by omega
      have g6:(0:Int)<(m:Int)+1:=by omega
      generalize z.getD k' 0=zx at *;generalize s.getD k' 0=sx at *
      by_cases Ua:zx=sx
      ·subst Ua
       have hk9:=hth.out rfl;clear hth hne;have hd:(zx != zx)=false:=by simp
       go_wp2
       go_quiet (fail)
       go_wp2;go_roundw
       case rel=>exact ⟨k'+1,p',by go_num,rfl,.inl ⟨by trivial,by omega⟩,Dg.out.trans (Qt.drewN _ _)⟩
       case measure=>simp [intOf];omega
      ·have hk9:=hne.out Ua
       have hd:(sx != zx)=true:=bne_iff_ne.2 (fun e=>Ua e.symm);have XY:(sx==zx)=false:=beq_eq_false_iff_ne.2 (fun e=>Ua e.symm);clear hth hne;go_wp2
       go_quiet (fail)
       go_wp2;go_roundw
       case rel=>exact ⟨k'+1,k',by go_num,rfl,.inr ⟨by omega,by omega⟩,Dg.out.trans (Qt.drewN _ _)⟩
       case measure=>simp [intOf];omega
     ·have hpt:p'=T:=by omega
      have g5:¬ (k':Int)<(p':Int):=by omega
      go_wp2;go_roundw
      case rel=>exact ⟨i+1,by omega,by have:=HJ.out;go_num,by rw [HS.out,hpt],Dg.out⟩
      case measure=>have:=HJ.out;simp [intOf];omega
    ·have g5:¬ ((p'+1:Nat):Int)<(p':Int):=by omega
     go_wp2;go_roundw
     case rel=>exact ⟨i+1,by omega,by have:=HJ.out;go_num,by rw [HS.out],Dg.out⟩
     case measure=>have:=HJ.out;simp [intOf];omega
  ·have hin:i=m:=by omega
   subst hin;have hE:L.take i=L:=by have:=HE.out;rw [HMm.out] at this;exact this
   rw [hE];have HR:Hid (bw z n L=aF (z::L)):=by show _=_;rw [HM.out,JD]
   rw [HR.out];go_wp2;go_ret;exact ⟨rfl,HQ.out⟩
theorem ur (a:Option Addr)(cap:Nat)(w:World):Calls Tryz.prog 176 #[.slice a 0 cap] w fun en w'=>en=.returned (.int .i64 0)/\w'=w:=by
 go_enter Tryz.func176,Tryz.ntmps176;go_wp2;go_ret;exact ⟨rfl,rfl⟩
theorem mh (a:Option Addr)(n cap:Nat)(L:List (List Int))(w:World)(hl:Lz w a L)(hn:L.length=n)(hm:n<=5000)(hs:∀ s∈L,s.length<=1000000) :
  Calls Tryz.prog 176 #[.slice a n cap] w fun en w'=>en=.returned (.int .i64 ((aF L:Nat):Int))/\Qt w w':=by
 cases L with
 | nil =>
  obtain rfl:n=0:=by simpa using hn.symm
  refine (ur a cap w).mono ?_;rintro en w' ⟨rfl,rfl⟩;exact ⟨rfl,Qt.refl _⟩
 | cons z L =>
  obtain rfl:L.length+1=n:=by simpa using hn
  exact uq a cap z L w hl (hs z List.mem_cons_self) hm
theorem yG (a:Option Addr)(n cap:Nat)(L:List (List Int))(w:World)(hl:Lz w a L)(hn:L.length=n)(hm:n<=5000)(hk:∀ x∈L,x.length<=1000000) :
  Calls Tryz.prog 115 #[.slice a n cap] w fun en w'=>en=.returned (.int .i64 ((bsize L:Nat):Int))/\Qt w w':=by
 have HL:=hJ hl;have HP:Hid (∀ x∈L,aF L<=x.length):=fun x hx=>(cU x hx).1
 have HS:=hJ (xg (by omega) hk);have HM:Hid (bsize L=12+vl (aF L)+aF L+cJ (aF L) L):=rfl;have HN:=hJ (fun i h=>mK (aF L) L i h);have hv:(ah (aF L)).length<=10:=eI (aF L)
 have hpl:aF L<=1000000:=by
  cases L with
  | nil=>exact Nat.zero_le _
  | cons x L=>exact Nat.le_trans (cU x List.mem_cons_self).1 (hk x List.mem_cons_self)
 have HK:=hJ hk;have PT:=hJ (mh a n cap L w hl hn hm hk);clear hl hk;go_enter Tryz.func115,Tryz.ntmps115
 go_wp2_with fail
 refine PT.out.mono ?_;rintro en w1 ⟨rfl,Yg⟩;have HQ:=hJ Yg;clear Yg PT;have HV:Hid (vl (aF L)=(ah (aF L)).length):=rfl;generalize aF L=p at *
 go_wp2_with fail
 refine (fO p _ (by omega)).mono ?_;rintro en w2 ⟨rfl,rfl⟩;generalize (ah p).length=v at *;go_wp2;go_loopw [4,5,6] (fun sn si _ wr=>∃ i:Nat,i<=n/\si=.int .i64 i/\sn=.int .i64 ((12+v+p+cJ p (L.take i):Nat):Int)/\Qt w wr) (fun _ si _ _=>n - (intOf si).toNat)
 case atStart=>exact ⟨0,Nat.zero_le _,rfl,by simp [cJ],HQ.out⟩
 case round =>
  obtain ⟨i,hi,rfl,rfl,hq⟩:=hrel;have Zq:=hJ hq;have b1:=HS.out i (by omega);clear hq HQ
  by_cases hlt:i<n
  ·obtain ⟨b,off,ao,m,c,rfl,q2,q3,q4,q5⟩:=HL.out.row i (by omega)
   have c0:=(Zq.out.cell _).trans q2;have hx:=cS (L:=L) (i:=i) (by omega);have tM:=q3.len;have nh:=HP.out _ hx;have Df:=HK.out _ hx;have HX:Hid (cJ p (L.take (i+1))=cJ p (L.take i)+(2+Di p (L.getD i []))):=HN.out i (by omega);obtain ⟨r,hr⟩:∃ r,m - p=r:=⟨_,rfl⟩;have GA:Hid (Di p (L.getD i [])=(ah r).length+r+8):=by show _=_;unfold Di vl;rw [tM,hr]
   have hvr:(ah r).length<=10:=eI r;rw [GA.out] at HX;have hr':(m:Int) - (p:Int)=(r:Int):=by omega
   clear q2 q3 GA;generalize cJ p (L.take i)=U at *;rw [tM] at nh Df;clear tM hx
   go_wp2_with fail
   refine (fO r _ (by omega)).mono ?_;rintro en w2 ⟨rfl,rfl⟩;generalize (ah r).length=vr at *;go_wp2;go_roundw
   case rel=>exact ⟨i+1,by omega,by go_num,by rw [HX.out];go_num,Zq.out⟩
   case measure=>simp [intOf];omega
  ·have hin:i=n:=by omega
   subst hin;go_wp2;go_ret;refine ⟨ct ?_,Zq.out⟩;rw [HM.out,HV.out,<- hn,List.take_length]
end Go.Proofs.YtgldkdbkaachkaaGreatDoor
namespace Go.Proofs.YtgldkdbkaachkaaGreatDoor
open Go.RowKit
theorem Ez (no ks:Int)(w:World):Calls Tryz.prog 113 #[.agg #[.int .i64 no,.int .i64 ks]] w fun en w'=>en=.returned (.bool (!(wk ⟨no,ks⟩)))/\w.grownBy w' none:=by
 have HW:Hid (wk ⟨no,ks⟩=(decide (no<2) || decide (524287<=no) || decide (ks<1) || decide (4294967295<ks))):=rfl;have G1:=hJ (World.grownBy_alloc w (.cells #[.int .i64 no,.int .i64 ks] 69) none)
 by_cases h1:(2:Int)<=no
 ·by_cases h2:no<=524286
  ·by_cases h3:(1:Int)<=ks
   ·by_cases h4:ks<=4294967295
    ·have HR:Hid (wk ⟨no,ks⟩=false):=by show _=_;rw [HW.out];simp;omega
     go_enter Tryz.func113,Tryz.ntmps113;go_wp2;go_ret;exact ⟨by rw [HR.out];first | rfl | (simp [h4]),G1.out⟩
    ·have HR:Hid (wk ⟨no,ks⟩=true):=by show _=_;rw [HW.out];simp;omega
     have HD:Hid (decide (ks<=4294967295)=false):=decide_eq_false h4;go_enter Tryz.func113,Tryz.ntmps113;go_wp2;go_ret;exact ⟨by rw [HR.out];show Ending.returned (Value.bool _)=_;first | rfl | (rw [HD.out];rfl),G1.out⟩
   ·have HR:Hid (wk ⟨no,ks⟩=true):=by show _=_;rw [HW.out];simp;omega
    go_enter Tryz.func113,Tryz.ntmps113;go_wp2;go_ret;exact ⟨by rw [HR.out];rfl,G1.out⟩
  ·have HR:Hid (wk ⟨no,ks⟩=true):=by show _=_;rw [HW.out];simp;omega
   go_enter Tryz.func113,Tryz.ntmps113;go_wp2;go_ret;exact ⟨by rw [HR.out];rfl,G1.out⟩
 ·have HR:Hid (wk ⟨no,ks⟩=true):=by show _=_;rw [HW.out];simp;omega
  go_enter Tryz.func113,Tryz.ntmps113;go_wp2;go_ret;exact ⟨by rw [HR.out];rfl,G1.out⟩
theorem uu (ao:Option Addr)(n cap:Nat)(zs:List Int)(k:Kd)(no ks:Int)(w:World)(hb:ai w ao n cap zs)(hn:n<=100000)(hk:wk k=false)(h1:k.no=no)(h2:k.keys=ks) :
  Calls Tryz.prog 177 #[.slice ao n cap,.agg #[.int .i64 no,.int .i64 ks]] w fun en w'=>∃ base eX cap',en=.returned (.slice eX (n+8) cap')/\w'.ownsRow base 5 1 (.slice eX (n+8) cap') (n+8) ((zs++kb k).map (Value.int .u8))/\w.grownBy w' none/\w.heap.size<=base/\base<=w'.heap.size:=by
 have hp:=tW hk;obtain ⟨a,ha⟩:∃ a:Nat,no=(a:Int):=⟨no.toNat,by omega⟩;obtain ⟨b,hb'⟩:∃ b:Nat,ks=(b:Int):=⟨ks.toNat,by omega⟩;subst ha hb';have ha2:a<4294967296:=by omega
 have hb2:b<4294967296:=by omega
 have HKB:Hid (kb k=lb 4 a++lb 4 b):=by show _=_;unfold kb;rw [h1,h2];rfl
 have ga:=World.grownBy_alloc w (.cells #[.int .i64 (a:Int),.int .i64 (b:Int)] 69) none;have k1:Hid ((w.alloc (.cells #[.int .i64 (a:Int),.int .i64 (b:Int)] 69)).cell? ⟨w.heap.size,1,none⟩=some (.int .i64 (b:Int))):=by show _=_;rw [cell_of_row _ w.heap.size 1 _ _ (0,0) (heap_alloc_new w _)];rfl
 have HG:=hJ ga;have HB:=hJ (hb.ae ga);clear hb hk h1 h2 hp ga;go_enter Tryz.func177,Tryz.ntmps177
 go_wp2_with fail
 have K1:=k1.out;clear k1;generalize w.alloc (.cells #[.int .i64 (a:Int),.int .i64 (b:Int)] 69)=w1 at *;refine (dA ao n cap zs a 4 _ HB.out (by omega) (by omega) (by omega)).mono ?_;rintro en w2 ⟨Ac,bh,rfl,Nq,hg2,hs2⟩
 have B2:Hid (ai w2 Ac (n+4) bh (zs++lb 4 a)):=by
  obtain ⟨ao9,c9,e9,hB⟩:=aY Nq;injection e9 with x1 _ x3
  subst x1 x3;exact hB
 have c1:=hg2.cell K1 (by simp);have G2:=hJ (gQ HG.out hg2);clear Nq hg2 hs2 K1 HG HB
 go_wp2_with fail
 refine (dA Ac (n+4) bh (zs++lb 4 a) b 4 _ B2.out (by omega) (by omega) (by omega)).mono ?_;rintro en w3 ⟨Yh,Rh,rfl,lZ,hg3,hs3⟩
 have O3:Hid (w3.ownsRow w2.heap.size 5 1 (.slice Yh (n+8) Rh) (n+8) ((zs++kb k).map (Value.int .u8))):=by
  show World.ownsRow _ _ _ _ _ _ _
  rw [HKB.out,<- List.append_assoc];exact lZ
 have G3:=hJ (gQ G2.out hg3);have HS:=hJ G2.out.size;have HS3:=hJ hs3;clear lZ hg3 hs3 B2 c1;go_wp2;go_ret;exact ⟨w2.heap.size,Yh,Rh,rfl,O3.out,G3.out,HS.out,HS3.out⟩
end Go.Proofs.YtgldkdbkaachkaaGreatDoor
namespace Go.Proofs.YtgldkdbkaachkaaGreatDoor
open Go.RowKit
theorem NN {P:Kd->Prop}{K:List Kd}(h:∀ j,j<K.length->P (K.getD j dO)):∀ k∈K,P k:=by
 intro k hk;obtain ⟨j,hj,rfl⟩:=List.getElem_of_mem hk;have:=h j hj;simpa [List.getD,List.getElem?_eq_getElem hj] using this
theorem NP {P:List Int->Prop}{K:List (List Int)}(h:∀ j,j<K.length->P (K.getD j [])):∀ k∈K,P k:=by
 intro k hk;obtain ⟨j,hj,rfl⟩:=List.getElem_of_mem hk;have:=h j hj;simpa [List.getD,List.getElem?_eq_getElem hj] using this
end Go.Proofs.YtgldkdbkaachkaaGreatDoor
namespace Go.Proofs.YtgldkdbkaachkaaGreatDoor
open Go.RowKit
theorem sP {w:World}{base n cap:Nat}{ao:Option Addr}{zs:List Int}(h:w.ownsRow base 5 1 (.slice ao n cap) n (zs.map (Value.int .u8))):ai w ao n cap zs:=by
 obtain ⟨ao9,c9,e9,hB⟩:=aY h;injection e9 with x1 _ x3
 subst x1 x3;exact hB
theorem EA {Z ys:List Int}(hZ:Z=List.replicate 4092 0):splice Z 0 ys=ys++List.replicate (4092 - ys.length) 0:=by
 rw [hZ];unfold splice;rw [List.take_zero,List.nil_append,Nat.zero_add,List.drop_replicate]
theorem BW (l:Nat)(a:Option Addr)(n cap:Nat)(b:Option Addr)(bh:Nat)(k:Kd)(M:List Sk)(w:World)(hl:Lz w a (aj M))(hk:Kl w b (kids k M))(hn:M.length=n)(hf:Fit (l:Int) (aj M) (kids k M)) :
  Calls Tryz.prog 116 #[.int .i64 l,.slice a n cap,.slice b (n+1) bh] w fun en w'=>∃ G,en=.returned (.slice (some ⟨G,0,none⟩) 4092 4092)/\Rw w' G (eO l k M)/\w.grownBy w' none:=by
 obtain ⟨i0,hi,hz0,hz1,hz2⟩:=info_parts bF;obtain ⟨tM,MH⟩:=iP hf.sep hf.size;have ael:l<=15:=by have:=hf.l2;omega
 have IQ:=hJ (sM (l:Int) k hf.size);have yc:=pU (l:Int) M;have hc0:=sM (l:Int) k hf.size 0;have HL:=hJ hl;have HK:=hJ hk;have wY:=hJ hf.sep;have HWK:=hJ hf.kid;have hm:n<=400:=by omega
 have vJ:Hid ((dV (l:Int) k M).length<=4092):=by show _<=_;rw [pV];exact hf.size
 have ye:Hid (bg (l:Int) M=lb 1 2++(lb 1 l++(lb 2 (n+1)++(ah (aF (aj M))++(M.headD jn).sep.take (aF (aj M)))))):=by
  show _=_
  unfold bg;rw [hn]
  rfl
 have pB:Hid (eO (l:Int) k M=dV (l:Int) k M++List.replicate (4092 - (dV (l:Int) k M).length) 0):=rfl;have HBU:Hid (dV (l:Int) k M=bg (l:Int) M++(bV (aF (aj M)) (cI (l:Int) M) M++(kb k++aI (aF (aj M)) M))):=rfl;have IV:Hid (cI (l:Int) M=(bg (l:Int) M).length+2*n+8):=by show _=_;unfold cI rJ;rw [hn]
 have UC:Hid (∀ x∈M,aF (aj M)<=x.sep.length):=fun x hx=>(cU x.sep (dW hx)).1
 have Rj:Hid (∀ s∈aj M,s.length<=1000000):=fun s hs=>by have:=(eA (hf.sep s hs)).2;omega
 have PB:IntKind.u8.wrap (l:Int)=(l:Int):=by simp [IntKind.wrap,IntKind.bits,IntKind.signed];omega
 have hwn:IntKind.u64.wrap ((n:Int)+1)=((n+1:Nat):Int):=by simp [IntKind.wrap,IntKind.bits,IntKind.signed];omega
 have aaN:Hid (lb 1 2++lb 1 l=[2,(l:Int)]):=by
  show _=_
  have:(l:Int) % 256=(l:Int):=by omega
  simp [lb,this]
 clear hl hk hf;go_enter Tryz.func116,Tryz.ntmps116
 go_wp2_with fail
 refine (mh a n cap (aj M) _ HL.out (by rw [bY];exact hn) (by omega) Rj.out).mono ?_;rintro en w1 ⟨rfl,Yg⟩;have G1:=hJ (Yg.grown none);clear Yg;have P1:=hJ (fun (ao:Option Addr) (n cap:Nat) (zs:List Int) (W:World) (h1:ai W ao n cap zs) (h2:n<=1099511627776)=>fT ao n cap zs (aF (aj M)) W h1 h2 (by omega));obtain ⟨l1,jQ⟩:∃ l1,(ah (aF (aj M))).length=l1:=⟨_,rfl⟩;have hvl:vl (aF (aj M))=l1:=jQ;rw [jQ] at P1;rw [hvl] at yc;rw [IV.out,yc] at hc0;have MJ:=hJ jQ;have MI:=hJ yc;have akx:l1<=10:=by rw [<- jQ];exact eI _
 clear hvl jQ yc;generalize MK:aF (aj M)=p at *;have GC:=hJ MK;clear MK;generalize ah p=VP at *;have B1:=hJ (ai.lit w1 5 #[.int .u8 2,.int .u8 (l:Int)] [2,(l:Int)] 2 rfl rfl);have G2:=hJ (gQ G1.out (World.grownBy_alloc w1 (.cells #[.int .u8 2,.int .u8 (l:Int)] 5) none))
 go_wp2_with fail
 generalize w1.alloc (.cells #[.int .u8 2,.int .u8 (l:Int)] 5)=w2 at *;generalize w1.heap.size=Q1 at *;refine (dA (some ⟨Q1,0,none⟩) 2 2 [2,(l:Int)] (n+1) 2 _ B1.out (by omega) (by omega) (by omega)).mono ?_;rintro en w3 ⟨Yh,Rh,rfl,lZ,hg3,hs3⟩;have B3:=hJ (sP lZ);have G3:=hJ (gQ G2.out hg3);clear lZ hg3 hs3 B1 G1 G2
 go_wp2_with fail
 refine (P1.out Yh (2+2) Rh _ _ B3.out (by omega)).mono ?_;rintro en w4 ⟨ao4,aeP,rfl,jR,hg4,tP⟩;have O4:=hJ jR;have G4:=hJ (gQ G3.out hg4);have HS4:=hJ tP;have HS3:=hJ G3.out.size;clear jR hg4 tP B3 G3 P1
 have nu:((M.headD jn).sep.take p).length=p:=by
  rw [List.length_take];cases M with
  | nil =>
   have:=GC.out;obtain rfl:p=0:=this.symm
   rfl
  | cons x L=>have:=UC.out x List.mem_cons_self;rw [List.headD_cons];omega
 have Yd:=hJ nu;obtain ⟨ZB,hZB⟩:∃ ZB,[2,(l:Int)]++lb 2 (n+1)++VP=ZB:=⟨_,rfl⟩;obtain ⟨h4,hh4⟩:∃ h4,2+2+l1=h4:=⟨_,rfl⟩;rw [hZB,hh4] at O4;rw [hh4]
 have UL:Hid (ZB++(M.headD jn).sep.take p=bg (l:Int) M):=by
  show _=_
  rw [ye.out,<- hZB,<- aaN.out];simp only [List.append_assoc]
 obtain ⟨TB,hTB⟩:∃ TB,(M.headD jn).sep.take p=TB:=⟨_,rfl⟩;rw [hTB] at UL Yd;have HTB:=hJ hTB;clear nu ye aaN hZB hTB;generalize Ui:(bg (l:Int) M).length=h0 at *;have XT:=hJ Ui;clear Ui
 go_upto_if 29 with fail
 go_cut [8] (fun s8 wx=>∃ bo bc,s8=.slice bo h0 bc/\ai wx bo h0 bc (bg (l:Int) M)/\w.grownBy wx none)
 case first =>
  by_cases QB:0<n
  ·obtain ⟨b',off',ao,n0,c0,rfl,q2,q3,q4,q5⟩:=HL.out.row 0 (by rw [bY];omega)
   rw [Nat.add_zero] at q2;have e0:=G4.out.cell q2 (by simp);have hh:(aj M).getD 0 []=(M.headD jn).sep:=by cases M <;> rfl
   rw [hh] at q3;have hpl:p<=n0:=by have:=Yd.out;rw [<- HTB.out,List.length_take] at this;have:=q3.len;omega
   have Wx:=(q3.ae G4.out).take p c0 hpl (fun e=>by have:=(q3.nil e).2;omega);rw [HTB.out] at Wx;have B11:=hJ Wx;clear Wx;have g1:(0:Int)<=(p:Int):=by omega
   have g2:(p:Int)<=(c0:Int):=by omega
   have g3:(0:Int)<(n:Int):=by omega
   clear q2 q3
   go_wp2_with (at_builtin;refine aq rfl _ _ rfl w3.heap.size _ h4 ZB rfl O4.out ao p c0 TB rfl B11.out (by omega) HS4.out ?_)
   intro v5 w5 Ut aK
   have aaP:w5.ownsRow w3.heap.size 5 1 v5 h0 ((bg (l:Int) M).map (Value.int .u8)):=by
    rw [<- UL.out,show h0=h4+p by have:=MI.out;omega];simpa using Ut
   have VW:Hid (w.grownBy w5 none):=⟨aK.os.trans G4.out.os,aK.tape.trans G4.out.tape,aK.output.trans G4.out.output,Nat.le_trans G4.out.size aK.size,fun q hq _=>(aK.block q (Nat.lt_of_lt_of_le hq G4.out.size) (fun e=>by have:=(O4.out.lt q e.symm).1;have:=HS3.out;omega)).trans (G4.out.block q hq (by simp))⟩;obtain ⟨bo,bc,rfl,kr⟩:=aY aaP;have HB5:=hJ kr;clear Ut aK aaP kr
   go_wp2_with fail
   go_meet;exact ⟨bo,bc,rfl,HB5.out,VW.out⟩
  ·have hp0:p=0:=by
    cases M with
    | nil=>exact GC.out.symm
    | cons x L=>simp at hn;omega
   have JE:=hJ QB;have hx:=UL.out;have ht:TB=[]:=List.eq_nil_of_length_eq_zero (by rw [Yd.out];exact hp0);rw [ht,List.append_nil] at hx;have hh9:h4=h0:=by have:=MI.out;omega
   have jR:=O4.out;rw [hx,hh9] at jR;have B5:=hJ (sP jR);rw [hh9];clear jR hx ht hh9 hp0 QB
   go_wp2_with fail
   all_goals first
    | exact absurd (by assumption) JE.out
    | (go_meet;exact ⟨ao4,aeP,rfl,B5.out,G4.out⟩)
 case rest =>
 obtain ⟨bo,bc,rfl,kr,aK⟩:=hcut;have B5:=hJ kr;have G5:=hJ aK;clear kr aK O4 G4 HS4 HS3 UL PB hwn;obtain ⟨C0,hC0⟩:∃ C0,h0+2*n+8=C0:=⟨_,rfl⟩;have akz:h0+2*n+8<=4092:=by have:=MI.out;omega
 have hC1:(h0:Int)+2*(n:Int)+8=(C0:Int):=by omega
 go_wp2;clear hC1;go_loopw [8,9,11] (fun sb sc si wr=>∃ (i:Nat) (bo:Option Addr) (bc:Nat) (co:Option Addr) (cn cc:Nat),i<=n/\si=.int .i64 i/\sb=.slice bo (h0+2*i) bc/\ai wr bo (h0+2*i) bc (bg (l:Int) M++bV p (cI (l:Int) M) (M.take i))/\sc=.slice co cn cc/\ai wr co cn cc (aI p (M.take i))/\w.grownBy wr none) (fun _ _ si _=>n - (intOf si).toNat)
 case atStart=>exact ⟨0,bo,bc,none,0,0,Nat.zero_le _,rfl,rfl,by simpa [bV] using B5.out,rfl,ai.empty _,G5.out⟩
 case round =>
  obtain ⟨i,bo,bc,co,cn,cc,hi',rfl,rfl,PI,rfl,hbc,hg⟩:=hrel;have HB:=hJ PI;have HC:=hJ hbc;have HG:=hJ hg;clear PI hbc hg B5 G5
  by_cases hlt:i<n
  ·obtain ⟨b1,aet,ao,m,c',rfl,q2,q3,q4,q5⟩:=HL.out.row i (by rw [bY];omega)
   obtain ⟨b2,Ju,rfl,q6,q7⟩:=HK.out.row (i+1) (by rw [dX];omega);rw [BI] at q3;rw [od] at q6;rw [od] at q7;have hx:M.getD i jn∈M:=by simp [List.getD,List.getElem?_eq_getElem (show i<M.length by omega)]
   have x1:=eA (wY.out _ (dW hx));have x2:=HWK.out _ (List.mem_cons_of_mem _ (List.mem_map_of_mem hx));have x4:=q3.len;obtain ⟨UF,ko,rfl,hkb,_⟩:=q3.at (by omega);have Zz:p<=m:=by have:=UC.out _ hx;omega
   have Rk:=hJ (kF p M (cI (l:Int) M) i (by omega));have Eg:=hJ (fR p M i (by omega));have xa:=IQ.out i;have MG:=HC.out.len;rw [MG,IV.out] at xa;obtain ⟨A,hA⟩:∃ A,h0+2*n+8+cn=A:=⟨_,rfl⟩;have QC:Hid (cI (l:Int) M+(aI p (M.take i)).length=A):=by show _=_;rw [IV.out,MG];exact hA
   obtain ⟨r,hr⟩:∃ r,m - p=r:=⟨_,rfl⟩;have Ed:Hid (vH p (M.getD i jn)=ah r++((M.getD i jn).sep.drop p++kb (M.getD i jn).kid)):=by show _=_;unfold vH;rw [x4,hr]
   have P2:=hJ (fun (ao:Option Addr) (n cap:Nat) (zs:List Int) (W:World) (h1:ai W ao n cap zs) (h2:n<=1099511627776)=>fT ao n cap zs r W h1 h2 (by omega));obtain ⟨l2,hl2⟩:∃ l2,(ah r).length=l2:=⟨_,rfl⟩;rw [hl2] at P2;have akA:l2<=10:=by rw [<- hl2];exact eI r
   rw [QC.out] at Rk;obtain ⟨no,hno⟩:∃ no,(M.getD i jn).kid.no=no:=⟨_,rfl⟩;obtain ⟨ks,hks⟩:∃ ks,(M.getD i jn).kid.keys=ks:=⟨_,rfl⟩;rw [hno] at q6;rw [hks] at q7;have vK:=hJ hno;have Jt:=hJ hks;have HXK:=hJ x2;have ZC:=hJ q3;have HX6:=hJ q6;have HX7:=hJ q7;have ZF:=hJ q2;have hr':(m:Int) - (p:Int)=(r:Int):=by omega
   generalize M.getD i jn=x at *;generalize ah r=V2 at *;have hAl:A<=4092:=by omega
   have hAA:(C0:Int)+(cn:Int)=(A:Int):=by omega
   clear q2 q3 q6 q7 hno hks x2 hx hl2 QC hA MG;have c1:=HG.out.cell ZF.out (by simp)
   go_wp2_with fail
   refine (dA bo (h0+2*i) bc _ A 2 _ HB.out (by omega) (by omega) (by omega)).mono ?_;rintro en w6 ⟨Uz,Rl,rfl,Yi,bE,zZ⟩;have B6:=hJ (sP Yi);have C6:=hJ (HC.out.ae bE);have G6:=hJ (gQ HG.out bE);clear Yi bE zZ HB HC HG c1;have c1:=G6.out.cell ZF.out (by simp)
   go_wp2_with fail
   refine (P2.out co cn cc _ _ C6.out (by omega)).mono ?_;rintro en w7 ⟨ao7,aeT,rfl,Dj,cG,Ab⟩;have O7:=hJ Dj;have B7:=hJ (B6.out.ae cG);have G7:=hJ (gQ G6.out cG);have HS7:=hJ Ab;have HS6:=hJ G6.out.size;have HB6:Hid (∀ ad,Uz=some ad->0<h0+2*i+2->ad.block<w6.heap.size):=fun ad e h=>B6.out.lt e h
   clear Dj cG Ab B6 C6 G6 P2 c1;have c1:=G7.out.cell ZF.out (by simp);have g1:(0:Int)<=(p:Int):=by omega
   have g2:(p:Int)<=(m:Int):=by omega
   have g3:(p:Int)<=(c':Int):=by omega
   have HDR:=hJ ((ZC.out.ae G7.out).drop p (c' - p) Zz);rw [hr] at HDR;obtain ⟨XC,Yj⟩:∃ XC,aI p (M.take i)++V2=XC:=⟨_,rfl⟩;rw [Yj] at O7;obtain ⟨XD,hXD⟩:∃ XD,x.sep.drop p=XD:=⟨_,rfl⟩;rw [hXD] at HDR;have HXC:=hJ Yj;have HXD:=hJ hXD;clear Yj hXD;go_upto_region 14 with fail
   go_cut [9] (fun s9 wx=>∃ co cc,s9=.slice co (cn+l2+r) cc/\ai wx co (cn+l2+r) cc (XC++XD)/\ai wx Uz (h0+2*i+2) Rl (bg (l:Int) M++bV p (cI (l:Int) M) (M.take i)++lb 2 A)/\w.grownBy wx none)
   case first =>
    have LD:XD.length=r:=HDR.out.len
    have dP:Hid (∀ (w8:World),w7.grownBy w8 (Value.slice ao7 (cn+l2) aeT).ownBlock->w.grownBy w8 none/\∀ (zs:List Int),ai w7 Uz (h0+2*i+2) Rl zs->ai w8 Uz (h0+2*i+2) Rl zs):=by
     intro w8 bU;have hown:=O7.out;refine ⟨⟨bU.os.trans G7.out.os,bU.tape.trans G7.out.tape,bU.output.trans G7.out.output,Nat.le_trans G7.out.size bU.size,fun q hq _=>(bU.block q (Nat.lt_of_lt_of_le hq G7.out.size) (fun e=>by have:=(hown.lt q e.symm).1;have:=HS6.out;omega)).trans (G7.out.block q hq (by simp))⟩,fun zs hz=>?_⟩;refine hz.kept bU (fun ad e h e2=>?_);have h1:=HB6.out ad e h;have h2:=(hown.lt ad.block e2.symm).1;omega
    by_cases VN:c'=p
    ·have hr0:r=0:=by omega
     have hX0:XD=[]:=List.eq_nil_of_length_eq_zero (by rw [LD];exact hr0);have HX0:=hJ hX0;have BZ:Hid (ai w7 (some ⟨UF,ko,none⟩) 0 0 []):=ai.VL _ _ _ _;subst VN;subst hr0;clear hX0
     go_wp2_with (at_builtin;refine aq rfl _ _ rfl w6.heap.size _ (cn+l2) XC rfl O7.out (some ⟨UF,ko,none⟩) 0 0 [] rfl BZ.out (by omega) HS7.out ?_)
     intro v8 w8 ho8 bU;have NQ:w8.ownsRow w6.heap.size 5 1 v8 (cn+l2+0) ((XC++XD).map (Value.int .u8)):=by rw [HX0.out];simpa using ho8
     obtain ⟨co8,Wd,rfl,ig⟩:=aY NQ;have XP:=hJ ig;have dF:=hJ (dP.out w8 bU);clear ho8 bU NQ ig
     go_wp2_with fail
     go_meet;exact ⟨co8,Wd,rfl,XP.out,dF.out.2 _ B7.out,dF.out.1⟩
    ·go_wp2_with (at_builtin;refine aq rfl _ _ rfl w6.heap.size _ (cn+l2) XC rfl O7.out (some ⟨UF,ko+p,none⟩) r (c' - p) XD rfl HDR.out (by omega) HS7.out ?_)
     intro v8 w8 ho8 bU;have NQ:w8.ownsRow w6.heap.size 5 1 v8 (cn+l2+r) ((XC++XD).map (Value.int .u8)):=by simpa using ho8
     obtain ⟨co8,Wd,rfl,ig⟩:=aY NQ;have XP:=hJ ig;have dF:=hJ (dP.out w8 bU);clear ho8 bU NQ ig
     go_wp2_with fail
     go_meet;exact ⟨co8,Wd,rfl,XP.out,dF.out.2 _ B7.out,dF.out.1⟩
   case rest =>
   obtain ⟨co8,Wd,rfl,hc8,ig,bU⟩:=hcut;have C8:=hJ hc8;have B8:=hJ ig;have G8:=hJ bU;clear hc8 ig bU O7 B7 G7 c1 HDR;have d0:=G8.out.cell HX6.out (by simp);have d1:=G8.out.cell HX7.out (by simp);obtain ⟨j,hj⟩:∃ j,i+1=j:=⟨_,rfl⟩;have rG:(i:Int)+1=(j:Int):=by omega
   rw [hj] at d0 d1;have g4:(j:Int)<(n:Int)+1:=by omega
   have g5:(0:Int)<=(j:Int):=by omega
   have akF:cn+l2+r<=100000:=by omega
   go_wp2_with fail
   refine (uu co8 (cn+l2+r) Wd _ x.kid no ks _ C8.out (by omega) HXK.out vK.out Jt.out).mono ?_;rintro en w9 ⟨NR,ao9,aaT,rfl,Yk,qQ,xZ,Rm⟩;have C9:=hJ (sP Yk);have B9:=hJ (B8.out.ae qQ);have G9:=hJ (gQ G8.out qQ);have HJ:=hJ hj;clear Yk qQ xZ Rm C8 B8 G8 d0 d1 hj rG;go_wp2;go_roundw
   case rel =>
    refine ⟨i+1,Uz,Rl,ao9,cn+l2+r+8,aaT,by omega,by have:=HJ.out;go_num,?_,?_,rfl,?_,G9.out⟩
    ·rw [Nat.mul_add,<- Nat.add_assoc]
    ·rw [Rk.out,Nat.mul_add,<- Nat.add_assoc,<- List.append_assoc]
     exact B9.out
    ·have:=C9.out
     rw [<- HXC.out,<- HXD.out] at this;rw [Eg.out,Ed.out];simpa only [List.append_assoc] using this
   case measure=>have:=HJ.out;simp [intOf];omega
  ·have hin:i=n:=by omega
   have hTk:M.take i=M:=by rw [hin,<- hn,List.take_length]
   rw [hTk] at HB HC;obtain ⟨b2,Ju,rfl,q6,q7⟩:=HK.out.row 0 (by rw [dX];omega);have xb:(kids k M).getD 0 dO=k:=rfl;rw [xb,Nat.zero_mul,Nat.add_zero] at q6;rw [xb,Nat.zero_mul,Nat.add_zero] at q7;have d0:=HG.out.cell q6 (by simp);have d1:=HG.out.cell q7 (by simp);have hkk:=HWK.out k List.mem_cons_self;obtain ⟨no,hno⟩:∃ no,k.no=no:=⟨_,rfl⟩;obtain ⟨ks,hks⟩:∃ ks,k.keys=ks:=⟨_,rfl⟩;rw [hno] at d0;rw [hks] at d1;have XZ:=hJ hkk;have vK:=hJ hno;have Jt:=hJ hks;have MG:=HC.out.len;have hbl:=HB.out.len
   have HUL:Hid ((dV (l:Int) k M).length=h0+2*i+8+cn):=by
    show _=_
    rw [HBU.out,<- List.append_assoc,List.length_append,hbl,List.length_append,gK,MG];omega
   have hub:h0+2*i+8+cn<=4092:=by rw [<- HUL.out];exact vJ.out
   have g1:¬ (i:Int)<(n:Int):=by omega
   have g2:(0:Int)<(n:Int)+1:=by omega
   clear q6 q7 xb hkk hno hks hTk MG hbl hin
   go_wp2_with fail
   refine (uu bo (h0+2*i) bc _ k no ks _ HB.out (by omega) XZ.out vK.out Jt.out).mono ?_;rintro en w9 ⟨NR,ao9,aaT,rfl,Yk,qQ,xZ,Rm⟩;obtain ⟨XB,hXB⟩:∃ XB,bg (l:Int) M++bV p (cI (l:Int) M) M++kb k=XB:=⟨_,rfl⟩;rw [hXB] at Yk;have O9:=hJ Yk;have C9:=hJ (HC.out.ae qQ);have G9:=hJ (gQ HG.out qQ);have HS9:=hJ xZ;have aeV:=hJ Rm;have QV:=hJ HG.out.size;have HXB:Hid (XB++aI p M=dV (l:Int) k M):=by show _=_;rw [HBU.out,<- hXB];simp only [List.append_assoc]
   obtain ⟨XC,Yj⟩:∃ XC,aI p M=XC:=⟨_,rfl⟩;rw [Yj] at HXB C9;clear Yk qQ xZ Rm hXB Yj HB HC HG d0 d1
   go_wp2_with (at_builtin;refine aq rfl _ _ rfl NR _ (h0+2*i+8) XB rfl O9.out co cn cc XC rfl C9.out (by omega) aeV.out ?_)
   intro v10 fI rP aW;have UM:fI.ownsRow NR 5 1 v10 (h0+2*i+8+cn) ((dV (l:Int) k M).map (Value.int .u8)):=by rw [<- HXB.out];simpa using rP
   have wZ:Hid (w.grownBy fI none):=⟨aW.os.trans G9.out.os,aW.tape.trans G9.out.tape,aW.output.trans G9.out.output,Nat.le_trans G9.out.size aW.size,fun q hq _=>(aW.block q (Nat.lt_of_lt_of_le hq G9.out.size) (fun e=>by have:=(O9.out.lt q e.symm).1;have:=HS9.out;have:=QV.out;omega)).trans (G9.out.block q hq (by simp))⟩;obtain ⟨akH,akI,rfl,ug⟩:=aY UM;have B10:=hJ ug;clear rP aW UM ug O9 C9 G9;obtain ⟨Z,hZ⟩:∃ Z:List Int,Z=List.replicate 4092 0:=⟨_,rfl⟩;have pR:Z.length=4092:=by rw [hZ,List.length_replicate]
   have HZ:=hJ hZ;clear hZ
   go_wp2_with (at_make;refine wpList_make_full _ rfl _ _ 25 rfl fI.heap.size 5 i0 (.int .u8 0) 1 Tryz.underlying25 hi hz0 hz1 _ _ _ _ 4092 rfl rfl rfl rfl ?b2 ?b3 (Nat.le_refl _) ?_)
   case b2=>rw [hz2];omega
   case b3=>unfold maxLen;omega
   intro w20 hown Es;rw [made] at hown
   have RN:Hid (Rt w20 fI.heap.size 5 Z):=by
    show Rt _ _ _ _
    rw [HZ.out];exact Rw.aP hown
   have B20:=hJ (B10.out.ae Es);have G20:=hJ (gQ wZ.out Es);clear hown Es;obtain ⟨XU,hXU⟩:∃ XU,dV (l:Int) k M=XU:=⟨_,rfl⟩;rw [hXU] at B20;have HXU:=hJ hXU;clear hXU
   go_wp2_with (refine aS rfl _ _ rfl _ _ _ _ _ _ rfl rfl fI.heap.size 0 5 Z XU RN.out B20.out (by omega) (fun _=>rfl) (by omega) ?_)
   intro w21 Jv iF Er;have hbd:=pB.out;rw [<- EA HZ.out,HXU.out] at hbd
   have R21:Hid (Rw w21 fI.heap.size (eO (l:Int) k M)):=by
    show Rw _ _ _
    rw [hbd];exact Jv
   have G21:=hJ (af G20.out iF wZ.out.size);clear Jv iF Er RN B20 G20 hbd;go_wp2;go_ret;exact ⟨fI.heap.size,rfl,R21.out,G21.out⟩
end Go.Proofs.YtgldkdbkaachkaaGreatDoor
namespace Go.Proofs.YtgldkdbkaachkaaGreatDoor
open Go.RowKit
theorem aaV {lv:Int}{L:List (List Int)}{K:List Kd}(h:¬ (lv<1∨15<lv∨K.length≠L.length+1))(h1:K.any wk=true):bA lv L K=51:=by
 unfold bA;rw [if_neg h,h1];rfl
theorem aaW {lv:Int}{L:List (List Int)}{K:List Kd}(h:¬ (lv<1∨15<lv∨K.length≠L.length+1))(h1:K.any wk=false)(h2:L.any cW=true):bA lv L K=41:=by
 unfold bA;rw [if_neg h,h1,h2];rfl
theorem aaX {lv:Int}{L:List (List Int)}{K:List Kd}(h:¬ (lv<1∨15<lv∨K.length≠L.length+1))(h1:K.any wk=false)(h2:L.any cW=false)(h3:nW L=false):bA lv L K=30:=by
 unfold bA;rw [if_neg h,h1,h2,h3];rfl
theorem aaY {lv:Int}{L:List (List Int)}{K:List Kd}(h:¬ (lv<1∨15<lv∨K.length≠L.length+1))(h1:K.any wk=false)(h2:L.any cW=false)(h3:nW L=true)(h4:4092<bsize L):bA lv L K=42:=by
 unfold bA;rw [if_neg h,h1,h2,h3];simp [h4]
theorem aeY {lv:Int}{L:List (List Int)}{K:List Kd}(h:¬ (lv<1∨15<lv∨K.length≠L.length+1))(h1:K.any wk=false)(h2:L.any cW=false)(h3:nW L=true)(h4:¬ 4092<bsize L):bA lv L K=0:=by
 unfold bA;rw [if_neg h,h1,h2,h3];simp [h4]
theorem lG {lv:Int}{L:List (List Int)}{K:List Kd}{e:Int}(h:bA lv L K=e)(he:e≠0):jr lv L K [] e:=⟨fun _=>⟨h.symm,rfl⟩,fun h=>absurd h he⟩
theorem NS {T:Type}{P:T->Bool}{K:List T}(h:∀ k∈K,P k=false):K.any P=false:=by
 rw [List.any_eq_false];intro x hx;rw [h x hx];simp
structure Wy (lv:Int)(L:List (List Int))(K:List Kd)(w:World)(en:Ending)(w':World):Prop where
 out:∃ ao j c e zs,en=.returned (.tuple #[.slice ao j c,.int .i64 e])/\ai w' ao j c zs/\jr lv L K zs e/\j<=4092/\j<=c/\c<=4092
 gr:w.grownBy w' none
theorem uv (lv:Int)(a:Option Addr)(n cap:Nat)(L:List (List Int))(b:Option Addr)(m bh:Nat)(K:List Kd)(w:World)(hl:Lz w a L)(hb:Lb L)(hn:L.length=n)(hm:n<=5000)(hk:Kl w b K)(hkn:K.length=m)(hkm:m<=5000) :
  Calls Tryz.prog 45 #[.int .i64 lv,.slice a n cap,.slice b m bh] w fun en w'=>Wy lv L K w en w':=by
 have HL:=hJ hl;have HK:=hJ hk;have HB:=hJ hb;clear hl hk hb
 by_cases h0:lv<1∨15<lv∨m≠n+1
 ·have HE:Hid (jr lv L K [] 50):=lG (by unfold bA;rw [hkn,hn,if_pos h0]) (by decide)
  by_cases h1:lv<1
  ·go_enter Tryz.func45,Tryz.ntmps45
   go_wp2
   go_ret2
   exact ⟨⟨none,0,0,50,[],rfl,ai.empty _,HE.out,by omega,by omega,by omega⟩,World.grownBy.refl _ _⟩
  ·by_cases h2:15<lv
   ·go_enter Tryz.func45,Tryz.ntmps45
    go_wp2
    go_ret2
    exact ⟨⟨none,0,0,50,[],rfl,ai.empty _,HE.out,by omega,by omega,by omega⟩,World.grownBy.refl _ _⟩
   ·by_cases h3:m=0
    ·have qD:(m:Int)=0:=by omega
     go_enter Tryz.func45,Tryz.ntmps45;go_wp2
     go_ret2
     exact ⟨⟨none,0,0,50,[],rfl,ai.empty _,HE.out,by omega,by omega,by omega⟩,World.grownBy.refl _ _⟩
    ·have h4:¬ (m:Int)=(n:Int)+1:=by omega
     have h4':((m:Int) != (n:Int)+1)=true:=bne_iff_ne.2 h4;have qD:¬ (m:Int)=0:=by omega
     clear h0;go_enter Tryz.func45,Tryz.ntmps45;go_wp2
     go_ret2
     exact ⟨⟨none,0,0,50,[],rfl,ai.empty _,HE.out,by omega,by omega,by omega⟩,World.grownBy.refl _ _⟩
 ·have h1:¬ lv<1:=fun h=>h0 (.inl h)
  have h2:¬ 15<lv:=fun h=>h0 (.inr (.inl h))
  have h3:m=n+1:=by omega
  have H0:Hid (¬ (lv<1∨15<lv∨K.length≠L.length+1)):=by rw [hkn,hn];exact h0
  clear h0;subst h3;have g9:¬ ((n:Int)+1=0):=by omega
  go_enter Tryz.func45,Tryz.ntmps45;go_wp2;go_loopw [8] (fun si wr=>∃ i:Nat,i<=n+1/\si=.int .i64 i/\(∀ j,j<i->wk (K.getD j dO)=false)/\w.grownBy wr none) (fun si _=>n+1 - (intOf si).toNat)
  case atStart=>exact ⟨0,Nat.zero_le _,rfl,fun j hj=>by omega,World.grownBy.refl _ _⟩
  case round =>
   obtain ⟨i,hi,rfl,ha,hg⟩:=hrel;have HA:=hJ ha;have HG:=hJ hg;clear ha hg
   by_cases hlt:i<n+1
   ·obtain ⟨b1,off,rfl,q2,q3⟩:=HK.out.row i (by omega)
    have c0:=HG.out.cell q2 (by simp);have c1:=HG.out.cell q3 (by simp)
    have HX:Hid (wk (K.getD i dO)=false->∀ j,j<i+1->wk (K.getD j dO)=false):=by
     intro h j hj
     by_cases e:j=i
     ·subst e;exact h
     ·exact HA.out j (by omega)
    have HM:Hid (wk (K.getD i dO)=true->bA lv L K=51):=fun h=>aaV H0.out (List.any_eq_true.2 ⟨_,BB (show i<K.length by omega),h⟩)
    have HC:=hJ (fun (W:World)=>Ez (K.getD i dO).no (K.getD i dO).keys W);have HE:Hid (wk ⟨(K.getD i dO).no,(K.getD i dO).keys⟩=wk (K.getD i dO)):=rfl;rw [HE.out] at HC;clear HE HA q2 q3;generalize (K.getD i dO).no=no at *;generalize (K.getD i dO).keys=ks at *;generalize wk (K.getD i dO)=bb at *;have g1:(i:Int)<(n:Int)+1:=by omega
    go_wp2_with fail
    refine (HC.out _).mono ?_;rintro en w2 ⟨rfl,hg2⟩;have eu:=hJ (gQ HG.out hg2);clear hg2 HG c0 c1;cases bb with
    | true =>
     have HE:Hid (jr lv L K [] 51):=lG (HM.out rfl) (by decide);clear HX HM;go_wp2
     go_ret2
     exact ⟨⟨none,0,0,51,[],rfl,ai.empty _,HE.out,by omega,by omega,by omega⟩,eu.out⟩
    | false =>
     have jK:=hJ (HX.out rfl);clear HX HM;go_wp2;go_roundw
     case rel=>exact ⟨i+1,by omega,by go_num,jK.out,eu.out⟩
     case measure=>simp [intOf];omega
   ·have hin:i=n+1:=by omega
    subst hin;have HKA:Hid (∀ k∈K,wk k=false):=NN (fun j hj=>HA.out j (by omega));have NT:Hid (K.any wk=false):=NS HKA.out;clear HA;go_wp2;go_loopw [9] (fun si wr'=>∃ i:Nat,i<=n/\si=.int .i64 i/\(∀ j,j<i->cW (L.getD j [])=false)/\w.grownBy wr' none) (fun si _=>n - (intOf si).toNat)
    case atStart=>exact ⟨0,Nat.zero_le _,rfl,fun j hj=>by omega,HG.out⟩
    case round =>
     obtain ⟨i,hi,rfl,ha,hg⟩:=hrel;have HA:=hJ ha;have bj:=hJ hg;clear ha hg HG
     by_cases hlt:i<n
     ·obtain ⟨b1,off,ao,k,c,rfl,q2,q3,q4,q5⟩:=HL.out.row i (by omega)
      have hk:=q3.len;have c0:=bj.out.cell q2 (by simp);have HM:Hid (cW (L.getD i [])=true->bA lv L K=41):=fun h=>aaW H0.out NT.out (List.any_eq_true.2 ⟨_,cS (show i<L.length by omega),h⟩)
      have HX:Hid (cW (L.getD i [])=false->∀ j,j<i+1->cW (L.getD j [])=false):=by
       intro h j hj
       by_cases e:j=i
       ·subst e;exact h
       ·exact HA.out j (by omega)
      have HE:Hid (cW (L.getD i [])=!(decide (1<=k) && decide (k<=255))):=by show _=_;unfold cW;rw [hk]
      rw [HE.out] at HM HX;have g1:(i:Int)<(n:Int):=by omega
      clear HE hk q2 q3
      by_cases e1:k<1
      ·have HE:Hid (jr lv L K [] 41):=lG (HM.out (by simp;omega)) (by decide)
       have e1':(k:Int)<1:=by omega
       clear HX HM;go_wp2
       go_ret2
       exact ⟨⟨none,0,0,41,[],rfl,ai.empty _,HE.out,by omega,by omega,by omega⟩,bj.out⟩
      ·by_cases e2:255<k
       ·have HE:Hid (jr lv L K [] 41):=lG (HM.out (by simp;omega)) (by decide)
        have Ql:(255:Int)<(k:Int):=by omega
        clear HX HM;go_wp2
        go_ret2
        exact ⟨⟨none,0,0,41,[],rfl,ai.empty _,HE.out,by omega,by omega,by omega⟩,bj.out⟩
       ·have jK:=hJ (HX.out (by simp;omega))
        have hd1:decide ((k:Int)<1)=false:=decide_eq_false (by omega);have XY:decide ((255:Int)<(k:Int))=false:=decide_eq_false (by omega);have hd3:¬ (k:Int)<1:=by omega
        have hd4:¬ (255:Int)<(k:Int):=by omega
        clear HX HM e1 e2;go_wp2;go_roundw
        case rel=>exact ⟨i+1,by omega,by go_num,jK.out,bj.out⟩
        case measure=>simp [intOf];omega
     ·have hin:i=n:=by omega
      subst hin;have HSA:Hid (∀ s∈L,cW s=false):=NP (fun j hj=>HA.out j (by omega));have Rk:Hid (L.any cW=false):=NS HSA.out;clear HA;go_wp2;go_loopw [10] (fun si wr'=>∃ q:Nat,q<=i/\si=.int .i64 ((q+1:Nat):Int)/\(∀ j,j<q->j+1<i->cL (L.getD j []) (L.getD (j+1) [])<0)/\w.grownBy wr' none) (fun si _=>i+1 - (intOf si).toNat)
      case atStart=>exact ⟨0,Nat.zero_le _,rfl,fun j hj=>by omega,bj.out⟩
      case round =>
       obtain ⟨q,Yg,rfl,ha,hg⟩:=hrel;have HA:=hJ ha;have eu:=hJ hg;clear ha hg bj
       by_cases hlt:q+1<i
       ·obtain ⟨b1,off,ao,k,c,rfl,q2,q3,q4,q5⟩:=HL.out.row q (by omega)
        obtain ⟨b2,Ju,Ac,k2,c2,e9,r2,r3,r4,r5⟩:=HL.out.row (q+1) (by omega);simp only [Option.some.injEq,Addr.mk.injEq] at e9;obtain ⟨rfl,rfl,_⟩:=e9;have c0:=eu.out.cell q2 (by simp);have c1:=eu.out.cell r2 (by simp);have HC:=hJ (fun (W:World) (hW:W.heap=wr.heap)=>BD ao Ac k k2 c c2 _ _ W ((q3.ae eu.out).heap hW) ((r3.ae eu.out).heap hW) (HB.out _ (cS (show q<L.length by omega))) (HB.out _ (cS (show q+1<L.length by omega))))
        have HD:Hid (cL (L.getD q []) (L.getD (q+1) [])<0->∀ j,j<q+1->j+1<i->cL (L.getD j []) (L.getD (j+1) [])<0):=by
         intro h j hj rG
         by_cases e:j=q
         ·subst e;exact h
         ·exact HA.out j (by omega) rG
        have HE:Hid (¬ cL (L.getD q []) (L.getD (q+1) [])<0->bA lv L K=30):=fun h=>aaX H0.out NT.out Rk.out (by
         cases hu:nW L with
         | false=>rfl
         | true=>exact absurd ((iO L).1 hu q (by omega)) h)
        clear q2 q3 r2 r3;generalize cL (L.getD q []) (L.getD (q+1) [])=z at *;have g1:((q+1:Nat):Int)<(i:Int):=by omega
        have g0:(0:Int)<=((q+1:Nat):Int):=by omega
        have g2:((q+1:Nat):Int) - 1=(q:Int):=by omega
        have g3:(q:Int)<(i:Int):=by omega
        have g4:(0:Int)<=(q:Int):=by omega
        obtain ⟨j,hj⟩:∃ j,q+1=j:=⟨_,rfl⟩;rw [hj] at g1 g0 g2 c1 ⊢;have HJ:=hJ hj;clear hj
        by_cases hz:z<0
        ·have hz':decide (z<0)=true:=decide_eq_true hz
         have HD1:=hJ (HD.out hz);rw [hz'] at HC;clear HD HE;go_wp2
         go_quiet ((go_at_call 114;exact Calls.quiet_of_same (HC.out _ rfl)))
         go_wp2;go_roundw
         case rel=>exact ⟨q+1,by omega,by have:=HJ.out;go_num,HD1.out,gQ eu.out ((Qt.drewN _ _).grown none)⟩
         case measure=>have:=HJ.out;simp [intOf];omega
        ·have hz':decide (z<0)=false:=decide_eq_false hz
         have HEE:Hid (jr lv L K [] 30):=lG (HE.out hz) (by decide);rw [hz'] at HC;clear HD HE;go_wp2
         go_quiet ((go_at_call 114;exact Calls.quiet_of_same (HC.out _ rfl)))
         go_wp2
         go_ret2
         exact ⟨⟨none,0,0,30,[],rfl,ai.empty _,HEE.out,by omega,by omega,by omega⟩,gQ eu.out ((Qt.drewN _ _).grown none)⟩
       ·have g1:¬ ((q+1:Nat):Int)<(i:Int):=by omega
        have Yl:Hid (nW L=true):=(iO L).2 (fun j hj=>HA.out j (by omega) (by omega));obtain ⟨j,hj⟩:∃ j,q+1=j:=⟨_,rfl⟩;rw [hj] at g1 ⊢;clear hj
        go_wp2_with fail
        refine (yG a i cap L _ (HL.out.ae eu.out) hn hm (fun x hx=>by have:=(eA (HSA.out x hx)).2;omega)).mono ?_;rintro en w9 ⟨rfl,UA⟩;have G9:=hJ (gQ eu.out (UA.grown none));clear UA eu
        by_cases hs:4092<bsize L
        ·have HEE:Hid (jr lv L K [] 42):=lG (aaY H0.out NT.out Rk.out Yl.out hs) (by decide)
         generalize bsize L=sz at *;have hs1:(4092:Int)<(sz:Int):=by omega
         go_wp2
         go_ret2
         exact ⟨⟨none,0,0,42,[],rfl,ai.empty _,HEE.out,by omega,by omega,by omega⟩,G9.out⟩
        ·have hw:=aeY H0.out NT.out Rk.out Yl.out hs
         have hf:=dy.1 hw;obtain ⟨k,M,rfl,rfl⟩:=xk hf;obtain ⟨l,rfl⟩:∃ l:Nat,lv=(l:Int):=⟨lv.toNat,by omega⟩;rw [bY] at hn;have HLY:=hJ (fun (W:World) (q1:Lz W a (aj M)) (q2:Kl W b (kids k M))=>BW l a i cap b bh k M W q1 q2 hn hf);have HEE:Hid (jr (l:Int) (aj M) (kids k M) (eO (l:Int) k M) 0):=⟨fun h=>absurd rfl h,fun _=>⟨k,M,rfl,rfl,hw,rfl⟩⟩;have vJ:=hJ (gA (lv:=(l:Int)) (k:=k) hf.size);clear hw hf;generalize eO (l:Int) k M=B at *;generalize bsize (aj M)=sz at *;have hs1:¬ (4092:Int)<(sz:Int):=by omega
         go_wp2_with fail
         refine (HLY.out _ (HL.out.ae G9.out) (HK.out.ae G9.out)).mono ?_;rintro en fI ⟨G,rfl,tQ,aW⟩;have IW:=hJ tQ;have wZ:=hJ (gQ G9.out aW);clear tQ aW;go_wp2
         go_ret2
         exact ⟨⟨_,4092,4092,0,B,rfl,IW.out.all 4092 4092 vJ.out.symm,HEE.out,Nat.le_refl _,Nat.le_refl _,Nat.le_refl _⟩,wZ.out⟩
end Go.Proofs.YtgldkdbkaachkaaGreatDoor
