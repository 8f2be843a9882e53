import Derived.Test.YtepcgckapoljpaaGreatQ47
import Derived.Deep.Strs
import Derived.ProofKit
import Derived.OpenShut
import Derived.Deep.Slices
import Derived.ChangeSame
set_option maxRecDepth 100000
namespace Go.Proofs.YtepcgckapoljpaaGreat
open Go.ChangeShapes Go.WideShapes Go.ChangeAt Go.WideMaps Go.WideElems Go.RowKit Go.Deep
theorem cells_bytesW:Tryz.prog.cellsOf 30=1:=by kernel_rfl
theorem cells_boolW:Tryz.prog.cellsOf 4=1:=by kernel_rfl
theorem cells_intW:Tryz.prog.cellsOf 3=1:=by kernel_rfl
theorem cells_act:Tryz.prog.cellsOf 32=5:=by kernel_rfl
theorem cell_plainW {w:World}{a:Addr}{v:Value}(h:w.cell? a=some v):∃ b off,a=⟨b,off,none⟩:=by
 obtain ⟨b,off,spot⟩:=a;have:spot=none:=World.cell?_spot h;exact ⟨b,off,by rw [this]⟩
theorem below_ofW {w w':World}(h:w.grownBy w' none):Below w.heap.size w w':=⟨h.os,h.tape,h.output,h.size,fun k hk=>h.block k hk (by simp)⟩
theorem list_ofW {T:Type}(d:T){P:Nat->T->Prop}:∀ (n:Nat),(∀ i,i<n->∃ x,P i x)->∃ L:List T,L.length=n/\∀ i,i<n->P i (L.getD i d)
 | 0,_=>⟨[],rfl,fun i hi=>by omega⟩
 | n+1,h=>by
  obtain ⟨L,hl,hL⟩:=list_ofW d n (fun i hi=>h i (by omega));obtain ⟨z,hz⟩:=h n (by omega);refine ⟨L++[z],by simp [hl],fun i hi=>?_⟩
  by_cases hin:i<n
  ·have e:(L++[z]).getD i d=L.getD i d:=by simp [List.getD,List.getElem?_append_left (show i<L.length by omega)]
   rw [e];exact hL i hin
  ·have:i=n:=by omega
   subst this;have e:(L++[z]).getD i d=z:=by subst hl;simp [List.getD]
   rw [e];exact hz
theorem bytes_openW {H:Type}{enc:TypeId × Value->H}{w:World}{base:Nat}{held:Bool}{fuel:Nat}{cs:List Value}{x:DataW H × List MemPlace}
  (h:DataW.trod enc Tryz.prog w base (fun _=>true) held fuel 30 cs=some x):∃ ao n c zs,cs=[.slice ao n c]/\Byt w ao n c zs/\Bt zs:=by
 rcases open_ints Tryz.underlying30 Tryz.underlying5 (by kernel_rfl) h with ⟨hcs,_⟩ | ⟨x,l,c,zs,hcs,_,hl,hm,hz,_,hcell,hwz⟩
 ·exact ⟨none,0,0,[],hcs,Byt.empty w,Bt.nil⟩
 ·obtain ⟨h1,h2,_,_⟩:=byt_of_row (zs:=zs) (.inr ⟨_,rfl,hl,hm,by simpa using hz,hcell,hwz⟩)
  exact ⟨_,_,_,_,hcs,h1,h2⟩
theorem struct510 {H:Type}{enc:TypeId × Value->H}{P:Program}{w:World}{base:Nat}{spare:Nat->Bool}{held:Bool}{t:TypeId}{f0 f1 f2 f3 f4:Field}{fuel:Nat}{cs:List Value}{x:DataW H × List MemPlace}(ht:P.underlying t=some (.struct #[f0,f1,f2,f3,f4]))(h:DataW.trod enc P w base spare held fuel t cs=some x) :
  ∃ y0 y1 y2 y3 y4 n,cs.length=P.cellsOf t/\DataW.trod enc P w base spare held n f0.type ((cs.drop f0.offset).take (P.cellsOf f0.type))=some y0/\DataW.trod enc P w base spare held n f1.type ((cs.drop f1.offset).take (P.cellsOf f1.type))=some y1 /\
   DataW.trod enc P w base spare held n f2.type ((cs.drop f2.offset).take (P.cellsOf f2.type))=some y2/\DataW.trod enc P w base spare held n f3.type ((cs.drop f3.offset).take (P.cellsOf f3.type))=some y3/\DataW.trod enc P w base spare held n f4.type ((cs.drop f4.offset).take (P.cellsOf f4.type))=some y4:=by
 obtain ⟨xs,n,_,rfl,hl,hlen,hf⟩:=DataW.trod_struct ht h
 match xs,hlen with
 | [y0,y1,y2,y3,y4],_=>exact ⟨y0,y1,y2,y3,y4,n,hl,by simpa using hf 0 f0 rfl,by simpa using hf 1 f1 rfl,by simpa using hf 2 f2 rfl,by simpa using hf 3 f3 rfl,by simpa using hf 4 f4 rfl⟩
theorem act_open {H:Type}{enc:TypeId × Value->H}{w:World}{base:Nat}{held:Bool}{fuel:Nat}{cs:List Value}{x:DataW H × List MemPlace}
  (h:DataW.trod enc Tryz.prog w base (fun _=>true) held fuel 32 cs=some x):∃ ao n c za bo m d zb g k no,cs=[.slice ao n c,.slice bo m d,.bool g,.bool k,.int .i64 no]/\Byt w ao n c za/\Bt za/\Byt w bo m d zb/\Bt zb:=by
 obtain ⟨y0,y1,y2,y3,y4,n',hl,h0,h1,h2,h3,h4⟩:=struct510 Tryz.underlying32 h;rw [cells_act] at hl;obtain ⟨ao,n,c,za,e0,b0,t0⟩:=bytes_openW h0;obtain ⟨bo,m,d,zb,e1,b1,t1⟩:=bytes_openW h1;obtain ⟨g,e2,_⟩:=DataW.trod_bool Tryz.underlying4 h2;obtain ⟨k,e3,_⟩:=DataW.trod_bool Tryz.underlying4 h3;obtain ⟨no,e4,_,_⟩:=DataW.trod_int Tryz.underlying3 h4;simp only [cells_bytesW,cells_boolW,cells_intW] at e0 e1 e2 e3 e4
 match cs,hl with
 | [c0,c1,c2,c3,c4],_ =>
  simp at e0 e1 e2 e3 e4;exact ⟨ao,n,c,za,bo,m,d,zb,g,k,no,by rw [e0,e1,e2,e3,e4],b0,t0,b1,t1⟩
theorem acts_open {H:Type}{enc:TypeId × Value->H}{w:World}{base:Nat}{held:Bool}{fuel:Nat}{a:Option Addr}{len cap:Nat}{x:DataW H × List MemPlace}
  (h:DataW.trod enc Tryz.prog w base (fun _=>true) held fuel 22 [.slice a len cap]=some x):∃ C,AcW w a C/\C.length=len/\len<=cap/\cap<=9223372036854775807:=by
 rcases open_slice Tryz.underlying22 h with ⟨hcs,_⟩ | ⟨ad,l,c,m,n,D,Pc,hcs,_,hl,hm,hmm,_,hel⟩
 ·simp at hcs
  obtain ⟨rfl,rfl,rfl⟩:=hcs;exact ⟨[],(fun i x hx=>by simp at hx),rfl,Nat.le_refl _,by omega⟩
 ·simp at hcs
  obtain ⟨rfl,rfl,rfl⟩:=hcs;have hlm:len<=m:=by rw [hmm];split <;> omega
  have each:∀ i,i<len->∃ y:AcT,∃ ka kc va vc,w.cell? ((ad.add (i*5)).add 0)=some (.slice ka y.key.length kc)/\w.cell? ((ad.add (i*5)).add 1)=some (.slice va y.val.length vc)/\w.cell? ((ad.add (i*5)).add 2)=some (.bool y.gone)/\w.cell? ((ad.add (i*5)).add 3)=some (.bool y.mark)/\w.cell? ((ad.add (i*5)).add 4)=some (.int .i64 y.no)/\Byt w ka y.key.length kc y.key/\Byt w va y.val.length vc y.val/\Bt y.key/\Bt y.val:=by
   intro i hi;obtain ⟨cs',h1,h2⟩:=hel i (by omega);rw [cells_act] at h1;obtain ⟨ao,n2,c2,za,bo,m2,d2,zb,g,k,no,rfl,b0,t0,b1,t1⟩:=act_open h2;obtain ⟨_,_,hc⟩:=World.cells?_some h1;have la:=b0.len;have lb:=b1.len;subst la lb;exact ⟨⟨za,zb,g,k,no⟩,ao,c2,bo,d2,by simpa using hc 0 (by omega),by simpa using hc 1 (by omega),by simpa using hc 2 (by omega),by simpa using hc 3 (by omega),by simpa using hc 4 (by omega),b0,b1,t0,t1⟩
  clear hel
  have each2:∀ i,i<len->∃ y:AcT,∃ b off ka kc va vc,AcE w (some ad) i y b off ka kc va vc:=by
   intro i hi
   obtain ⟨b,off,e⟩:∃ b off,ad=⟨b,off,none⟩:=by
    obtain ⟨_,_,_,_,_,h6,_⟩:=each 0 (by omega);have e':(ad.add (0*5)).add 0=ad:=by simp [Addr.add]
    rw [e'] at h6;exact cell_plainW h6
   subst e;obtain ⟨q,ka,kc,va,vc,h3,h4,h5,h5b,h5c,h6,h7,h8,h9⟩:=each i hi;simp only [Addr.add_lit,Nat.add_zero] at h3 h4 h5 h5b h5c;exact ⟨q,b,off,ka,kc,va,vc,rfl,h3,h4,h5,h5b,h5c,h6,h7,h8,h9⟩
  obtain ⟨L,hL,hP⟩:=list_ofW (⟨[],[],false,false,0⟩:AcT) len each2;refine ⟨L,fun i p hp=>?_,hL,hl,by unfold maxLen at hm;omega⟩;obtain ⟨hi,e⟩:=List.getElem?_eq_some_iff.1 hp;have h2:=hP i (by omega);have e2:L.getD i (⟨[],[],false,false,0⟩:AcT)=p:=by simp [List.getD,hp]
  rw [e2] at h2;exact h2
end Go.Proofs.YtepcgckapoljpaaGreat
