import Derived.Test.YteaahinjcfjngaaGreatQ49
import Derived.Deep.Strs
import Derived.ProofKit
import Derived.OpenShut
import Derived.Deep.Slices
import Derived.ChangeSame
import Derived.SizedLaws
import Derived.Below
set_option maxRecDepth 100000
set_option maxHeartbeats 1000000
namespace Go.Proofs.YteaahinjcfjngaaGreat
open Go.ChangeShapes Go.WideShapes Go.ChangeAt Go.WideMaps Go.WideElems Go.RowKit Go.Deep
theorem weightsAll_mem22 {H:Type}{P:Program}{e:TypeId}:∀ {ds:List (DataW H)} {d:DataW H},d∈ds->∀ n∈d.weights P e,n∈DataW.weightsAll P e ds
 | d0::ds,d,hd,n,hn=>by
  simp only [DataW.weightsAll,List.mem_append];rcases List.mem_cons.1 hd with rfl | h
  ·exact Or.inl hn
  ·exact Or.inr (weightsAll_mem22 h n hn)
def Wt22 {H:Type}(P:Program)(t:TypeId)(d:DataW H):Prop:=∀ n∈d.weights P t,n<=reachBytes
theorem Wt22.of {H:Type}{P:Program}{ts:List TypeId}{ds:List (DataW H)}(h:(DataW.weightsEach P ts ds).all (·<=reachBytes)=true){j:Nat}{t:TypeId}{d:DataW H}(ht:ts[j]?=some t)(hd:ds[j]?=some d):Wt22 P t d :=
 fun n hn=>of_decide_eq_true (List.all_eq_true.1 h _ (DataW.weights_mem_each ht hd n hn))
theorem Wt22.elem {H:Type}{P:Program}{t e:TypeId}{elems spare:List (DataW H)}{d:DataW H}(h:Wt22 P t (.slice elems spare))(hu:P.underlying t=some (.slice e))(hd:d∈elems):Wt22 P e d:=by
 intro n hn;refine h n ?_;simp only [DataW.weights,hu,List.mem_cons,List.mem_append];exact Or.inr (Or.inl (weightsAll_mem22 hd n hn))
theorem Wt22.len {H:Type}{P:Program}{t e:TypeId}{elems spare:List (DataW H)}(h:Wt22 P t (.slice elems spare))(hu:P.underlying t=some (.slice e)):(elems.length+spare.length)*P.bytesOf e<=reachBytes:=by
 refine h _ ?_;simp [DataW.weights,hu]
theorem list_of22 {T:Type}(d:T){P:Nat->T->Prop}:∀ (n:Nat),(∀ i,i<n->∃ x,P i x)->∃ L:List T,L.length=n/\∀ i,i<n->P i (L.getD i d)
 | 0,_=>⟨[],rfl,fun i hi=>by omega⟩
 | n+1,h=>by
  obtain ⟨L,hl,hL⟩:=list_of22 d n (fun i hi=>h i (by omega));obtain ⟨z,hz⟩:=h n (by omega);refine ⟨L++[z],by simp [hl],fun i hi=>?_⟩
  by_cases hin:i<n
  ·have e:(L++[z]).getD i d=L.getD i d:=by simp [List.getD,List.getElem?_append_left (show i<L.length by omega)]
   rw [e];exact hL i hin
  ·have:i=n:=by omega
   subst this;have e:(L++[z]).getD i d=z:=by subst hl;simp [List.getD]
   rw [e];exact hz
theorem cell_plain22 {w:World}{a:Addr}{v:Value}(h:w.cell? a=some v):∃ b off,a=⟨b,off,none⟩:=by
 obtain ⟨b,off,spot⟩:=a;have:spot=none:=World.cell?_spot h;exact ⟨b,off,by rw [this]⟩
theorem slu_open {T:Type}{H:Type}{enc:TypeId × Value->H}{w:World}{base:Nat}{held:Bool}{fuel:Nat}{cs:List Value}{x:DataW H × List MemPlace}{t e:TypeId}{k:Nat}{I:List Value->T->Prop}{B:T->Prop}(d:T)
  (ht:Tryz.prog.underlying t=some (.slice e)) (hk:Tryz.prog.cellsOf e=k) (hk0:0<k) (h:DataW.trod enc Tryz.prog w base (fun _=>true) held fuel t cs=some x) (hs:Wt22 Tryz.prog t x.1)
  (hI:∀ (fuel:Nat) (cs:List Value) (y:DataW H × List MemPlace),DataW.trod enc Tryz.prog w base (fun _=>true) held fuel e cs=some y->Wt22 Tryz.prog e y.1->∃ z,I cs z/\B z/\cs.length=k/\∀ v∈cs,v.oneCell'=true) :
  ∃ a n c L,cs=[.slice a n c]/\SlU w k I a n c L/\(∀ z∈L,B z)/\n*Tryz.prog.bytesOf e<=reachBytes:=by
 rcases open_slice ht h with ⟨hcs,_⟩ | ⟨ad,l,c,m,n,D,Pc,hcs,_,hl,hm,hmm,hx,hel⟩
 ·exact ⟨none,0,0,[],hcs,⟨[],⟨rfl,Nat.le_refl _,by omega,fun _=>rfl,(fun e he=>by cases he),(fun e he=>by cases he),(fun i e he=>by simp at he)⟩,ElyT.nil⟩,(fun z hz=>by cases hz),by omega⟩
 ·have hlm:l<=m:=by rw [hmm];split <;> omega
  rw [hx] at hs;have hlen:=hs.len ht;simp only [List.length_map,List.length_range] at hlen
  have each:∀ i,i<l->∃ p:List Value × T,(∀ j u,p.1[j]?=some u->w.cell? ((ad.add (i*k)).add j)=some u)/\I p.1 p.2/\B p.2/\p.1.length=k/\∀ v∈p.1,v.oneCell'=true:=by
   intro i hi;obtain ⟨cs',h1,h2⟩:=hel i (by omega);rw [hk] at h1;obtain ⟨z,k1,k2,k3,k4⟩:=hI _ _ _ h2 (hs.elem ht (List.mem_map.2 ⟨i,List.mem_range.2 hi,rfl⟩));obtain ⟨_,_,hc⟩:=World.cells?_some h1;refine ⟨(cs',z),fun j u hu=>?_,k1,k2,k3,k4⟩;have hj:=(List.getElem?_eq_some_iff.1 hu).1;rw [hc j (by rw [<- k3];exact hj)];exact hu
  clear hel;obtain ⟨L,hL,hP⟩:=list_of22 (([],d):List Value × T) l each
  have at':∀ (i:Nat) (p:List Value × T),L[i]?=some p->i<l/\(∀ j u,p.1[j]?=some u->w.cell? ((ad.add (i*k)).add j)=some u)/\I p.1 p.2/\B p.2/\p.1.length=k/\∀ v∈p.1,v.oneCell'=true:=fun i p hp=>by
   have hi:=(List.getElem?_eq_some_iff.1 hp).1;have h3:=hP i (by omega);have e2:L.getD i (([],d):List Value × T)=p:=by simp [List.getD,hp]
   rw [e2] at h3;exact ⟨by omega,h3⟩
  have inL:∀ p∈L,I p.1 p.2/\B p.2/\p.1.length=k/\∀ v∈p.1,v.oneCell'=true:=fun p hp=>by
   obtain ⟨i,hi,rfl⟩:=List.mem_iff_getElem.1 hp;exact (at' i _ (List.getElem?_eq_getElem hi)).2.2
  refine ⟨some ad,l,c,L.map (·.2),hcs,⟨L.map (·.1),⟨by rw [List.length_map,hL],hl,by unfold maxLen at hm;omega,(fun e=>by cases e),fun e he=>?_,fun e he=>?_,fun i e he=>?_⟩,⟨by rw [List.length_map,List.length_map],fun i e z he hz=>?_⟩⟩,fun z hz=>?_,?_⟩
  ·obtain ⟨p,hp,rfl⟩:=List.mem_map.1 he
   exact (inL p hp).2.2.1
  ·obtain ⟨p,hp,rfl⟩:=List.mem_map.1 he
   exact (inL p hp).2.2.2
  ·rw [List.getElem?_map] at he
   obtain ⟨p,hp,rfl⟩:=Option.map_eq_some_iff.1 he;obtain ⟨hi,h1,_,_,h3,_⟩:=at' i p hp
   obtain ⟨b,off,e⟩:∃ b off,ad=⟨b,off,none⟩:=by
    obtain ⟨p0,hp0⟩:∃ p0,L[0]?=some p0:=⟨_,List.getElem?_eq_getElem (by omega)⟩;obtain ⟨_,g1,_,_,g3,_⟩:=at' 0 p0 hp0;have g4:=g1 0 _ (List.getElem?_eq_getElem (by omega));have e':(ad.add (0*k)).add 0=ad:=by rw [Nat.zero_mul];simp [Addr.add]
    rw [e'] at g4;exact cell_plain22 g4
   subst e;refine ⟨b,off,rfl,fun f v hv=>?_⟩;have:=h1 f v hv;simpa only [Addr.add_lit] using this
  ·rw [List.getElem?_map] at he hz
   obtain ⟨p,hp,rfl⟩:=Option.map_eq_some_iff.1 he;obtain ⟨p',hp',rfl⟩:=Option.map_eq_some_iff.1 hz;rw [hp] at hp';obtain rfl:=Option.some.inj hp';exact (at' i p hp).2.2.1
  ·obtain ⟨p,hp,rfl⟩:=List.mem_map.1 hz
   exact (inL p hp).2.1
  ·refine Nat.le_trans (Nat.mul_le_mul_right _ ?_) hlen
   omega
theorem bytesOf_u8:Tryz.prog.bytesOf 5=1:=by kernel_rfl
theorem bytesOf_int:Tryz.prog.bytesOf 3=8:=by kernel_rfl
theorem bytesOf_pair:Tryz.prog.bytesOf 64=48:=by kernel_rfl
theorem cells_bytes22:Tryz.prog.cellsOf 62=1:=by kernel_rfl
theorem cells_int22:Tryz.prog.cellsOf 3=1:=by kernel_rfl
theorem cells_ints22:Tryz.prog.cellsOf 30=1:=by kernel_rfl
theorem cells_pair22:Tryz.prog.cellsOf 64=2:=by kernel_rfl
theorem cells_pairs22:Tryz.prog.cellsOf 57=1:=by kernel_rfl
theorem cells_intss22:Tryz.prog.cellsOf 58=1:=by kernel_rfl
theorem cells_rows22:Tryz.prog.cellsOf 59=1:=by kernel_rfl
theorem cells_anode22:Tryz.prog.cellsOf 61=6:=by kernel_rfl
section
variable {H:Type} {enc:TypeId × Value->H} {w:World} {base:Nat} {held:Bool} {fuel:Nat} {cs:List Value} {x:DataW H × List MemPlace}
theorem bytes_open22 (h:DataW.trod enc Tryz.prog w base (fun _=>true) held fuel 62 cs=some x)(hs:Wt22 Tryz.prog 62 x.1):∃ ao n c zs,cs=[.slice ao n c]/\BtU w ao n c zs/\Bt zs/\n<=140737488355328:=by
 rcases open_ints Tryz.underlying62 Tryz.underlying5 (by kernel_rfl) h with ⟨hcs,_⟩ | ⟨x,l,c,zs,hcs,_,hl,hm,hz,hx,hcell,hwz⟩
 ·exact ⟨none,0,0,[],hcs,⟨Byt.empty w,Nat.le_refl _,by omega⟩,Bt.nil,by omega⟩
 ·obtain ⟨h1,h2,h3,h4⟩:=byt_of_row (zs:=zs) (.inr ⟨_,rfl,hl,hm,by simpa using hz,hcell,hwz⟩)
  have hz':zs.length=c:=by simpa using hz
  rw [hx] at hs;have h5:=hs.len Tryz.underlying62;rw [bytesOf_u8] at h5;simp only [lits,List.length_map,List.length_take,List.length_drop,reachBytes] at h5;exact ⟨_,_,_,_,hcs,⟨h1,h3,h4⟩,h2,by omega⟩
theorem int_open22 (h:DataW.trod enc Tryz.prog w base (fun _=>true) held fuel 3 cs=some x):∃ z:Int,cs=[.int .i64 z]/\-9223372036854775808<=z/\z<=9223372036854775807:=by
 obtain ⟨s,e2,_,ws⟩:=DataW.trod_int Tryz.underlying3 h
 have h1:(-9223372036854775808:Int)<=s/\s<=9223372036854775807:=by
  simp [Lit.wf,IntKind.min,IntKind.max,IntKind.bits,IntKind.signed] at ws;omega
 exact ⟨s,e2,h1.1,h1.2⟩
theorem ints_open22 (h:DataW.trod enc Tryz.prog w base (fun _=>true) held fuel 30 cs=some x)(hs:Wt22 Tryz.prog 30 x.1):∃ ao n c zs,cs=[.slice ao n c]/\NmU w ao n c zs/\n<=17592186044416/\∀ z∈zs,-9223372036854775808<=z/\z<=9223372036854775807:=by
 obtain ⟨a,n,c,L,e,h1,h2,h3⟩:=slu_open (I:=fun e z=>e=[.int .i64 z]) (B:=fun z:Int=>-9223372036854775808<=z/\z<=9223372036854775807) 0 Tryz.underlying30 cells_int22 (by omega) h hs (fun fuel cs y hy _=>by
  obtain ⟨z,e,k1,k2⟩:=int_open22 hy;exact ⟨z,e,⟨k1,k2⟩,by rw [e];rfl,fun v hv=>by rw [e] at hv;rw [List.mem_singleton.1 hv];rfl⟩)
 rw [bytesOf_int] at h3;unfold reachBytes at h3;refine ⟨a,n,c,L,e,?_,by omega,h2⟩;obtain ⟨es,k1,k2⟩:=h1.ex
 have:es=L.map fun z=>[.int .i64 z]:=by
  apply List.ext_getElem?;intro i;rw [List.getElem?_map]
  by_cases hi:i<es.length
  ·have hl:=k2.len
   rw [List.getElem?_eq_getElem hi,List.getElem?_eq_getElem (by omega)];exact congrArg some (k2.el i _ _ (List.getElem?_eq_getElem hi) (List.getElem?_eq_getElem (by omega)))
  ·have hl:=k2.len
   rw [List.getElem?_eq_none (by omega),List.getElem?_eq_none (by omega)]
   rfl
 rw [this] at k1;exact k1
theorem rows_open22 (h:DataW.trod enc Tryz.prog w base (fun _=>true) held fuel 59 cs=some x)(hs:Wt22 Tryz.prog 59 x.1):∃ ao n c L,cs=[.slice ao n c]/\SsU w ao n c L/\∀ s∈L,s.length<=140737488355328/\Bt s:=by
 obtain ⟨a,n,c,L,e,h1,h2,_⟩:=slu_open (I:=IbU w) (B:=fun s:List Int=>s.length<=140737488355328/\Bt s) [] Tryz.underlying59 cells_bytes22 (by omega) h hs (fun fuel cs y hy hw=>by
  obtain ⟨ao,n,c,zs,e,k1,k2,k3⟩:=bytes_open22 hy hw;exact ⟨zs,⟨ao,n,c,e,k1⟩,⟨by rw [k1.b.len];exact k3,k2⟩,by rw [e];rfl,fun v hv=>by rw [e] at hv;rw [List.mem_singleton.1 hv];rfl⟩)
 exact ⟨a,n,c,L,e,h1,h2⟩
theorem intss_open22 (h:DataW.trod enc Tryz.prog w base (fun _=>true) held fuel 58 cs=some x)(hs:Wt22 Tryz.prog 58 x.1):∃ ao n c L,cs=[.slice ao n c]/\RcU w ao n c L/\∀ s∈L,s.length<=17592186044416/\∀ z∈s,-9223372036854775808<=z/\z<=9223372036854775807:=by
 obtain ⟨a,n,c,L,e,h1,h2,_⟩:=slu_open (I:=IchU w) (B:=fun s:List Int=>s.length<=17592186044416/\∀ z∈s,-9223372036854775808<=z/\z<=9223372036854775807) [] Tryz.underlying58 cells_ints22 (by omega) h hs (fun fuel cs y hy hw=>by
  obtain ⟨ao,n,c,zs,e,k1,k2,k3⟩:=ints_open22 hy hw;have hl:zs.length=n:=by have:=k1.len;simpa using this
  exact ⟨zs,⟨ao,n,c,e,k1⟩,⟨by omega,k3⟩,by rw [e];rfl,fun v hv=>by rw [e] at hv;rw [List.mem_singleton.1 hv];rfl⟩)
 exact ⟨a,n,c,L,e,h1,h2⟩
theorem struct22 {P:Program}{t:TypeId}{f0 f1:Field}{spare:Nat->Bool}(ht:P.underlying t=some (.struct #[f0,f1]))(h:DataW.trod enc P w base spare held fuel t cs=some x) :
  ∃ y0 y1 n,x.1=.agg [y0.1,y1.1]/\cs.length=P.cellsOf t/\DataW.trod enc P w base spare held n f0.type ((cs.drop f0.offset).take (P.cellsOf f0.type))=some y0/\DataW.trod enc P w base spare held n f1.type ((cs.drop f1.offset).take (P.cellsOf f1.type))=some y1:=by
 obtain ⟨xs,n,_,rfl,hl,hlen,hf⟩:=DataW.trod_struct ht h
 match xs,hlen with
 | [y0,y1],_=>exact ⟨y0,y1,n,rfl,hl,by simpa using hf 0 f0 rfl,by simpa using hf 1 f1 rfl⟩
theorem struct62 {P:Program}{t:TypeId}{f0 f1 f2 f3 f4 f5:Field}{spare:Nat->Bool}(ht:P.underlying t=some (.struct #[f0,f1,f2,f3,f4,f5]))(h:DataW.trod enc P w base spare held fuel t cs=some x) :
  ∃ y0 y1 y2 y3 y4 y5 n,x.1=.agg [y0.1,y1.1,y2.1,y3.1,y4.1,y5.1]/\cs.length=P.cellsOf t/\DataW.trod enc P w base spare held n f0.type ((cs.drop f0.offset).take (P.cellsOf f0.type))=some y0/\DataW.trod enc P w base spare held n f1.type ((cs.drop f1.offset).take (P.cellsOf f1.type))=some y1 /\
   DataW.trod enc P w base spare held n f2.type ((cs.drop f2.offset).take (P.cellsOf f2.type))=some y2/\DataW.trod enc P w base spare held n f3.type ((cs.drop f3.offset).take (P.cellsOf f3.type))=some y3/\DataW.trod enc P w base spare held n f4.type ((cs.drop f4.offset).take (P.cellsOf f4.type))=some y4/\DataW.trod enc P w base spare held n f5.type ((cs.drop f5.offset).take (P.cellsOf f5.type))=some y5:=by
 obtain ⟨xs,n,_,rfl,hl,hlen,hf⟩:=DataW.trod_struct ht h
 match xs,hlen with
 | [y0,y1,y2,y3,y4,y5],_=>exact ⟨y0,y1,y2,y3,y4,y5,n,rfl,hl,by simpa using hf 0 f0 rfl,by simpa using hf 1 f1 rfl,by simpa using hf 2 f2 rfl,by simpa using hf 3 f3 rfl,by simpa using hf 4 f4 rfl,by simpa using hf 5 f5 rfl⟩
theorem pair_open22 (h:DataW.trod enc Tryz.prog w base (fun _=>true) held fuel 64 cs=some x)(hs:Wt22 Tryz.prog 64 x.1):∃ p:List Int × List Int,IkU w cs p/\(p.1.length<=140737488355328/\p.2.length<=140737488355328/\Bt p.1/\Bt p.2)/\cs.length=2/\∀ v∈cs,v.oneCell'=true:=by
 obtain ⟨y0,y1,n',hx,hl,h0,h1⟩:=struct22 Tryz.underlying64 h;rw [cells_pair22] at hl;rw [hx] at hs
 have s0:Wt22 Tryz.prog 62 y0.1:=fun n hn=>hs n (by
  simp only [DataW.weights,Tryz.underlying64,List.map_cons,List.map_nil,DataW.weightsEach,List.mem_append];exact Or.inl hn)
 have s1:Wt22 Tryz.prog 62 y1.1:=fun n hn=>hs n (by
  simp only [DataW.weights,Tryz.underlying64,List.map_cons,List.map_nil,DataW.weightsEach,List.mem_append];exact Or.inr (Or.inl hn))
 obtain ⟨ao,n,c,za,e0,b0,t0,l0⟩:=bytes_open22 h0 s0;obtain ⟨bo,m,d,zb,e1,b1,t1,l1⟩:=bytes_open22 h1 s1;simp only [cells_bytes22] at e0 e1
 match cs,hl with
 | [c0,c1],_ =>
  simp at e0 e1
  exact ⟨(za,zb),⟨ao,n,c,bo,m,d,by rw [e0,e1],b0,b1⟩,⟨by rw [b0.b.len];exact l0,by rw [b1.b.len];exact l1,t0,t1⟩,rfl,fun v hv=>by
   simp only [List.mem_cons,List.not_mem_nil,or_false] at hv;rcases hv with rfl | rfl
   ·rw [e0];rfl
   ·rw [e1];rfl⟩
theorem pairs_open22 (h:DataW.trod enc Tryz.prog w base (fun _=>true) held fuel 57 cs=some x)(hs:Wt22 Tryz.prog 57 x.1):∃ ao n c L,cs=[.slice ao n c]/\RpU w ao n c L/\n<=2932031007402/\∀ p∈L,p.1.length<=140737488355328/\p.2.length<=140737488355328/\Bt p.1/\Bt p.2:=by
 obtain ⟨a,n,c,L,e,h1,h2,h3⟩:=slu_open (I:=IkU w) (B:=fun p:List Int × List Int=>p.1.length<=140737488355328/\p.2.length<=140737488355328/\Bt p.1/\Bt p.2) ([],[]) Tryz.underlying57 cells_pair22 (by omega) h hs (fun fuel cs y hy hw=>pair_open22 hy hw);rw [bytesOf_pair] at h3;unfold reachBytes at h3;exact ⟨a,n,c,L,e,h1,by omega,h2⟩
def NdU (w:World)(e:List Value)(x:RnT):Prop:=∃ pa pn pc ca cn cc sa sn sc ka kn kc,e=[.int .i64 x.no,.int .i64 x.lv,.slice pa pn pc,.slice ca cn cc,.slice sa sn sc,.slice ka kn kc]/\RpU w pa pn pc x.ps/\RcU w ca cn cc x.cs/\SsU w sa sn sc x.ss/\NmU w ka kn kc x.ks
theorem node_open22 (h:DataW.trod enc Tryz.prog w base (fun _=>true) held fuel 61 cs=some x)(hs:Wt22 Tryz.prog 61 x.1):∃ z:RnT,NdU w cs z/\RnB z/\cs.length=6/\∀ v∈cs,v.oneCell'=true:=by
 obtain ⟨y0,y1,y2,y3,y4,y5,n',hx,hl,h0,h1,h2,h3,h4,h5⟩:=struct62 Tryz.underlying61 h;rw [cells_anode22] at hl;rw [hx] at hs
 have s2:Wt22 Tryz.prog 57 y2.1:=fun n hn=>hs n (by
  simp only [DataW.weights,Tryz.underlying61,List.map_cons,List.map_nil,DataW.weightsEach,List.mem_append];exact Or.inr (Or.inr (Or.inl hn)))
 have s3:Wt22 Tryz.prog 58 y3.1:=fun n hn=>hs n (by
  simp only [DataW.weights,Tryz.underlying61,List.map_cons,List.map_nil,DataW.weightsEach,List.mem_append];exact Or.inr (Or.inr (Or.inr (Or.inl hn))))
 have s4:Wt22 Tryz.prog 59 y4.1:=fun n hn=>hs n (by
  simp only [DataW.weights,Tryz.underlying61,List.map_cons,List.map_nil,DataW.weightsEach,List.mem_append];exact Or.inr (Or.inr (Or.inr (Or.inr (Or.inl hn)))))
 have s5:Wt22 Tryz.prog 30 y5.1:=fun n hn=>hs n (by
  simp only [DataW.weights,Tryz.underlying61,List.map_cons,List.map_nil,DataW.weightsEach,List.mem_append];exact Or.inr (Or.inr (Or.inr (Or.inr (Or.inr (Or.inl hn))))))
 obtain ⟨no,e0,n0,n1⟩:=int_open22 h0;obtain ⟨lv,e1,_,_⟩:=int_open22 h1;obtain ⟨pa,pn,pc,ps,e2,k2,l2,b2⟩:=pairs_open22 h2 s2;obtain ⟨ca,cn,cc,cs2,e3,k3,b3⟩:=intss_open22 h3 s3;obtain ⟨sa,sn,sc,ss,e4,k4,b4⟩:=rows_open22 h4 s4;obtain ⟨ka,kn,kc,ks,e5,k5,_,_⟩:=ints_open22 h5 s5;simp only [cells_int22,cells_pairs22,cells_intss22,cells_rows22,cells_ints22] at e0 e1 e2 e3 e4 e5
 match cs,hl with
 | [c0,c1,c2,c3,c4,c5],_ =>
  simp at e0 e1 e2 e3 e4 e5;refine ⟨⟨no,lv,ps,cs2,ss,ks⟩,⟨pa,pn,pc,ca,cn,cc,sa,sn,sc,ka,kn,kc,by rw [e0,e1,e2,e3,e4,e5],k2,k3,k4,k5⟩,⟨by have:=k2.len;show ps.length<=_;omega,b2,b3,b4,⟨n0,n1⟩⟩,rfl,fun v hv=>?_⟩;simp only [List.mem_cons,List.not_mem_nil,or_false] at hv;rcases hv with rfl | rfl | rfl | rfl | rfl | rfl
  ·rw [e0];rfl
  ·rw [e1];rfl
  ·rw [e2];rfl
  ·rw [e3];rfl
  ·rw [e4];rfl
  ·rw [e5];rfl
theorem nodes_open22 {a:Option Addr}{len cap:Nat}(h:DataW.trod enc Tryz.prog w base (fun _=>true) held fuel 22 [.slice a len cap]=some x)(hs:Wt22 Tryz.prog 22 x.1):∃ xs,RnU w a xs/\xs.length=len/\len<=cap/\cap<=9223372036854775807/\∀ x∈xs,RnB x:=by
 obtain ⟨a',n,c,L,e,h1,h2,h3⟩:=slu_open (I:=NdU w) (B:=RnB) ⟨0,0,[],[],[],[]⟩ Tryz.underlying22 cells_anode22 (by omega) h hs (fun fuel cs y hy hw=>node_open22 hy hw);simp at e;obtain ⟨rfl,rfl,rfl⟩:=e;have hc:=h1.cap;refine ⟨L,⟨fun i x hx=>?_⟩,h1.len,hc.1,hc.2.1,h2⟩;obtain ⟨es,k1,k2⟩:=h1.ex;obtain ⟨e,e1,pa,pn,pc,ca,cn,cc,sa,sn,sc,ka,kn,kc,rfl,q1,q2,q3,q4⟩:=k2.get hx;obtain ⟨b,off,e4,e5⟩:=k1.cell i _ e1;exact ⟨b,off,pa,pn,pc,ca,cn,cc,sa,sn,sc,ka,kn,kc,e4,⟨e5 0 _ rfl,e5 1 _ rfl,e5 2 _ rfl,e5 3 _ rfl,e5 4 _ rfl,e5 5 _ rfl,q1,q2,q3,q4⟩⟩
end
theorem below_ofW {w w':World}(h:w.grownBy w' none):Below w.heap.size w w':=⟨h.os,h.tape,h.output,h.size,fun k hk=>h.block k hk (by simp)⟩
end Go.Proofs.YteaahinjcfjngaaGreat
