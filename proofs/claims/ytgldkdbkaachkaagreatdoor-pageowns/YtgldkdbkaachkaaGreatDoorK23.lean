import Derived.Test.YtgldkdbkaachkaaGreatDoorK22
import Derived.Deep.RegionLaw
import Derived.Deep.AppendLies
import Derived.BigQuiet
import Derived.Great.Walk
set_option maxRecDepth 100000
set_option maxHeartbeats 8000000
namespace Go.Proofs.YtgldkdbkaachkaaGreatDoor
open Go.RowKit
variable {zs:List Int}{xs:List Value}{B D W base d g i j k n q:Nat}{ys:Nat->List Value}{P:Nat->Prop}{cs cs':Nat->Value}{ao:Option Addr}{t:TypeId}{v sR sS x y:Value}{a b c w w':World}{I:World->Prop}
def dr (cs:Nat->Value)(i:Nat)(v:Value):Nat->Value:=fun j=>if j=i then v else cs j
theorem fw (cs:Nat->Value)(i:Nat)(v:Value):dr cs i v i=v:=by unfold dr;simp
theorem bT (cs:Nat->Value)(v:Value)(h:j≠i):dr cs i v j=cs j:=by unfold dr;simp [h]
structure uU (w:World)(B:Nat)(cs:Nat->Value):Prop where
 cell:∀ i,i<41->w.cell? ⟨B,i,none⟩=some (cs i)
 fz:∀ i,i<41->w.frozen? ⟨B,i,none⟩=false
theorem uU.lt (h:uU w B cs):B<w.heap.size:=World.block_lt_of_cell? w _ (h.cell 0 (by omega))
theorem uU.kept {row:Option Nat}(h:uU w B cs)(hg:w.grownBy w' row)(hne:some B≠row):uU w' B cs :=
 ⟨fun i hi=>hg.cell (h.cell i hi) hne,fun i hi=>(World.frozen?_of_block (hg.block B h.lt hne)).trans (h.fz i hi)⟩
theorem uU.set (h:uU w B cs)(i:Nat)(hi:i<41)(v:Value):uU (w.setCell ⟨B,i,none⟩ v) B (dr cs i v):=by
 refine ⟨fun j hj=>?_,fun j hj=>by simpa using h.fz j hj⟩
 by_cases e:j=i
 ·subst e
  rw [fw];exact World.cell?_setCell_same _ _ _ (h.cell j hj)
 ·rw [bT cs v e,World.cell?_setCell_other _ _ _ _ (eG (fun e'=>e e'.symm))]
  exact h.cell j hj
structure Ai (w w':World)(P:Nat->Prop):Prop where
 os:w'.os=w.os
 tape:w'.tape=w.tape
 output:w'.output=w.output
 size:w.heap.size<=w'.heap.size
 block:∀ i,i<w.heap.size->¬ P i->w'.heap[i]?=w.heap[i]?
theorem Ai.of {row:Option Nat}(h:w.grownBy w' row)(hr:∀ i,row=some i->P i):Ai w w' P :=
 ⟨h.os,h.tape,h.output,h.size,fun i hi hp=>h.block i hi (fun e=>hp (hr i e.symm))⟩
theorem Ai.trans (h:Ai a b P)(k:Ai b c P):Ai a c P :=
 ⟨k.os.trans h.os,k.tape.trans h.tape,k.output.trans h.output,Nat.le_trans h.size k.size,fun i hi hp=>(k.block i (Nat.lt_of_lt_of_le hi h.size) hp).trans (h.block i hi hp)⟩
structure Fi (lt:TypeId)(q:Nat)(w w':World)(B:Nat)(cs:Nat->Value)(base k:Nat)(xs ys:List Value)(x y:Value)(sR sS:Value):Prop where
 box:uU w' B (dr (dr cs q sR) (q+1) sS)
 ob:w'.ownsRow base lt 1 sR (k+1) (xs++[x])
 ow:w'.ownsRow base lt 1 sS (k+1) (ys++[y])
 fr:Ai w w' (fun i=>i=B∨(cs q).ownBlock=some i∨(cs (q+1)).ownBlock=some i)
 nb:sR.ownBlock=(cs q).ownBlock∨∃ r,sR.ownBlock=some r/\w.heap.size<=r
 nw:sS.ownBlock=(cs (q+1)).ownBlock∨∃ r,sS.ownBlock=some r/\w.heap.size<=r
 two:∀ i,sR.ownBlock=some i->sS.ownBlock≠some i
theorem Fi.make {lt:TypeId}{q:Nat}{w1 w2 w3 w4:World}{ys:List Value}{o o':Obj}{g1 c1 g4 c4:Nat}(hq:q+1<41)
  (hB:B<w.heap.size) (how:w.ownsRow base lt 1 (cs (q+1)) k ys) (qF:(cs q).ownBlock≠some B) (qi:(cs (q+1)).ownBlock≠some B) (wL:∀ i,(cs q).ownBlock=some i->(cs (q+1)).ownBlock≠some i)
  (hG1:(w.alloc o).grownBy w1 (cs q).ownBlock) (dI:(cs q).ownBlock=some g1∨g1=w.heap.size+1) (iZ:g1<w1.heap.size) (afR:w1.grownBy w2 (some B)) (kK:w2.heap.size=w1.heap.size)
  (X2:uU w2 B (dr cs q (.slice (some ⟨g1,0,none⟩) (k+1) c1))) (P2:w2.ownsRow base lt 1 (.slice (some ⟨g1,0,none⟩) (k+1) c1) (k+1) (xs++[x]))
  (hg3:w2.drew.grownBy w3 none) (hs3:w2.heap.size<=w3.heap.size)
  (fS:w4.ownsRow base lt 1 (.slice (some ⟨g4,0,none⟩) (k+1) c4) (k+1) (ys++[y])) (hg4:(w3.alloc o').grownBy w4 (cs (q+1)).ownBlock) (jO:(cs (q+1)).ownBlock=some g4∨g4=w3.heap.size+1) :
  Fi lt q w (w4.setCell ⟨B,q+1,none⟩ (.slice (some ⟨g4,0,none⟩) (k+1) c4)) B cs base k xs ys x y (.slice (some ⟨g1,0,none⟩) (k+1) c1) (.slice (some ⟨g4,0,none⟩) (k+1) c4):=by
 have Oy:w.heap.size<w1.heap.size:=by have:=hG1.size;simp at this;omega
 have IK:w2.grownBy w2.drew none:=(Qt.refl w2).drew.grown none;have mX:∀ i,(cs (q+1)).ownBlock=some i->i<w.heap.size:=fun i e=>(how.lt i e).2
 have Xe:w2.grownBy (w3.alloc o') none:=gQ IK (gQ hg3 (World.grownBy_alloc _ _ none));have fu:=aA w4 B (q+1) (.slice (some ⟨g4,0,none⟩) (k+1) c4)
 have e1:some g1≠(cs (q+1)).ownBlock:=fun e=>by
  rcases dI with h | h
  ·exact wL g1 h e.symm
  ·have:=mX g1 e.symm;omega
 have e2:g1≠B:=fun e=>by
  rcases dI with h | h
  ·exact qF (by rw [h,e])
  ·omega
 have e4:g4≠B:=fun e=>by
  rcases jO with h | h
  ·exact qi (by rw [h,e])
  ·omega
 refine ⟨((X2.kept Xe (by simp)).kept hg4 (Ne.symm qi)).set (q+1) hq _,((P2.kept Xe (Or.inr (by simp [Value.ownBlock]))).kept hg4 (Or.inr e1)).kept fu (Or.inr (by simp [Value.ownBlock];exact e2)),fS.kept fu (Or.inr (by simp [Value.ownBlock];exact e4)),?_,?_,?_,?_⟩
 ·refine Ai.trans (Ai.of (World.grownBy_alloc w o none) (by simp)) (Ai.trans (Ai.of hG1 (fun i e=>Or.inr (Or.inl e))) (Ai.trans (Ai.of afR (fun i e=>Or.inl (Option.some.inj e).symm)) (Ai.trans (Ai.of Xe (by simp)) (Ai.trans (Ai.of hg4 (fun i e=>Or.inr (Or.inr e))) (Ai.of fu (fun i e=>Or.inl (Option.some.inj e).symm))))))
 ·rcases dI with h | h
  ·exact Or.inl h.symm
  ·exact Or.inr ⟨g1,rfl,by omega⟩
 ·rcases jO with h | h
  ·exact Or.inl h.symm
  ·exact Or.inr ⟨g4,rfl,by omega⟩
 ·intro i hi e
  have hi':g1=i:=Option.some.inj hi;have e':g4=i:=Option.some.inj e;subst hi';rcases jO with h | h
  ·exact e1 (by rw [h,e'])
  ·omega
def ja (base:Nat)(cs:Nat->Value)(d:Nat):Prop:=base<=d/\∀ q,q<42->(cs q).ownBlock≠some d
structure Kee (w w':World)(base:Nat)(cs cs':Nat->Value):Prop where
 size:w.heap.size<=w'.heap.size
 block:∀ d,d<w.heap.size->ja base cs d->w'.heap[d]?=w.heap[d]?/\ja base cs' d
structure pF (w w':World)(B base:Nat)(cs cs':Nat->Value):Prop extends Kee w w' base cs cs' where
 os:w'.os=w.os
 tape:w'.tape=w.tape
 output:w'.output=w.output
 low:∀ d,d<w.heap.size->d<base->d≠B->w'.heap[d]?=w.heap[d]?
 Si:cs' 41=cs 41/\∀ i,(cs 41).ownBlock=some i->i<w.heap.size->w'.heap[i]?=w.heap[i]?
theorem pF.of {B base:Nat}{cs:Nat->Value}(h:w.grownBy w' none):pF w w' B base cs cs :=
 ⟨⟨h.size,fun d hd hf=>⟨h.block d hd (by simp),hf⟩⟩,h.os,h.tape,h.output,fun d hd _ _=>h.block d hd (by simp),rfl,fun i _ hi=>h.block i hi (by simp)⟩
theorem pF.trans {abB:Nat->Value}(h:pF a b B base cs cs')(k:pF b c B base cs' abB):pF a c B base cs abB :=
 ⟨⟨Nat.le_trans h.size k.size,fun d hd hf=>by
  obtain ⟨h1,h2⟩:=h.block d hd hf;obtain ⟨k1,k2⟩:=k.block d (Nat.lt_of_lt_of_le hd h.size) h2;exact ⟨k1.trans h1,k2⟩⟩,k.os.trans h.os,k.tape.trans h.tape,k.output.trans h.output,fun d hd h1 h2=>(k.low d (Nat.lt_of_lt_of_le hd h.size) h1 h2).trans (h.low d hd h1 h2),k.Si.1.trans h.Si.1,fun i hi hl=>(k.Si.2 i (by rw [h.Si.1];exact hi) (Nat.lt_of_lt_of_le hl h.size)).trans (h.Si.2 i hi hl)⟩
theorem Kee.row {row:Option Nat}(hg:w.grownBy w' row)(hr:∀ i,row=some i->i<base):Kee w w' base cs cs :=
 ⟨hg.size,fun d hd hf=>⟨hg.block d hd (fun e=>by have:=hr d e.symm;have:=hf.1;omega),hf⟩⟩
theorem Kee.cell (h:Kee w w' base cs cs'){a:Addr}{u:Value}(hc:w.cell? a=some u)(hf:ja base cs a.block):w'.cell? a=some u :=
 (World.cell?_of_block (h.block a.block (World.block_lt_of_cell? w _ hc) hf).1).trans hc
theorem Kee.there {s:au}(h:Kee w w' base cs cs')(ht:s.fq w)(hf:ja base cs s.g):s.fq w':=by
 intro j hj;obtain ⟨⟨u,hu⟩,hz⟩:=ht j hj;exact ⟨⟨u,h.cell hu hf⟩,(World.frozen?_of_block (h.block s.g (World.block_lt_of_cell? w _ hu) hf).1).trans hz⟩
theorem pF.grown{w0:World}(h:pF w w' B base cs cs')(hg:w0.grownBy w none)(hB:w0.heap.size<=B)(hb:w0.heap.size<=base):w0.grownBy w' none :=
 ⟨h.os.trans hg.os,h.tape.trans hg.tape,h.output.trans hg.output,Nat.le_trans hg.size h.size,fun d hd _=>(h.low d (Nat.lt_of_lt_of_le hd hg.size) (by omega) (by omega)).trans (hg.block d hd (by simp))⟩
def mo (w:World)(t:TypeId)(g:Nat):Prop:=∃ cur fr,w.heap[g]?=some (.cells cur t fr)
theorem mo.lt (h:mo w t g):g<w.heap.size:=by
 obtain ⟨cur,fr,h⟩:=h;exact (Array.getElem?_eq_some_iff.1 h).1
theorem mo.cE (h:mo w t g)(k:Kee w w' base cs cs')(hf:ja base cs g):mo w' t g:=by
 have hl:=h.lt;obtain ⟨cur,fr,h⟩:=h;exact ⟨cur,fr,(k.block g hl hf).1.trans h⟩
theorem mo.ne {u:TypeId}(h:mo w t g)(k:mo w u d)(hne:t≠u):g≠d:=by
 rintro rfl;obtain ⟨c1,f1,h1⟩:=h;obtain ⟨c2,f2,h2⟩:=k;rw [h1] at h2;simp only [Option.some.injEq,Obj.cells.injEq] at h2;exact hne h2.2.1
theorem fM (h:w.ownsRow base t W v n xs)(d:Nat)(e:v.ownBlock=some d):mo w t d:=by
 rcases h.2 with ⟨rfl,_⟩ | ⟨g,cap,cur,rfl,_,hg,_⟩
 ·simp [Value.ownBlock] at e
 ·have e':g=d:=Option.some.inj e
  subst e';exact ⟨cur,_,hg⟩
theorem Oz {c:Nat}(h:ai w ao n c zs){ad:Addr}(e:ao=some ad)(h0:0<n):ad.block<w.heap.size:=by
 have hl:=h.len;have hc:=h.cells ad e 0 (.int .u8 (zs.getD 0 0)) (by rw [List.getElem?_map,List.getElem?_eq_getElem (by omega)];simp [List.getD,List.getElem?_eq_getElem (show 0<zs.length by omega)]);have:=World.block_lt_of_cell? w _ hc;have hb:(ad.add 0).block=ad.block:=by unfold Addr.add;split <;> rfl
 rw [hb] at this;exact this
structure Tb (w:World)(base:Nat)(cs:Nat->Value)(ao:Option Addr)(n c:Nat)(zs:List Int):Prop where
 OA:ai w ao n c zs
 fr:∀ ad,ao=some ad->0<n->ja base cs ad.block
theorem Tb.cE {c:Nat}(h:Tb w base cs ao n c zs)(k:Kee w w' base cs cs'):Tb w' base cs' ao n c zs:=by
 refine ⟨⟨h.OA.len,h.OA.nil,fun ad had j u hu=>?_⟩,fun ad had hn=>?_⟩
 ·have hj:j<zs.length:=by have:=(List.getElem?_eq_some_iff.1 hu).1;simpa using this
  refine k.cell (h.OA.cells ad had j u hu) ?_;have hb:(ad.add j).block=ad.block:=by unfold Addr.add;split <;> rfl
  rw [hb];exact h.fr ad had (by have:=h.OA.len;omega)
 ·exact (k.block ad.block (Oz h.OA had hn) (h.fr ad had hn)).2
structure Sj (K:eP)(w:World)(base:Nat)(cs:Nat->Value)(L:List au)(ys:List Value)(aM:World->Nat->(Nat->Value)->au->Value->Prop):Prop where
 ob:w.ownsRow base K.lt 1 (cs K.q) L.length (L.map au.v)
 ow:w.ownsRow base K.lt 1 (cs (K.q+1)) L.length ys
 ok:∀ s∈L,s.Ok K.W/\s.fq w/\s.n<=1099511620000/\mo w K.et s.g/\ja base cs s.g
 ap:L.Pairwise au.bR
 same:∀ (k:Nat) (s:au) (y:Value),L[k]?=some s->ys[k]?=some y->aM w base cs s y
structure Sl (w:World)(B base:Nat)(cs:Nat->Value):Prop where
 box:uU w B cs
 c0:cs 0=.int .i64 0
 c1:cs 1=.int .i64 0
 gn:∀ j,j<13->cs (3*j+4)=.slice none 0 0
 bB:B<base/\base<=w.heap.size
 un:∀ q p,q<42->p<42->q≠p->∀ i,(cs q).ownBlock=some i->(cs p).ownBlock≠some i
 bk:∀ q,q<42->∀ i,(cs q).ownBlock=some i->base<=i/\i<w.heap.size
theorem Sl.qj (h:Sl w B base cs)(q:Nat)(hq:q<42):(cs q).ownBlock≠some B:=fun e=>by
 have:=(h.bk q hq B e).1;have:=h.bB.1;omega
theorem Sl.new {B base:Nat}{cs:Nat->Value}(h:Sl w B base cs)(hd:w.heap.size<=d):ja base cs d :=
 ⟨by have:=h.bB.2;omega,fun q hq e=>by have:=(h.bk q hq d e).2;omega⟩
structure gU (kd:Nat->eP)(aM:Nat->World->Nat->(Nat->Value)->au->Value->Prop)(w:World)(B base:Nat)(cs:Nat->Value)(L:Nat->List au)(ys:Nat->List Value):Prop where
 t:Sl w B base cs
 k:∀ j,j<13->Sj (kd j) w base cs (L j) (ys j) (aM j)
structure Ku (kd:Nat->eP)(aM:Nat->World->Nat->(Nat->Value)->au->Value->Prop):Prop where
 q:∀ j,j<13->(kd j).q=3*j+2
 s:∀ j,j<13->∀ (w w':World) (base:Nat) (cs cs':Nat->Value),Kee w w' base cs cs'->∀ s y,aM j w base cs s y->aM j w' base cs' s y
theorem uV (h:w.ownsRow base t W v n xs)(hb:∀ i,v.ownBlock=some i->w'.heap[i]?=w.heap[i]?):w'.ownsRow base t W v n xs:=by
 refine ⟨h.1,?_⟩;rcases h.2 with h1 | ⟨g,cap,cur,e,h2,h3,h4⟩
 ·exact Or.inl h1
 ·exact Or.inr ⟨g,cap,cur,e,h2,(hb g (by rw [e];rfl)).trans h3,h4⟩
theorem Sj.cE {K:eP}{L:List au}{ys:List Value}{aM:World->Nat->(Nat->Value)->au->Value->Prop}(h:Sj K w base cs L ys aM)(k:Kee w w' base cs cs')(e1:cs' K.q=cs K.q)(e2:cs' (K.q+1)=cs (K.q+1))
  (hr:∀ i,((cs K.q).ownBlock=some i∨(cs (K.q+1)).ownBlock=some i)->w'.heap[i]?=w.heap[i]?) (hs:∀ s y,aM w base cs s y->aM w' base cs' s y):Sj K w' base cs' L ys aM:=by
 refine ⟨by rw [e1];exact uV h.ob (fun i hi=>hr i (Or.inl hi)),by rw [e2];exact uV h.ow (fun i hi=>hr i (Or.inr hi)),fun s hs'=>?_,h.ap,fun j s y h1 h2=>hs s y (h.same j s y h1 h2)⟩;obtain ⟨a1,a2,a3,a4,a5⟩:=h.ok s hs';exact ⟨a1,k.there a2 a5,a3,a4.cE k a5,(k.block s.g a4.lt a5).2⟩
theorem gU.row {kd:Nat->eP}{aM:Nat->World->Nat->(Nat->Value)->au->Value->Prop}{L:Nat->List au}(hK:Ku kd aM)(h:gU kd aM w B base cs L ys){row:Option Nat}(hg:w.grownBy w' row)(hr:∀ i,row=some i->i<base/\i≠B):gU kd aM w' B base cs L ys:=by
 have hsz:=hg.size;have k:Kee w w' base cs cs:=Kee.row hg (fun i e=>(hr i e).1);refine ⟨⟨h.t.box.kept hg (fun e=>(hr B e.symm).2 rfl),h.t.c0,h.t.c1,h.t.gn,⟨h.t.bB.1,by have:=h.t.bB.2;omega⟩,h.t.un,fun q hq i hi=>⟨(h.t.bk q hq i hi).1,by have:=(h.t.bk q hq i hi).2;omega⟩⟩,fun j hj=>(h.k j hj).cE k rfl rfl (fun i hi=>?_) (hK.s j hj _ _ _ _ _ k)⟩;have hq:=hK.q j hj
 have hi':base<=i/\i<w.heap.size:=by
  rcases hi with hi | hi
  ·exact h.t.bk _ (by omega) i hi
  ·exact h.t.bk _ (by omega) i hi
 exact hg.block i hi'.2 (fun e=>by have:=(hr i e.symm).1;omega)
theorem gU.ae {kd:Nat->eP}{aM:Nat->World->Nat->(Nat->Value)->au->Value->Prop}{B base:Nat}{cs:Nat->Value}{L:Nat->List au}(hK:Ku kd aM)(h:gU kd aM w B base cs L ys)(hg:w.grownBy w' none):gU kd aM w' B base cs L ys:=h.row hK hg (by simp)
theorem gU.lt {kd:Nat->eP}{aM:Nat->World->Nat->(Nat->Value)->au->Value->Prop}{L:Nat->List au}(h:gU kd aM w B base cs L ys)(hj:j<13){s:au}(hs:s∈L j):s.g<w.heap.size:=((h.k j hj).ok s hs).2.2.2.1.lt
theorem Fi.frame {lt:TypeId}{ys:List Value}(hp:Fi lt q w w' B cs base k xs ys x y sR sS)(h:Sl w B base cs)(jq:Nat)(hjq:jq<13)(hq:q=3*jq+2) :
  Sl w' B base (dr (dr cs q sR) (q+1) sS)/\pF w w' B base cs (dr (dr cs q sR) (q+1) sS)/\(∀ p,p<42->p≠q->p≠q+1->∀ i,(cs p).ownBlock=some i->w'.heap[i]?=w.heap[i]?):=by
 have hsz:=hp.fr.size;have far:∀ p,p≠q->p≠q+1->dr (dr cs q sR) (q+1) sS p=cs p:=fun p h1 h2=>by rw [bT _ _ h2,bT _ _ h1]
 have Yz:dr (dr cs q sR) (q+1) sS q=sR:=by rw [bT _ _ (by omega),fw]
 have YA:dr (dr cs q sR) (q+1) sS (q+1)=sS:=fw _ _ _
 have nbb:∀ i,sR.ownBlock=some i->(cs q).ownBlock=some i∨w.heap.size<=i:=fun i hi=>by
  rcases hp.nb with e | ⟨r,e,hr⟩
  ·exact Or.inl (by rw [<- e,hi])
  ·rw [e] at hi;have:=Option.some.inj hi;exact Or.inr (by omega)
 have nww:∀ i,sS.ownBlock=some i->(cs (q+1)).ownBlock=some i∨w.heap.size<=i:=fun i hi=>by
  rcases hp.nw with e | ⟨r,e,hr⟩
  ·exact Or.inl (by rw [<- e,hi])
  ·rw [e] at hi;have:=Option.some.inj hi;exact Or.inr (by omega)
 have src:∀ p,p<42->∀ i,(dr (dr cs q sR) (q+1) sS p).ownBlock=some i->(cs p).ownBlock=some i∨(w.heap.size<=i/\(p=q∨p=q+1)):=fun p _ i hi=>by
  by_cases e1:p=q
  ·subst e1;rw [Yz] at hi;rcases nbb i hi with h1 | h1;exact Or.inl h1;exact Or.inr ⟨h1,Or.inl rfl⟩
  ·by_cases e2:p=q+1
   ·subst e2;rw [YA] at hi;rcases nww i hi with h1 | h1;exact Or.inl h1;exact Or.inr ⟨h1,Or.inr rfl⟩
   ·rw [far p e1 e2] at hi;exact Or.inl hi
 have hb2:=h.bB;refine ⟨⟨hp.box,by rw [far 0 (by omega) (by omega)];exact h.c0,by rw [far 1 (by omega) (by omega)];exact h.c1,fun j hj=>by rw [far _ (by omega) (by omega)];exact h.gn j hj,⟨h.bB.1,by omega⟩,fun p r nh hr1 hpr i h1 h2=>?_,fun p nh i hi=>?_⟩,⟨⟨hsz,fun d hd hf=>⟨hp.fr.block d hd ?_,hf.1,fun p nh e=>?_⟩⟩,hp.fr.os,hp.fr.tape,hp.fr.output,fun d hd h1 h2=>hp.fr.block d hd ?_,far 41 (by omega) (by omega),fun i hi hl=>hp.fr.block i hl ?_⟩,fun p nh h1 h2 i hi=>hp.fr.block i (h.bk p nh i hi).2 ?_⟩
 ·rcases src p nh i h1 with a | ⟨a,ap⟩
  ·rcases src r hr1 i h2 with b | ⟨b,_⟩
   ·exact h.un p r nh hr1 hpr i a b
   ·have:=(h.bk p nh i a).2;omega
  ·rcases src r hr1 i h2 with b | ⟨b,br⟩
   ·have:=(h.bk r hr1 i b).2;omega
   ·rcases ap with rfl | rfl
    ·rcases br with rfl | rfl
     ·exact hpr rfl
     ·rw [Yz] at h1;rw [YA] at h2;exact hp.two i h1 h2
    ·rcases br with rfl | rfl
     ·rw [YA] at h1;rw [Yz] at h2;exact hp.two i h2 h1
     ·exact hpr rfl
 ·rcases src p nh i hi with a | ⟨a,ap⟩
  ·have:=h.bk p nh i a;omega
  ·refine ⟨by omega,?_⟩
   rcases ap with rfl | rfl
   ·rw [Yz] at hi;exact (hp.ob.lt i hi).2
   ·rw [YA] at hi;exact (hp.ow.lt i hi).2
 ·rintro (e | e | e)
  ·have:=hf.1;omega
  ·exact hf.2 q (by omega) e
  ·exact hf.2 (q+1) (by omega) e
 ·rcases src p nh d e with a | ⟨a,_⟩
  ·exact hf.2 p nh a
  ·omega
 ·rintro (e | e | e)
  ·exact h2 e
  ·have:=(h.bk q (by omega) d e).1;omega
  ·have:=(h.bk (q+1) (by omega) d e).1;omega
 ·rintro (e | e | e)
  ·subst e;exact h.qj 41 (by omega) hi
  ·exact h.un 41 q (by omega) (by omega) (by omega) i hi e
  ·exact h.un 41 (q+1) (by omega) (by omega) (by omega) i hi e
 ·rintro (e | e | e)
  ·subst e;exact h.qj p nh hi
  ·exact h.un p q nh (by omega) h1 i hi e
  ·exact h.un p (q+1) nh (by omega) h2 i hi e
theorem gU.uW {kd:Nat->eP}{aM:Nat->World->Nat->(Nat->Value)->au->Value->Prop}{L:Nat->List au}(hK:Ku kd aM)(h:gU kd aM w B base cs L ys)(hg:w.grownBy w' none)(D:Nat)(hD:w.heap.size<=D)(hD2:D<w'.heap.size):Kee w w' base cs (dr cs 41 (.slice (some ⟨D,0,none⟩) 0 0))/\gU kd aM w' B base (dr cs 41 (.slice (some ⟨D,0,none⟩) 0 0)) L ys:=by
 have far:∀ q,q≠41->dr cs 41 (.slice (some ⟨D,0,none⟩) 0 0) q=cs q:=fun q hq=>bT _ _ hq
 have Sm:(dr cs 41 (.slice (some ⟨D,0,none⟩) 0 0) 41).ownBlock=some D:=by rw [fw];rfl
 have hsz:=hg.size;have hB:=h.t.box.lt
 have k:Kee w w' base cs (dr cs 41 (.slice (some ⟨D,0,none⟩) 0 0)):=⟨hsz,fun d hd hf=>⟨hg.block d hd (by simp),hf.1,fun q hq e=>by
  by_cases e2:q=41
  ·subst e2;rw [Sm] at e;have:=Option.some.inj e;omega
  ·rw [far q e2] at e;exact hf.2 q hq e⟩⟩
 refine ⟨k,⟨⟨fun i hi=>by rw [far i (by omega)];exact (h.t.box.kept hg (by simp)).cell i hi,(h.t.box.kept hg (by simp)).fz⟩,by rw [far 0 (by omega)];exact h.t.c0,by rw [far 1 (by omega)];exact h.t.c1,fun j hj=>by rw [far _ (by omega)];exact h.t.gn j hj,⟨h.t.bB.1,by have:=h.t.bB.2;omega⟩,fun q p hq hp hqp i h1 h2=>?_,fun q hq i hi=>?_⟩,fun j hj=>?_⟩
 ·by_cases e1:q=41
  ·subst e1
   rw [Sm] at h1;have:=Option.some.inj h1;rw [far p (by omega)] at h2;have:=(h.t.bk p hp i h2).2;omega
  ·rw [far q e1] at h1
   by_cases e2:p=41
   ·subst e2
    rw [Sm] at h2;have:=Option.some.inj h2;have:=(h.t.bk q hq i h1).2;omega
   ·rw [far p e2] at h2
    exact h.t.un q p hq hp hqp i h1 h2
 ·by_cases e1:q=41
  ·subst e1
   rw [Sm] at hi;have:=Option.some.inj hi;have:=h.t.bB.2;omega
  ·rw [far q e1] at hi
   have:=h.t.bk q hq i hi;omega
 ·have hq:=hK.q j hj
  refine (h.k j hj).cE k (far _ (by omega)) (far _ (by omega)) (fun i hi=>?_) (hK.s j hj _ _ _ _ _ k);rcases hi with hi | hi
  ·exact hg.block i (h.t.bk _ (by omega) i hi).2 (by simp)
  ·exact hg.block i (h.t.bk _ (by omega) i hi).2 (by simp)
theorem Kee.off (hD:(cs 41).ownBlock=some D)(hg:w.grownBy w' (some D)):Kee w w' base cs cs :=
 ⟨hg.size,fun d hd hf=>⟨hg.block d hd (fun e=>hf.2 41 (by omega) (by rw [hD];exact e.symm)),hf⟩⟩
theorem gU.off {kd:Nat->eP}{aM:Nat->World->Nat->(Nat->Value)->au->Value->Prop}{L:Nat->List au}(hK:Ku kd aM)(h:gU kd aM w B base cs L ys)(hD:(cs 41).ownBlock=some D)(hg:w.grownBy w' (some D)):gU kd aM w' B base cs L ys:=by
 have k:Kee w w' base cs cs:=Kee.off hD hg;have hsz:=hg.size;refine ⟨⟨h.t.box.kept hg (fun e=>h.t.qj 41 (by omega) (by rw [hD];exact e.symm)),h.t.c0,h.t.c1,h.t.gn,⟨h.t.bB.1,by have:=h.t.bB.2;omega⟩,h.t.un,fun q hq i hi=>⟨(h.t.bk q hq i hi).1,by have:=(h.t.bk q hq i hi).2;omega⟩⟩,fun j hj=>(h.k j hj).cE k rfl rfl (fun i hi=>?_) (hK.s j hj _ _ _ _ _ k)⟩;have hq:=hK.q j hj;rcases hi with hi | hi
 ·exact hg.block i (h.t.bk _ (by omega) i hi).2 (fun e=>h.t.un _ 41 (by omega) (by omega) (by omega) i hi (by rw [hD];exact e.symm))
 ·exact hg.block i (h.t.bk _ (by omega) i hi).2 (fun e=>h.t.un _ 41 (by omega) (by omega) (by omega) i hi (by rw [hD];exact e.symm))
def bI (L:Nat->List au)(j:Nat)(D:List au):Nat->List au:=fun i=>if i=j then L j++D else L i
def CK (ys:Nat->List Value)(j:Nat)(D:List Value):Nat->List Value:=fun i=>if i=j then ys j++D else ys i
theorem cT (L:Nat->List au)(j:Nat)(D:List au):bI L j D j=L j++D:=by unfold bI;rw [if_pos rfl]
theorem aB (L:Nat->List au)(D:List au)(h:i≠j):bI L j D i=L i:=by unfold bI;rw [if_neg h]
theorem yZ (L:Nat->List au)(j:Nat)(D E:List au):bI (bI L j D) j E=bI L j (D++E):=by
 funext i
 unfold bI
 by_cases h:i=j
 ·simp [h]
 ·simp [h]
theorem Hj (L:Nat->List au)(j:Nat):bI L j []=L:=by
 funext i
 unfold bI
 by_cases h:i=j
 ·simp [h]
 ·simp [h]
theorem gU.snoc {kd:Nat->eP}{aM:Nat->World->Nat->(Nat->Value)->au->Value->Prop}{L:Nat->List au}(hK:Ku kd aM)(h:gU kd aM w B base cs L ys)(j q:Nat)(hj:j<13)(hq:q=(kd j).q)(hp:Fi (kd j).lt q w w' B cs base (L j).length ((L j).map au.v) (ys j) x y sR sS) :
  Sl w' B base (dr (dr cs q sR) (q+1) sS)/\pF w w' B base cs (dr (dr cs q sR) (q+1) sS) /\
  (∀ s:au,s.v=x->s.Ok (kd j).W->s.fq w'->s.n<=1099511620000->mo w' (kd j).et s.g->ja base (dr (dr cs q sR) (q+1) sS) s.g->(∀ t∈L j,t.bR s)->aM j w' base (dr (dr cs q sR) (q+1) sS) s y->gU kd aM w' B base (dr (dr cs q sR) (q+1) sS) (bI L j [s]) (CK ys j [y])):=by
 have IK:=hK.q j hj;obtain ⟨k1,k2,k3⟩:=hp.frame h.t j hj (by omega);refine ⟨k1,k2,fun s hv hok ht hn hty hf hap hsm=>⟨k1,fun i hi=>?_⟩⟩;have Yz:dr (dr cs q sR) (q+1) sS q=sR:=by rw [bT _ _ (by omega),fw]
 have YA:dr (dr cs q sR) (q+1) sS (q+1)=sS:=fw _ _ _
 by_cases e:i=j
 ·subst e
  have h0:=h.k i hi;have Uu:(ys i).length=(L i).length:=by have:=h0.ow.1;simpa using this
  rw [cT];have ey:CK ys i [y] i=ys i++[y]:=by unfold CK;rw [if_pos rfl]
  rw [ey];subst hq;refine ⟨?_,?_,fun t ht'=>?_,?_,fun m t z hm hz=>?_⟩
  ·rw [Yz,List.length_append,List.map_append,show ([s].map au.v)=[x] by simp [hv]]
   exact hp.ob
  ·rw [YA,List.length_append]
   exact hp.ow
  ·rcases List.mem_append.1 ht' with h1 | h1
   ·obtain ⟨a1,a2,a3,a4,a5⟩:=h0.ok t h1
    exact ⟨a1,k2.toKee.there a2 a5,a3,a4.cE k2.toKee a5,(k2.block t.g a4.lt a5).2⟩
   ·obtain rfl:=List.mem_singleton.1 h1
    exact ⟨hok,ht,hn,hty,hf⟩
  ·rw [List.pairwise_append]
   exact ⟨h0.ap,List.pairwise_singleton _ _,fun t ht1 u hu=>by obtain rfl:=List.mem_singleton.1 hu;exact hap t ht1⟩
  ·rcases Nat.lt_or_ge m (L i).length with hlt | hge
   ·rw [List.getElem?_append_left hlt] at hm
    rw [List.getElem?_append_left (by omega)] at hz;exact hK.s i hi _ _ _ _ _ k2.toKee t z (h0.same m t z hm hz)
   ·have Dm:m=(L i).length:=by
     have:=(List.getElem?_eq_some_iff.1 hm).1;rw [List.length_append] at this;simp at this;omega
    subst Dm;rw [List.getElem?_append_right (by omega)] at hm;rw [List.getElem?_append_right (by omega)] at hz;simp at hm;rw [Uu] at hz;simp at hz;subst hm hz;exact hsm
 ·rw [aB _ _ e]
  have ey:CK ys j [y] i=ys i:=by unfold CK;rw [if_neg e]
  rw [ey];have hqi:=hK.q i hi;refine (h.k i hi).cE k2.toKee (by rw [bT _ _ (by omega),bT _ _ (by omega)]) (by rw [bT _ _ (by omega),bT _ _ (by omega)]) (fun d hd=>?_) (hK.s i hi _ _ _ _ _ k2.toKee);rcases hd with hd | hd
  ·exact k3 _ (by omega) (by omega) (by omega) d hd
  ·exact k3 _ (by omega) (by omega) (by omega) d hd
def ql:Array Value:=#[.int .i64 0,.int .i64 0,.slice none 0 0,.slice none 0 0,.slice none 0 0,.slice none 0 0,.slice none 0 0,.slice none 0 0,.slice none 0 0,.slice none 0 0,.slice none 0 0,.slice none 0 0,.slice none 0 0,.slice none 0 0,.slice none 0 0,.slice none 0 0,.slice none 0 0,.slice none 0 0,.slice none 0 0,.slice none 0 0,.slice none 0 0,.slice none 0 0,.slice none 0 0,.slice none 0 0,.slice none 0 0,.slice none 0 0,.slice none 0 0,.slice none 0 0,.slice none 0 0,.slice none 0 0,.slice none 0 0,.slice none 0 0,.slice none 0 0,.slice none 0 0,.slice none 0 0,.slice none 0 0,.slice none 0 0,.slice none 0 0,.slice none 0 0,.slice none 0 0,.slice none 0 0]
theorem CL (w:World):(Instr.build 49 #[]).run Tryz.prog w=.ok (.agg ql) w:=run_build w 49 _ _ (by kernel_rfl)
theorem mY {ops:Array Oper}{rest:List Oper}{o:Oper}{a:Act}{Q:Exit->Act->World->Prop}(hgd:o.guard=none)(ho:o.op=.build 49 #[])
  (h:wpList Tryz.prog ops Q rest (a.put o.dst (.agg ql)) w):wpList Tryz.prog ops Q (o::rest) a w:=by
 refine wpList_plain hgd fun K hK=>?_
 have hrun:=CL w;unfold Oper.wp;simp only [execOp,ho,List.map_toArray,List.map_nil,Sem.run_bind,hrun,Sem.run_pure,Result.andThen_ok];exact hK _ _ h
def uX (i:Nat):Value:=if i<2 then .int .i64 0 else .slice none 0 0
theorem Kz (q:Nat):(uX q).ownBlock=none:=by unfold uX;split <;> rfl
theorem KA:∀ i,i<41->ql[i]?=some (uX i):=by
 intro i hi
 match i,hi with
 | 0,_=>rfl
 | 1,_=>rfl
 | 2,_=>rfl
 | 3,_=>rfl
 | 4,_=>rfl
 | 5,_=>rfl
 | 6,_=>rfl
 | 7,_=>rfl
 | 8,_=>rfl
 | 9,_=>rfl
 | 10,_=>rfl
 | 11,_=>rfl
 | 12,_=>rfl
 | 13,_=>rfl
 | 14,_=>rfl
 | 15,_=>rfl
 | 16,_=>rfl
 | 17,_=>rfl
 | 18,_=>rfl
 | 19,_=>rfl
 | 20,_=>rfl
 | 21,_=>rfl
 | 22,_=>rfl
 | 23,_=>rfl
 | 24,_=>rfl
 | 25,_=>rfl
 | 26,_=>rfl
 | 27,_=>rfl
 | 28,_=>rfl
 | 29,_=>rfl
 | 30,_=>rfl
 | 31,_=>rfl
 | 32,_=>rfl
 | 33,_=>rfl
 | 34,_=>rfl
 | 35,_=>rfl
 | 36,_=>rfl
 | 37,_=>rfl
 | 38,_=>rfl
 | 39,_=>rfl
 | 40,_=>rfl
 | n+41,h=>omega
theorem Sn (w:World):uU (w.alloc (.cells ql 49 (0,0))) w.heap.size uX :=
 ⟨fun i hi=>(cell_of_row _ w.heap.size i _ _ (0,0) (heap_alloc_new w _)).trans (KA i hi),fun i _=>frozen_of_row _ w.heap.size i _ _ (heap_alloc_new w _)⟩
theorem ze (h:2<=q):uX q=.slice none 0 0:=by unfold uX;rw [if_neg (by omega)]
theorem Sp {kd:Nat->eP}{aM:Nat->World->Nat->(Nat->Value)->au->Value->Prop}(hK:Ku kd aM)(hx:uU w B uX)(hb:B<base)(hb2:base<=w.heap.size):gU kd aM w B base uX (fun _=>[]) (fun _=>[]):=by
 have nn:∀ q i,(uX q).ownBlock≠some i:=fun q i e=>by rw [Kz] at e;cases e
 refine ⟨⟨hx,rfl,rfl,fun j hj=>ze (by omega),⟨hb,hb2⟩,fun q p _ _ _ i h=>absurd h (nn q i),fun q _ i h=>absurd h (nn q i)⟩,fun j hj=>⟨⟨rfl,Or.inl ⟨ze (by rw [hK.q j hj];omega),rfl⟩⟩,⟨rfl,Or.inl ⟨ze (by rw [hK.q j hj];omega),rfl⟩⟩,fun s hs=>absurd hs (by simp),List.Pairwise.nil,fun k s y h=>absurd h (by simp)⟩⟩
theorem oK {K:Nat->Kn}:∀ {i j:Nat},i<=j->aT K i<=aT K j
 | i,0,h=>by
  have e:i=0:=by omega
  rw [e];exact Nat.le_refl _
 | i,j+1,h=>by
  by_cases e:i=j+1
  ·subst e;exact Nat.le_refl _
  ·have:=oK (K:=K) (show i<=j by omega)
   show aT K i<=aT K j+(K j).n
   omega
theorem Gw.turn {K:Nat->Kn}{t:Nat}{S:Nat->Nat->Prop}(h:Gw B base K I 13 t w S):Gw B base K I 0 (t+1) w S :=
 ⟨h.inv,h.c0,h.sz,fun i hi=>by omega,fun i _ h2=>h.a i h2,h.sb,h.di⟩
structure Bc (w:World)(B:Nat):Prop where
 c0:w.cell? ⟨B,0,none⟩=some (.int .i64 0)
 c1:∃ u,w.cell? ⟨B,1,none⟩=some u
 f1:w.frozen? ⟨B,1,none⟩=false
theorem Bc.kept {row:Option Nat}(h:Bc w B)(hg:w.grownBy w' row)(hne:some B≠row):Bc w' B:=by
 obtain ⟨u,hu⟩:=h.c1;exact ⟨hg.cell h.c0 hne,⟨u,hg.cell hu hne⟩,(World.frozen?_of_block (hg.block B (World.block_lt_of_cell? w _ h.c0) hne)).trans h.f1⟩
theorem Bc.set (h:Bc w B)(v:Value):Bc (w.setCell ⟨B,1,none⟩ v) B:=by
 obtain ⟨u,hu⟩:=h.c1;exact ⟨by rw [World.cell?_setCell_other _ _ _ _ (eG (by decide))];exact h.c0,⟨v,World.cell?_setCell_same _ _ _ hu⟩,by simpa using h.f1⟩
theorem zg {K:Nat->Kn}(hK:∀ j,j<13->fU B base (K j) j)(w:World)(h:∀ j,j<13->(K j).Z w) :
  Calls Tryz.prog 39 #[.pointer (some ⟨B,0,none⟩)] w fun en w'=>en=.returned (.bool true)/\w.grownBy w' none/\∀ j,j<13->(K j).Z w':=by
 have HG:=hJ ((Qt.refl w).grown none);have HZ:=hJ h;have HK:=hJ hK;clear h hK;obtain ⟨w0,hw0⟩:∃ w0,w0=w:=⟨_,rfl⟩;have HG:Hid (w0.grownBy w none):=by rw [hw0];exact HG
 rw [<- hw0];have E0:Hid (w0=w):=hw0;clear hw0;rw [E0.out];go_enter Tryz.func39,Tryz.ntmps39
 go_wp2_with fail
 refine ((HK.out 0 (by omega)).bH _ (HZ.out 0 (by omega))).mono ?_;rintro en w1 ⟨rfl,hg⟩;have HG:=hJ (gQ HG.out hg);have HZ:Hid (∀ j,j<13->(K j).Z w1):=fun j hj=>(HK.out j hj).fX _ _ (HZ.out j hj) hg
 clear hg
 go_wp2_with fail
 refine ((HK.out 1 (by omega)).bH _ (HZ.out 1 (by omega))).mono ?_;rintro en w1 ⟨rfl,hg⟩;have HG:=hJ (gQ HG.out hg);have HZ:Hid (∀ j,j<13->(K j).Z w1):=fun j hj=>(HK.out j hj).fX _ _ (HZ.out j hj) hg
 clear hg
 go_wp2_with fail
 refine ((HK.out 2 (by omega)).bH _ (HZ.out 2 (by omega))).mono ?_;rintro en w1 ⟨rfl,hg⟩;have HG:=hJ (gQ HG.out hg);have HZ:Hid (∀ j,j<13->(K j).Z w1):=fun j hj=>(HK.out j hj).fX _ _ (HZ.out j hj) hg
 clear hg
 go_wp2_with fail
 refine ((HK.out 3 (by omega)).bH _ (HZ.out 3 (by omega))).mono ?_;rintro en w1 ⟨rfl,hg⟩;have HG:=hJ (gQ HG.out hg);have HZ:Hid (∀ j,j<13->(K j).Z w1):=fun j hj=>(HK.out j hj).fX _ _ (HZ.out j hj) hg
 clear hg
 go_wp2_with fail
 refine ((HK.out 4 (by omega)).bH _ (HZ.out 4 (by omega))).mono ?_;rintro en w1 ⟨rfl,hg⟩;have HG:=hJ (gQ HG.out hg);have HZ:Hid (∀ j,j<13->(K j).Z w1):=fun j hj=>(HK.out j hj).fX _ _ (HZ.out j hj) hg
 clear hg
 go_wp2_with fail
 refine ((HK.out 5 (by omega)).bH _ (HZ.out 5 (by omega))).mono ?_;rintro en w1 ⟨rfl,hg⟩;have HG:=hJ (gQ HG.out hg);have HZ:Hid (∀ j,j<13->(K j).Z w1):=fun j hj=>(HK.out j hj).fX _ _ (HZ.out j hj) hg
 clear hg
 go_wp2_with fail
 refine ((HK.out 6 (by omega)).bH _ (HZ.out 6 (by omega))).mono ?_;rintro en w1 ⟨rfl,hg⟩;have HG:=hJ (gQ HG.out hg);have HZ:Hid (∀ j,j<13->(K j).Z w1):=fun j hj=>(HK.out j hj).fX _ _ (HZ.out j hj) hg
 clear hg
 go_wp2_with fail
 refine ((HK.out 7 (by omega)).bH _ (HZ.out 7 (by omega))).mono ?_;rintro en w1 ⟨rfl,hg⟩;have HG:=hJ (gQ HG.out hg);have HZ:Hid (∀ j,j<13->(K j).Z w1):=fun j hj=>(HK.out j hj).fX _ _ (HZ.out j hj) hg
 clear hg
 go_wp2_with fail
 refine ((HK.out 8 (by omega)).bH _ (HZ.out 8 (by omega))).mono ?_;rintro en w1 ⟨rfl,hg⟩;have HG:=hJ (gQ HG.out hg);have HZ:Hid (∀ j,j<13->(K j).Z w1):=fun j hj=>(HK.out j hj).fX _ _ (HZ.out j hj) hg
 clear hg
 go_wp2_with fail
 refine ((HK.out 9 (by omega)).bH _ (HZ.out 9 (by omega))).mono ?_;rintro en w1 ⟨rfl,hg⟩;have HG:=hJ (gQ HG.out hg);have HZ:Hid (∀ j,j<13->(K j).Z w1):=fun j hj=>(HK.out j hj).fX _ _ (HZ.out j hj) hg
 clear hg
 go_wp2_with fail
 refine ((HK.out 10 (by omega)).bH _ (HZ.out 10 (by omega))).mono ?_;rintro en w1 ⟨rfl,hg⟩;have HG:=hJ (gQ HG.out hg);have HZ:Hid (∀ j,j<13->(K j).Z w1):=fun j hj=>(HK.out j hj).fX _ _ (HZ.out j hj) hg
 clear hg
 go_wp2_with fail
 refine ((HK.out 11 (by omega)).bH _ (HZ.out 11 (by omega))).mono ?_;rintro en w1 ⟨rfl,hg⟩;have HG:=hJ (gQ HG.out hg);have HZ:Hid (∀ j,j<13->(K j).Z w1):=fun j hj=>(HK.out j hj).fX _ _ (HZ.out j hj) hg
 clear hg
 go_wp2_with fail
 refine ((HK.out 12 (by omega)).bH _ (HZ.out 12 (by omega))).mono ?_;rintro en w1 ⟨rfl,hg⟩;have HG:=hJ (gQ HG.out hg);have HZ:Hid (∀ j,j<13->(K j).Z w1):=fun j hj=>(HK.out j hj).fX _ _ (HZ.out j hj) hg
 clear hg;go_wp2;go_ret;exact ⟨rfl,by rw [<- E0.out];exact HG.out,HZ.out⟩
theorem CM {K:Nat->Kn}(hK:∀ j,j<13->fU B base (K j) j)(hX:xI K)(hI:∀ v v' row,I v->v.grownBy v' row->(∀ i,row=some i->∃ j,j<13/\(K j).own i)->I v')(hn:aT K 13<=1000000)(p:Int)(hp:0<=p/\p<=1)(w:World){S:Nat->Nat->Prop}(h:Ws B base K I 0 p w S)(c0:w.cell? ⟨B,0,none⟩=some (.int .i64 0)) :
  Calls Tryz.prog 40 #[.pointer (some ⟨B,0,none⟩)] w fun en w'=>en=.returned (.tuple #[])/\∃ S,Ws B base K I 13 p w' S:=by
 have HK:=hJ hK;have HX:=hJ hX;have HI:=hJ hI;have HW:=hJ h;have hle:∀ j,j<=13->aT K j<=1000000:=fun j hj=>Nat.le_trans (oK hj) hn
 have HL:=hJ hle;clear h hK hX hI hle hn;go_enter Tryz.func40,Tryz.ntmps40
 go_wp2_with fail
 refine (cD HK.out HX.out HI.out 0 (by omega) p hp _ _ rfl (HL.out 0 (by omega)) HW.out).mono ?_;clear HW;rintro en w1 ⟨rfl,S1,cB⟩;have HW:=hJ cB;clear cB;clear c0
 go_wp2_with fail
 refine (cD HK.out HX.out HI.out 1 (by omega) p hp _ _ rfl (HL.out 1 (by omega)) HW.out).mono ?_;clear HW;rintro en w1 ⟨rfl,S1,cB⟩;have HW:=hJ cB;clear cB
 go_wp2_with fail
 refine (cD HK.out HX.out HI.out 2 (by omega) p hp _ _ rfl (HL.out 2 (by omega)) HW.out).mono ?_;clear HW;rintro en w1 ⟨rfl,S1,cB⟩;have HW:=hJ cB;clear cB
 go_wp2_with fail
 refine (cD HK.out HX.out HI.out 3 (by omega) p hp _ _ rfl (HL.out 3 (by omega)) HW.out).mono ?_;clear HW;rintro en w1 ⟨rfl,S1,cB⟩;have HW:=hJ cB;clear cB
 go_wp2_with fail
 refine (cD HK.out HX.out HI.out 4 (by omega) p hp _ _ rfl (HL.out 4 (by omega)) HW.out).mono ?_;clear HW;rintro en w1 ⟨rfl,S1,cB⟩;have HW:=hJ cB;clear cB
 go_wp2_with fail
 refine (cD HK.out HX.out HI.out 5 (by omega) p hp _ _ rfl (HL.out 5 (by omega)) HW.out).mono ?_;clear HW;rintro en w1 ⟨rfl,S1,cB⟩;have HW:=hJ cB;clear cB
 go_wp2_with fail
 refine (cD HK.out HX.out HI.out 6 (by omega) p hp _ _ rfl (HL.out 6 (by omega)) HW.out).mono ?_;clear HW;rintro en w1 ⟨rfl,S1,cB⟩;have HW:=hJ cB;clear cB
 go_wp2_with fail
 refine (cD HK.out HX.out HI.out 7 (by omega) p hp _ _ rfl (HL.out 7 (by omega)) HW.out).mono ?_;clear HW;rintro en w1 ⟨rfl,S1,cB⟩;have HW:=hJ cB;clear cB
 go_wp2_with fail
 refine (cD HK.out HX.out HI.out 8 (by omega) p hp _ _ rfl (HL.out 8 (by omega)) HW.out).mono ?_;clear HW;rintro en w1 ⟨rfl,S1,cB⟩;have HW:=hJ cB;clear cB
 go_wp2_with fail
 refine (cD HK.out HX.out HI.out 9 (by omega) p hp _ _ rfl (HL.out 9 (by omega)) HW.out).mono ?_;clear HW;rintro en w1 ⟨rfl,S1,cB⟩;have HW:=hJ cB;clear cB
 go_wp2_with fail
 refine (cD HK.out HX.out HI.out 10 (by omega) p hp _ _ rfl (HL.out 10 (by omega)) HW.out).mono ?_;clear HW;rintro en w1 ⟨rfl,S1,cB⟩;have HW:=hJ cB;clear cB
 go_wp2_with fail
 refine (cD HK.out HX.out HI.out 11 (by omega) p hp _ _ rfl (HL.out 11 (by omega)) HW.out).mono ?_;clear HW;rintro en w1 ⟨rfl,S1,cB⟩;have HW:=hJ cB;clear cB
 go_wp2_with fail
 refine (cD HK.out HX.out HI.out 12 (by omega) p hp _ _ rfl (HL.out 12 (by omega)) HW.out).mono ?_;clear HW;rintro en w1 ⟨rfl,S1,cB⟩;have HW:=hJ cB;clear cB;go_wp2;refine Go.Great.bodyPost_end0 rfl rfl ?_;exact ⟨rfl,_,HW.out⟩
theorem CO {K:Nat->Kn}(hK:∀ j,j<13->fU B base (K j) j)(hn:aT K 13<=1000000)(S:Nat->Nat->Prop)(p:Int)(hp:0<=p/\p<=1)(w:World)(h:∀ j,j<13->(K j).M (S j) p (aT K j) w)(c0:w.cell? ⟨B,0,none⟩=some (.int .i64 0)) :
  Calls Tryz.prog 41 #[.pointer (some ⟨B,0,none⟩)] w fun en w'=>en=.returned (.bool true)/\w.grownBy w' none:=by
 have HZ:=hJ h;have HK:=hJ hK;have hle:∀ j,j<=13->aT K j<=1000000:=fun j hj=>Nat.le_trans (oK hj) hn
 have HL:=hJ hle;clear h hK hle hn;obtain ⟨w0,hw0⟩:∃ w0,w0=w:=⟨_,rfl⟩;have HG:Hid (w0.grownBy w none):=by rw [hw0];exact (Qt.refl w).grown none
 have E0:Hid (w0=w):=hw0;clear hw0;go_enter Tryz.func41,Tryz.ntmps41
 go_wp2_with fail
 refine ((HK.out 0 (by omega)).hold (S 0) p (aT K 0) _ _ hp rfl (HL.out 0 (by omega)) (HZ.out 0 (by omega))).mono ?_;rintro en w1 ⟨rfl,hg⟩;have HG:=hJ (gQ HG.out hg);have HZ:Hid (∀ j,j<13->(K j).M (S j) p (aT K j) w1):=fun j hj=>(HK.out j hj).fB _ _ _ _ _ _ (HZ.out j hj) hg (by simp)
 clear hg;clear c0
 go_wp2_with fail
 refine ((HK.out 1 (by omega)).hold (S 1) p (aT K 1) _ _ hp rfl (HL.out 1 (by omega)) (HZ.out 1 (by omega))).mono ?_;rintro en w1 ⟨rfl,hg⟩;have HG:=hJ (gQ HG.out hg);have HZ:Hid (∀ j,j<13->(K j).M (S j) p (aT K j) w1):=fun j hj=>(HK.out j hj).fB _ _ _ _ _ _ (HZ.out j hj) hg (by simp)
 clear hg
 go_wp2_with fail
 refine ((HK.out 2 (by omega)).hold (S 2) p (aT K 2) _ _ hp rfl (HL.out 2 (by omega)) (HZ.out 2 (by omega))).mono ?_;rintro en w1 ⟨rfl,hg⟩;have HG:=hJ (gQ HG.out hg);have HZ:Hid (∀ j,j<13->(K j).M (S j) p (aT K j) w1):=fun j hj=>(HK.out j hj).fB _ _ _ _ _ _ (HZ.out j hj) hg (by simp)
 clear hg
 go_wp2_with fail
 refine ((HK.out 3 (by omega)).hold (S 3) p (aT K 3) _ _ hp rfl (HL.out 3 (by omega)) (HZ.out 3 (by omega))).mono ?_;rintro en w1 ⟨rfl,hg⟩;have HG:=hJ (gQ HG.out hg);have HZ:Hid (∀ j,j<13->(K j).M (S j) p (aT K j) w1):=fun j hj=>(HK.out j hj).fB _ _ _ _ _ _ (HZ.out j hj) hg (by simp)
 clear hg
 go_wp2_with fail
 refine ((HK.out 4 (by omega)).hold (S 4) p (aT K 4) _ _ hp rfl (HL.out 4 (by omega)) (HZ.out 4 (by omega))).mono ?_;rintro en w1 ⟨rfl,hg⟩;have HG:=hJ (gQ HG.out hg);have HZ:Hid (∀ j,j<13->(K j).M (S j) p (aT K j) w1):=fun j hj=>(HK.out j hj).fB _ _ _ _ _ _ (HZ.out j hj) hg (by simp)
 clear hg
 go_wp2_with fail
 refine ((HK.out 5 (by omega)).hold (S 5) p (aT K 5) _ _ hp rfl (HL.out 5 (by omega)) (HZ.out 5 (by omega))).mono ?_;rintro en w1 ⟨rfl,hg⟩;have HG:=hJ (gQ HG.out hg);have HZ:Hid (∀ j,j<13->(K j).M (S j) p (aT K j) w1):=fun j hj=>(HK.out j hj).fB _ _ _ _ _ _ (HZ.out j hj) hg (by simp)
 clear hg
 go_wp2_with fail
 refine ((HK.out 6 (by omega)).hold (S 6) p (aT K 6) _ _ hp rfl (HL.out 6 (by omega)) (HZ.out 6 (by omega))).mono ?_;rintro en w1 ⟨rfl,hg⟩;have HG:=hJ (gQ HG.out hg);have HZ:Hid (∀ j,j<13->(K j).M (S j) p (aT K j) w1):=fun j hj=>(HK.out j hj).fB _ _ _ _ _ _ (HZ.out j hj) hg (by simp)
 clear hg
 go_wp2_with fail
 refine ((HK.out 7 (by omega)).hold (S 7) p (aT K 7) _ _ hp rfl (HL.out 7 (by omega)) (HZ.out 7 (by omega))).mono ?_;rintro en w1 ⟨rfl,hg⟩;have HG:=hJ (gQ HG.out hg);have HZ:Hid (∀ j,j<13->(K j).M (S j) p (aT K j) w1):=fun j hj=>(HK.out j hj).fB _ _ _ _ _ _ (HZ.out j hj) hg (by simp)
 clear hg
 go_wp2_with fail
 refine ((HK.out 8 (by omega)).hold (S 8) p (aT K 8) _ _ hp rfl (HL.out 8 (by omega)) (HZ.out 8 (by omega))).mono ?_;rintro en w1 ⟨rfl,hg⟩;have HG:=hJ (gQ HG.out hg);have HZ:Hid (∀ j,j<13->(K j).M (S j) p (aT K j) w1):=fun j hj=>(HK.out j hj).fB _ _ _ _ _ _ (HZ.out j hj) hg (by simp)
 clear hg
 go_wp2_with fail
 refine ((HK.out 9 (by omega)).hold (S 9) p (aT K 9) _ _ hp rfl (HL.out 9 (by omega)) (HZ.out 9 (by omega))).mono ?_;rintro en w1 ⟨rfl,hg⟩;have HG:=hJ (gQ HG.out hg);have HZ:Hid (∀ j,j<13->(K j).M (S j) p (aT K j) w1):=fun j hj=>(HK.out j hj).fB _ _ _ _ _ _ (HZ.out j hj) hg (by simp)
 clear hg
 go_wp2_with fail
 refine ((HK.out 10 (by omega)).hold (S 10) p (aT K 10) _ _ hp rfl (HL.out 10 (by omega)) (HZ.out 10 (by omega))).mono ?_;rintro en w1 ⟨rfl,hg⟩;have HG:=hJ (gQ HG.out hg);have HZ:Hid (∀ j,j<13->(K j).M (S j) p (aT K j) w1):=fun j hj=>(HK.out j hj).fB _ _ _ _ _ _ (HZ.out j hj) hg (by simp)
 clear hg
 go_wp2_with fail
 refine ((HK.out 11 (by omega)).hold (S 11) p (aT K 11) _ _ hp rfl (HL.out 11 (by omega)) (HZ.out 11 (by omega))).mono ?_;rintro en w1 ⟨rfl,hg⟩;have HG:=hJ (gQ HG.out hg);have HZ:Hid (∀ j,j<13->(K j).M (S j) p (aT K j) w1):=fun j hj=>(HK.out j hj).fB _ _ _ _ _ _ (HZ.out j hj) hg (by simp)
 clear hg
 go_wp2_with fail
 refine ((HK.out 12 (by omega)).hold (S 12) p (aT K 12) _ _ hp rfl (HL.out 12 (by omega)) (HZ.out 12 (by omega))).mono ?_;rintro en w1 ⟨rfl,hg⟩;have HG:=hJ (gQ HG.out hg);have HZ:Hid (∀ j,j<13->(K j).M (S j) p (aT K j) w1):=fun j hj=>(HK.out j hj).fB _ _ _ _ _ _ (HZ.out j hj) hg (by simp)
 clear hg;go_wp2;go_ret;exact ⟨rfl,by rw [<- E0.out];exact HG.out⟩
theorem KB {K:Nat->Kn}(hK:∀ j,j<13->fU B base (K j) j)(hn:aT K 13<=1000000)(S:Nat->Nat->Prop)(w:World)(h:∀ j,j<13->(K j).G (S j) 70 (aT K j) w)(c0:w.cell? ⟨B,0,none⟩=some (.int .i64 0)) :
  Calls Tryz.prog 41 #[.pointer (some ⟨B,0,none⟩)] w fun en w'=>en=.returned (.bool true)/\w.grownBy w' none:=by
 have HZ:=hJ h;have HK:=hJ hK;have hle:∀ j,j<=13->aT K j<=1000000:=fun j hj=>Nat.le_trans (oK hj) hn
 have HL:=hJ hle;clear h hK hle hn;obtain ⟨w0,hw0⟩:∃ w0,w0=w:=⟨_,rfl⟩;have HG:Hid (w0.grownBy w none):=by rw [hw0];exact (Qt.refl w).grown none
 have E0:Hid (w0=w):=hw0;clear hw0;go_enter Tryz.func41,Tryz.ntmps41
 go_wp2_with fail
 refine ((HK.out 0 (by omega)).fW (S 0) (aT K 0) _ _ rfl (HL.out 0 (by omega)) (HZ.out 0 (by omega))).mono ?_;rintro en w1 ⟨rfl,hg⟩;have HG:=hJ (gQ HG.out hg);have HZ:Hid (∀ j,j<13->(K j).G (S j) 70 (aT K j) w1):=fun j hj=>(HK.out j hj).fC _ _ _ _ _ _ (HZ.out j hj) hg (by simp)
 clear hg;clear c0
 go_wp2_with fail
 refine ((HK.out 1 (by omega)).fW (S 1) (aT K 1) _ _ rfl (HL.out 1 (by omega)) (HZ.out 1 (by omega))).mono ?_;rintro en w1 ⟨rfl,hg⟩;have HG:=hJ (gQ HG.out hg);have HZ:Hid (∀ j,j<13->(K j).G (S j) 70 (aT K j) w1):=fun j hj=>(HK.out j hj).fC _ _ _ _ _ _ (HZ.out j hj) hg (by simp)
 clear hg
 go_wp2_with fail
 refine ((HK.out 2 (by omega)).fW (S 2) (aT K 2) _ _ rfl (HL.out 2 (by omega)) (HZ.out 2 (by omega))).mono ?_;rintro en w1 ⟨rfl,hg⟩;have HG:=hJ (gQ HG.out hg);have HZ:Hid (∀ j,j<13->(K j).G (S j) 70 (aT K j) w1):=fun j hj=>(HK.out j hj).fC _ _ _ _ _ _ (HZ.out j hj) hg (by simp)
 clear hg
 go_wp2_with fail
 refine ((HK.out 3 (by omega)).fW (S 3) (aT K 3) _ _ rfl (HL.out 3 (by omega)) (HZ.out 3 (by omega))).mono ?_;rintro en w1 ⟨rfl,hg⟩;have HG:=hJ (gQ HG.out hg);have HZ:Hid (∀ j,j<13->(K j).G (S j) 70 (aT K j) w1):=fun j hj=>(HK.out j hj).fC _ _ _ _ _ _ (HZ.out j hj) hg (by simp)
 clear hg
 go_wp2_with fail
 refine ((HK.out 4 (by omega)).fW (S 4) (aT K 4) _ _ rfl (HL.out 4 (by omega)) (HZ.out 4 (by omega))).mono ?_;rintro en w1 ⟨rfl,hg⟩;have HG:=hJ (gQ HG.out hg);have HZ:Hid (∀ j,j<13->(K j).G (S j) 70 (aT K j) w1):=fun j hj=>(HK.out j hj).fC _ _ _ _ _ _ (HZ.out j hj) hg (by simp)
 clear hg
 go_wp2_with fail
 refine ((HK.out 5 (by omega)).fW (S 5) (aT K 5) _ _ rfl (HL.out 5 (by omega)) (HZ.out 5 (by omega))).mono ?_;rintro en w1 ⟨rfl,hg⟩;have HG:=hJ (gQ HG.out hg);have HZ:Hid (∀ j,j<13->(K j).G (S j) 70 (aT K j) w1):=fun j hj=>(HK.out j hj).fC _ _ _ _ _ _ (HZ.out j hj) hg (by simp)
 clear hg
 go_wp2_with fail
 refine ((HK.out 6 (by omega)).fW (S 6) (aT K 6) _ _ rfl (HL.out 6 (by omega)) (HZ.out 6 (by omega))).mono ?_;rintro en w1 ⟨rfl,hg⟩;have HG:=hJ (gQ HG.out hg);have HZ:Hid (∀ j,j<13->(K j).G (S j) 70 (aT K j) w1):=fun j hj=>(HK.out j hj).fC _ _ _ _ _ _ (HZ.out j hj) hg (by simp)
 clear hg
 go_wp2_with fail
 refine ((HK.out 7 (by omega)).fW (S 7) (aT K 7) _ _ rfl (HL.out 7 (by omega)) (HZ.out 7 (by omega))).mono ?_;rintro en w1 ⟨rfl,hg⟩;have HG:=hJ (gQ HG.out hg);have HZ:Hid (∀ j,j<13->(K j).G (S j) 70 (aT K j) w1):=fun j hj=>(HK.out j hj).fC _ _ _ _ _ _ (HZ.out j hj) hg (by simp)
 clear hg
 go_wp2_with fail
 refine ((HK.out 8 (by omega)).fW (S 8) (aT K 8) _ _ rfl (HL.out 8 (by omega)) (HZ.out 8 (by omega))).mono ?_;rintro en w1 ⟨rfl,hg⟩;have HG:=hJ (gQ HG.out hg);have HZ:Hid (∀ j,j<13->(K j).G (S j) 70 (aT K j) w1):=fun j hj=>(HK.out j hj).fC _ _ _ _ _ _ (HZ.out j hj) hg (by simp)
 clear hg
 go_wp2_with fail
 refine ((HK.out 9 (by omega)).fW (S 9) (aT K 9) _ _ rfl (HL.out 9 (by omega)) (HZ.out 9 (by omega))).mono ?_;rintro en w1 ⟨rfl,hg⟩;have HG:=hJ (gQ HG.out hg);have HZ:Hid (∀ j,j<13->(K j).G (S j) 70 (aT K j) w1):=fun j hj=>(HK.out j hj).fC _ _ _ _ _ _ (HZ.out j hj) hg (by simp)
 clear hg
 go_wp2_with fail
 refine ((HK.out 10 (by omega)).fW (S 10) (aT K 10) _ _ rfl (HL.out 10 (by omega)) (HZ.out 10 (by omega))).mono ?_;rintro en w1 ⟨rfl,hg⟩;have HG:=hJ (gQ HG.out hg);have HZ:Hid (∀ j,j<13->(K j).G (S j) 70 (aT K j) w1):=fun j hj=>(HK.out j hj).fC _ _ _ _ _ _ (HZ.out j hj) hg (by simp)
 clear hg
 go_wp2_with fail
 refine ((HK.out 11 (by omega)).fW (S 11) (aT K 11) _ _ rfl (HL.out 11 (by omega)) (HZ.out 11 (by omega))).mono ?_;rintro en w1 ⟨rfl,hg⟩;have HG:=hJ (gQ HG.out hg);have HZ:Hid (∀ j,j<13->(K j).G (S j) 70 (aT K j) w1):=fun j hj=>(HK.out j hj).fC _ _ _ _ _ _ (HZ.out j hj) hg (by simp)
 clear hg
 go_wp2_with fail
 refine ((HK.out 12 (by omega)).fW (S 12) (aT K 12) _ _ rfl (HL.out 12 (by omega)) (HZ.out 12 (by omega))).mono ?_;rintro en w1 ⟨rfl,hg⟩;have HG:=hJ (gQ HG.out hg);have HZ:Hid (∀ j,j<13->(K j).G (S j) 70 (aT K j) w1):=fun j hj=>(HK.out j hj).fC _ _ _ _ _ _ (HZ.out j hj) hg (by simp)
 clear hg;go_wp2;go_ret;exact ⟨rfl,by rw [<- E0.out];exact HG.out⟩
theorem Sq {K:Nat->Kn}(qZ:B<base)(hK:∀ j,j<13->fU B base (K j) j)(hX:xI K)(hI:∀ v v' row,I v->v.grownBy v' row->(∀ i,row=some i->(∃ j,j<13/\(K j).own i)∨base<=i)->I v')(pE:∀ v i u,I v->I (v.setCell ⟨B,i,none⟩ u))(hn:aT K 13<=1000000)(w:World){S:Nat->Nat->Prop}(h:Gw B base K I 0 0 w S) :
  Calls Tryz.prog 42 #[.pointer (some ⟨B,0,none⟩)] w fun en w'=>en=.returned (.tuple #[])/\∃ S,Gw B base K I 0 70 w' S:=by
 have HK:=hJ hK;have HX:=hJ hX;have HI:=hJ hI;have jp:=hJ pE;have HW:Hid (∃ S,Gw B base K I 0 0 w S):=⟨S,h⟩;have hle:∀ j,j<=13->aT K j<=1000000:=fun j hj=>Nat.le_trans (oK hj) hn
 have HL:=hJ hle;clear h hK hX hI pE hle hn;go_enter Tryz.func42,Tryz.ntmps42;go_wp2;go_loopw [2] (fun st wr=>∃ t:Nat,t<=70/\st=.int .i64 t/\∃ S,Gw B base K I 0 t wr S) (fun st _=>70 - (intOf st).toNat)
 case atStart=>exact ⟨0,by omega,rfl,HW.out⟩
 case round =>
  obtain ⟨t,ht,rfl,S,hw⟩:=hrel;have HW:=hJ hw;have k0:=hw.c0;clear hw
  by_cases hlt:t<70
  ·go_wp2_with fail
   refine (dH qZ HK.out HX.out HI.out jp.out 0 (by omega) t hlt _ _ _ rfl rfl (HL.out 0 (by omega)) HW.out).mono ?_;clear HW;rintro en w1 ⟨rfl,S1,cB⟩;have HW:=hJ cB;clear cB;clear k0
   go_wp2_with fail
   refine (dH qZ HK.out HX.out HI.out jp.out 1 (by omega) t hlt _ _ _ rfl rfl (HL.out 1 (by omega)) HW.out).mono ?_;clear HW;rintro en w1 ⟨rfl,S1,cB⟩;have HW:=hJ cB;clear cB
   go_wp2_with fail
   refine (dH qZ HK.out HX.out HI.out jp.out 2 (by omega) t hlt _ _ _ rfl rfl (HL.out 2 (by omega)) HW.out).mono ?_;clear HW;rintro en w1 ⟨rfl,S1,cB⟩;have HW:=hJ cB;clear cB
   go_wp2_with fail
   refine (dH qZ HK.out HX.out HI.out jp.out 3 (by omega) t hlt _ _ _ rfl rfl (HL.out 3 (by omega)) HW.out).mono ?_;clear HW;rintro en w1 ⟨rfl,S1,cB⟩;have HW:=hJ cB;clear cB
   go_wp2_with fail
   refine (dH qZ HK.out HX.out HI.out jp.out 4 (by omega) t hlt _ _ _ rfl rfl (HL.out 4 (by omega)) HW.out).mono ?_;clear HW;rintro en w1 ⟨rfl,S1,cB⟩;have HW:=hJ cB;clear cB
   go_wp2_with fail
   refine (dH qZ HK.out HX.out HI.out jp.out 5 (by omega) t hlt _ _ _ rfl rfl (HL.out 5 (by omega)) HW.out).mono ?_;clear HW;rintro en w1 ⟨rfl,S1,cB⟩;have HW:=hJ cB;clear cB
   go_wp2_with fail
   refine (dH qZ HK.out HX.out HI.out jp.out 6 (by omega) t hlt _ _ _ rfl rfl (HL.out 6 (by omega)) HW.out).mono ?_;clear HW;rintro en w1 ⟨rfl,S1,cB⟩;have HW:=hJ cB;clear cB
   go_wp2_with fail
   refine (dH qZ HK.out HX.out HI.out jp.out 7 (by omega) t hlt _ _ _ rfl rfl (HL.out 7 (by omega)) HW.out).mono ?_;clear HW;rintro en w1 ⟨rfl,S1,cB⟩;have HW:=hJ cB;clear cB
   go_wp2_with fail
   refine (dH qZ HK.out HX.out HI.out jp.out 8 (by omega) t hlt _ _ _ rfl rfl (HL.out 8 (by omega)) HW.out).mono ?_;clear HW;rintro en w1 ⟨rfl,S1,cB⟩;have HW:=hJ cB;clear cB
   go_wp2_with fail
   refine (dH qZ HK.out HX.out HI.out jp.out 9 (by omega) t hlt _ _ _ rfl rfl (HL.out 9 (by omega)) HW.out).mono ?_;clear HW;rintro en w1 ⟨rfl,S1,cB⟩;have HW:=hJ cB;clear cB
   go_wp2_with fail
   refine (dH qZ HK.out HX.out HI.out jp.out 10 (by omega) t hlt _ _ _ rfl rfl (HL.out 10 (by omega)) HW.out).mono ?_;clear HW;rintro en w1 ⟨rfl,S1,cB⟩;have HW:=hJ cB;clear cB
   go_wp2_with fail
   refine (dH qZ HK.out HX.out HI.out jp.out 11 (by omega) t hlt _ _ _ rfl rfl (HL.out 11 (by omega)) HW.out).mono ?_;clear HW;rintro en w1 ⟨rfl,S1,cB⟩;have HW:=hJ cB;clear cB
   go_wp2_with fail
   refine (dH qZ HK.out HX.out HI.out jp.out 12 (by omega) t hlt _ _ _ rfl rfl (HL.out 12 (by omega)) HW.out).mono ?_;clear HW;rintro en w1 ⟨rfl,S1,cB⟩;have HW:=hJ cB;clear cB;go_wp2;go_roundw
   case rel=>exact ⟨t+1,by omega,by go_num,_,HW.out.turn⟩
   case measure=>simp [intOf];omega
  ·have abC:t=70:=by omega
   have HT:=hJ abC;clear abC;go_wp2;refine Go.Great.bodyPost_end0 rfl rfl ?_;have e:=HT.out;subst e;exact ⟨rfl,_,HW.out⟩
theorem KC {K:Nat->Kn}{I:World->Prop}(qZ:B<base)(hK:∀ j,j<13->fU B base (K j) j)(hX:xI K)(hI:∀ v v' row,I v->v.grownBy v' row->(∀ i,row=some i->(∃ j,j<13/\(K j).own i)∨base<=i)->I v')(pE:∀ v i u,I v->I (v.setCell ⟨B,i,none⟩ u))(hn:aT K 13<=1000000)(w:World)(hb:base<=w.heap.size)(hz:∀ j,j<13->(K j).Z w)(c0:w.cell? ⟨B,0,none⟩=some (.int .i64 0))(c1:w.cell? ⟨B,1,none⟩=some (.int .i64 0))(f1:w.frozen? ⟨B,1,none⟩=false)(hi:I w) :
  Calls Tryz.prog 16 #[.pointer (some ⟨B,0,none⟩)] w fun en w'=>en=.returned (.bool true)/\I w':=by
 have PY:∀ v v' row,(I v/\Bc v B)->v.grownBy v' row->(∀ i,row=some i->∃ j,j<13/\(K j).own i)->(I v'/\Bc v' B):=fun v v' row h hg hr =>
  ⟨hI v v' row h.1 hg (fun i e=>Or.inl (hr i e)),h.2.kept hg (fun e=>by obtain ⟨j,hj,ho⟩:=hr B e.symm;exact (hK j hj).nB B ((hK j hj).sub B ho) rfl)⟩
 have HQ:Hid (∀ v v',v.grownBy v' none->I v->I v'):=fun v v' g h=>hI v v' none h g (by simp)
 have HK:=hJ hK;have HX:=hJ hX;have HI:=hJ hI;have HI1:=hJ PY;have jp:=hJ pE;have HZ:=hJ hz;have H0:=hJ hi;have HC:Hid (Bc w B):=⟨c0,⟨_,c1⟩,f1⟩;clear hK hX hI pE hz hi PY c0 c1 f1;go_enter Tryz.func16,Tryz.ntmps16
 go_wp2_with fail
 refine (zg HK.out w HZ.out).mono ?_;rintro en w1 ⟨rfl,hg1,hz1⟩;have W1:Hid (Ws B base K (fun v=>I v/\Bc v B) 0 0 w1 (fun _ _=>False)):=⟨⟨HQ.out _ _ hg1 H0.out,HC.out.kept hg1 (by simp)⟩,Nat.le_trans hb hg1.size,fun i hi=>by omega,fun i _ h2=>(HK.out i h2).zt _ (hz1 i h2),fun i hi=>by omega,fun i i' hi=>by omega⟩;clear hg1 hz1 HZ H0 HC
 go_wp2_with fail
 refine (CM HK.out HX.out HI1.out hn 0 (by omega) w1 W1.out W1.out.inv.2.c0).mono ?_;clear W1;rintro en w2 ⟨rfl,S2,hw2⟩;have W2:=hJ hw2;clear hw2
 go_wp2_with fail
 refine (CO HK.out hn S2 0 (by omega) w2 (fun j hj=>W2.out.m j hj) W2.out.inv.2.c0).mono ?_;rintro en w3 ⟨rfl,hg3⟩;have W3:=hJ (W2.out.ae HK.out (Nat.le_refl _) hg3 ⟨HQ.out _ _ hg3 W2.out.inv.1,W2.out.inv.2.kept hg3 (by simp)⟩);clear hg3 W2;obtain ⟨u1,k1⟩:=W3.out.inv.2.c1;have f1:=W3.out.inv.2.f1;have W4:Hid (Ws B base K (fun v=>I v/\Bc v B) 0 1 (w3.setCell ⟨B,1,none⟩ (.int .i64 1)) (fun _ _=>False)):=⟨⟨jp.out _ 1 _ W3.out.inv.1,W3.out.inv.2.set _⟩,by have:=W3.out.sz;simpa using this,fun i hi=>by omega,fun i _ h2=>(HK.out i h2).Hi _ _ _ ((HK.out i h2).mt _ _ _ _ (W3.out.m i h2)),fun i hi=>by omega,fun i i' hi=>by omega⟩;clear W3
 go_wp2_with fail
 refine (CM HK.out HX.out HI1.out hn 1 (by omega) _ W4.out W4.out.inv.2.c0).mono ?_;clear W4 k1 f1;rintro en w5 ⟨rfl,S5,Bd⟩;have W5:=hJ Bd;clear Bd
 go_wp2_with fail
 refine (CO HK.out hn S5 1 (by omega) w5 (fun j hj=>W5.out.m j hj) W5.out.inv.2.c0).mono ?_;rintro en w6 ⟨rfl,bE⟩;have W6:=hJ (W5.out.ae HK.out (Nat.le_refl _) bE ⟨HQ.out _ _ bE W5.out.inv.1,W5.out.inv.2.kept bE (by simp)⟩);have G6:Hid (Gw B base K I 0 0 w6 S5):=⟨W6.out.inv.1,W6.out.inv.2.c0,W6.out.sz,fun i hi=>by omega,fun i _ h2=>(HK.out i h2).mg _ _ _ (W6.out.m i h2) W6.out.sz (W6.out.sb i h2),fun i h2=>W6.out.sb i h2,fun i i' h2 h3=>W6.out.di i i' h2 h3⟩;clear bE W5 W6
 go_wp2_with fail
 refine (Sq qZ HK.out HX.out HI.out jp.out hn w6 G6.out).mono ?_;clear G6;rintro en w7 ⟨rfl,S7,LH⟩;have W7:=hJ LH;clear LH
 go_wp2_with fail
 refine (KB HK.out hn S7 w7 (fun j hj=>W7.out.b j (Nat.zero_le _) hj) W7.out.c0).mono ?_;rintro en w8 ⟨rfl,bU⟩;have I8:=hJ (HQ.out _ _ bU W7.out.inv);clear bU W7;go_wp2;go_ret;exact ⟨rfl,I8.out⟩
end Go.Proofs.YtgldkdbkaachkaaGreatDoor
