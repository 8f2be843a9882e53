import Derived.Test.YteaahinjcfjngaaGreatQ32
import Derived.Test.YteaahinjcfjngaaGreatQ23
namespace Go.Proofs.YteaahinjcfjngaaGreat
open Go.RowKit
theorem NmT.num {w:World}{a:Option Addr}{n c:Nat}{zs:List Int}(h:NmT w a n c zs):zs.length=n:=by
 have:=h.len;simpa using this
def frO:Option TrT->Nat
 | none=>0
 | some t=>frT t.lv t.root
def ScN (t:TypeId):Bool:=ScT t || t==30
structure FrX (S:TypeId->Bool)(w w':World):Prop where
 keep:∀ (b:Nat) (t:TypeId) (cur:Array Value) (z:Nat × Nat),S t=false->w.heap[b]?=some (Obj.cells cur t z)->w'.heap[b]?=some (Obj.cells cur t z)
abbrev FrN (w w':World):Prop:=FrX ScN w w'
theorem FrX.refl (S:TypeId->Bool)(w:World):FrX S w w:=⟨fun _ _ _ _ _ h=>h⟩
theorem FrX.trans {S:TypeId->Bool}{a b c:World}(h:FrX S a b)(k:FrX S b c):FrX S a c:=⟨fun b t cur z ht e=>k.keep b t cur z ht (h.keep b t cur z ht e)⟩
theorem FrX.of {S:TypeId->Bool}{w w':World}(hg:w.grownBy w' none):FrX S w w':=⟨fun b t cur z _ e=>by
 rw [hg.block b (Array.getElem?_eq_some_iff.1 e).1 (by simp)];exact e⟩
theorem FrX.row {S:TypeId->Bool}{w0 w w':World}{row:Option Nat}(h:FrX S w0 w)(hg:w.grownBy w' row)(hr:∀ g,row=some g->w0.heap.size<=g∨∃ t,TgT w g t/\S t=true):FrX S w0 w':=⟨fun b t cur z ht e=>by
 have e2:=h.keep b t cur z ht e;have hlt:=(Array.getElem?_eq_some_iff.1 e).1
 have hne:some b≠row:=fun e3=>by
  rcases hr b e3.symm with k | ⟨t',⟨cur',z',k1⟩,k2⟩
  ·omega
  ·rw [e2] at k1
   simp only [Option.some.injEq,Obj.cells.injEq] at k1;rw [<- k1.2.1,ht] at k2;cases k2
 rw [hg.block b (Array.getElem?_eq_some_iff.1 e2).1 hne];exact e2⟩
theorem FrN.box {w w':World}{q:Nat}{cs:Array Value}{y:Nat × Nat}(hq:w.heap[q]?=some (.cells cs 30 y))(hg:w.grownBy w' (some q)):FrN w w':=(FrX.refl ScN w).row hg (fun g e=>.inr ⟨30,by cases e;exact ⟨_,_,hq⟩,by decide⟩)
theorem FrX.tg {S:TypeId->Bool}{w w':World}(h:FrX S w w'){b:Nat}{t:TypeId}(ht:S t=false)(k:TgT w b t):TgT w' b t:=by
 obtain ⟨cur,z,e⟩:=k;exact ⟨cur,z,h.keep b t cur z ht e⟩
theorem FrX.cell {S:TypeId->Bool}{w w':World}(h:FrX S w w'){b i:Nat}{t:TypeId}{v:Value}(ht:S t=false)(k:TgT w b t)(hc:w.cell? ⟨b,i,none⟩=some v):w'.cell? ⟨b,i,none⟩=some v:=by
 obtain ⟨cur,z,e⟩:=k;rw [<- hc];exact World.cell?_of_block (by show w'.heap[b]?=w.heap[b]?;rw [h.keep b t cur z ht e,e])
theorem EsT.keptX {S:TypeId->Bool}{w w':World}{t:TypeId}{a:Option Addr}{n c k:Nat}{es:List (List Value)}(h:EsT w t a n c k es)(ht:S t=false)(hg:FrX S w w'):EsT w' t a n c k es :=
 ⟨h.len,h.cap,h.c2,h.nil,h.pl,h.sz,h.one,fun i e he=>by
  obtain ⟨b,off,h1,h2,h3⟩:=h.cell i e he;exact ⟨b,off,h1,hg.tg ht h2,fun f v hv=>hg.cell ht h2 (h3 f v hv)⟩⟩
theorem SlT.monoX {T:Type}{S:TypeId->Bool}{w w':World}{t:TypeId}{k:Nat}{I J:List Value->T->Prop}{a:Option Addr}{n c:Nat}{L:List T}(h:SlT w t k I a n c L)(ht:S t=false)(hg:FrX S w w')(hI:∀ e x,I e x->J e x):SlT w' t k J a n c L:=by
 obtain ⟨es,h1,h2⟩:=h.ex;exact ⟨es,h1.keptX ht hg,h2.mono hI⟩
theorem BtyT.keptX {S:TypeId->Bool}{w w':World}{ao:Option Addr}{n c:Nat}{s:List Int}(h:BtyT w ao n c s)(h8:S 5=false)(hg:FrX S w w'):BtyT w' ao n c s:=by
 refine ⟨⟨h.b.len,h.b.nil,fun ad had j u hu=>?_⟩,fun ad h1 h2=>hg.tg h8 (h.t ad h1 h2),h.l1,h.l2⟩;have hj:j<s.length:=by have:=(List.getElem?_eq_some_iff.1 hu).1;simpa using this
 have hl:=h.b.len;have h1:=h.b.cells ad had j u hu;obtain ⟨b,off,rfl,_,_⟩:=h.b.at (by omega);cases had;rw [Addr.add_lit] at h1 ⊢;exact hg.cell (t:=5) h8 (h.t _ rfl (by omega)) h1
theorem IbT.keptX {w w':World}{e:List Value}{s:List Int}(h:IbT w e s)(hg:FrN w w'):IbT w' e s:=by
 obtain ⟨ao,n,c,h1,h2⟩:=h;exact ⟨ao,n,c,h1,h2.keptX (by decide) hg⟩
theorem IpxT.keptX {S:TypeId->Bool}{w w':World}{ka:Option Addr}{kn kc:Nat}{va:Option Addr}{vn vc:Nat}{ca:Option Addr}{cn cc:Nat}{p:PrT}(h:IpxT w ka kn kc va vn vc ca cn cc p)(h8:S 5=false)(hi:S 3=false)(hg:FrX S w w'):IpxT w' ka kn kc va vn vc ca cn cc p :=
 ⟨h.k.keptX h8 hg,h.v.keptX h8 hg,EsT.keptX h.c hi hg,h.z⟩
theorem IpT.keptX {S:TypeId->Bool}{w w':World}{e:List Value}{p:PrT}(h:IpT w e p)(h8:S 5=false)(hi:S 3=false)(hg:FrX S w w'):IpT w' e p:=by
 obtain ⟨ka,kn,kc,va,vn,vc,ca,cn,cc,h1,h2⟩:=h;exact ⟨ka,kn,kc,va,vn,vc,ca,cn,cc,h1,h2.keptX h8 hi hg⟩
theorem PsT.keptX {w w':World}{a:Option Addr}{n c:Nat}{L:List PrT}(h:PsT w a n c L)(hg:FrN w w'):PsT w' a n c L:=SlT.monoX h (by decide) hg (fun _ _ k=>k.keptX (by decide) (by decide) hg)
theorem SsT.keptX {w w':World}{a:Option Addr}{n c:Nat}{L:List (List Int)}(h:SsT w a n c L)(hg:FrN w w'):SsT w' a n c L:=SlT.monoX h (by decide) hg (fun _ _ k=>k.keptX hg)
theorem NodeT.keptX:∀ (n:Nat) {w w':World} {v:Value} {x:NdT n},NodeT n w v x->FrN w w'->NodeT n w' v x
 | 0,w,w',v,x,h,hg=>by
  obtain ⟨b,a,m,c,h1,h2,h3⟩:=h;exact ⟨b,a,m,c,h1,hg.keep _ _ _ _ (by decide) h2,h3.keptX hg⟩
 | n+1,w,w',v,x,h,hg=>by
  obtain ⟨b,a,m,c,sa,sm,sc,h1,h2,h3,h4⟩:=h;exact ⟨b,a,m,c,sa,sm,sc,h1,hg.keep _ _ _ _ (by decide) h2,h3.monoX (by decide) hg (fun _ _ ⟨u,k1,k2⟩=>⟨u,k1,NodeT.keptX n k2 hg⟩),h4.keptX hg⟩
theorem InT.keptX {n:Nat}{w w':World}{e:List Value}{x:NdT n}(h:InT n w e x)(hg:FrN w w'):InT n w' e x:=by
 obtain ⟨u,h1,h2⟩:=h;exact ⟨u,h1,NodeT.keptX n h2 hg⟩
theorem NsT.keptX {n:Nat}{w w':World}{a:Option Addr}{m c:Nat}{L:List (NdT n)}(h:NsT n w a m c L)(hg:FrN w w'):NsT n w' a m c L:=SlT.monoX h (by decide) hg (fun _ _ k=>k.keptX hg)
structure NxL (w0 w:World)(q:Nat)(l:List Int):Prop where
 bx:∃ v,w0.heap[q]?=some (.cells #[v] 30 (0,0))
 gr:w0.grownBy w (some q)
 ex:∃ a n c,w.heap[q]?=some (.cells #[.slice a n c] 30 (0,0))/\NmT w0 a n c l
theorem NxL.kept {w0 w w':World}{q:Nat}{l:List Int}{row:Option Nat}(h:NxL w0 w q l)(hg:w.grownBy w' row)(hr:∀ g,row=some g->w0.heap.size<=g):NxL w0 w' q l:=by
 obtain ⟨⟨v,hv⟩,gr,a,n,c,h1,h2⟩:=h;have hql:=(Array.getElem?_eq_some_iff.1 hv).1;have hne:some q≠row:=fun e=>by have:=hr q e.symm;omega
 refine ⟨⟨v,hv⟩,?_,a,n,c,?_,h2⟩
 ·cases row with
  | none=>exact gZq gr (grown_any hg)
  | some g=>exact grown_newR gr hg (hr g rfl)
 ·rw [hg.block q (Array.getElem?_eq_some_iff.1 h1).1 hne]
  exact h1
theorem NxL.fr {w0 w w':World}{q:Nat}{l:List Int}(h:NxL w0 w q l)(hg:w.grownBy w' (some q)):FrN w w':=by
 obtain ⟨_,_,a,n,c,h1,h2⟩:=h;exact FrN.box h1 hg
theorem NxL.tg {w0 w:World}{q:Nat}{l:List Int}(h:NxL w0 w q l):TgT w q 30:=by
 obtain ⟨_,_,a,n,c,h1,h2⟩:=h;exact ⟨_,_,h1⟩
theorem NxL.lt {w0 w:World}{q:Nat}{l:List Int}(h:NxL w0 w q l):q<w0.heap.size/\w0.heap.size<=w.heap.size:=by
 obtain ⟨⟨v,hv⟩,gr,_⟩:=h;exact ⟨(Array.getElem?_eq_some_iff.1 hv).1,gr.size⟩
def gatT:(n:Nat)->NdT n->List Int
 | 0,x=>nzT [LfT.no x]++(LfT.ps x).flatMap fun p=>nzT p.chain
 | n+1,x=>nzT [BnT.no (T:=NdT n) x]++(BnT.row (T:=NdT n) x).ns.flatMap (gatT n)
structure NqT (n:Nat)(x:NdT n):Prop where
 no:NvT NoQ n x
 ch:∀ p∈flatT n x,∀ z∈p.chain,NoQ z
theorem NqT.kid {n:Nat}{x:NdT (n+1)}(h:NqT (n+1) x){y:NdT n}(hy:y∈(BnT.row (T:=NdT n) x).ns):NqT n y:=⟨h.no.2 y hy,fun p hp=>h.ch p (List.mem_flatMap.2 ⟨y,hy,hp⟩)⟩
def gatO:Option TrT->List Int
 | none=>[]
 | some t=>gatT t.lv t.root
def NqO:Option TrT->Prop
 | none=>True
 | some t=>NqT t.lv t.root
def RisN (l:List Int):Prop:=l.Pairwise (·<·)
end Go.Proofs.YteaahinjcfjngaaGreat
