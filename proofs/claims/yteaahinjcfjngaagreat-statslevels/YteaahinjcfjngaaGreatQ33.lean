import Derived.Test.YteaahinjcfjngaaGreatQ32
import Derived.Test.YteaahinjcfjngaaGreatQ23
namespace Go.Proofs.YteaahinjcfjngaaGreat
open Go.RowKit
theorem NmT.num {w:World}{a:Option Addr}{n c:Nat}{zs:List Int}(h:NmT w a n c zs):zs.length=n:=by
 have:=h.len;simpa using this
structure FrX (S:TypeId->Bool)(w w':World):Prop where
 keep:∀ (b:Nat) (t:TypeId) (cur:Array Value) (z:Nat × Nat),S t=false->w.heap[b]?=some (Obj.cells cur t z)->w'.heap[b]?=some (Obj.cells cur t z)
theorem FrX.refl (S:TypeId->Bool)(w:World):FrX S w w:=⟨fun _ _ _ _ _ h=>h⟩
theorem FrX.trans {S:TypeId->Bool}{a b c:World}(h:FrX S a b)(k:FrX S b c):FrX S a c:=⟨fun b t cur z ht e=>k.keep b t cur z ht (h.keep b t cur z ht e)⟩
theorem FrX.of {S:TypeId->Bool}{w w':World}(hg:w.grownBy w' none):FrX S w w':=⟨fun b t cur z _ e=>by
 rw [hg.block b (Array.getElem?_eq_some_iff.1 e).1 (by simp)];exact e⟩
theorem FrX.row {S:TypeId->Bool}{w0 w w':World}{row:Option Nat}(h:FrX S w0 w)(hg:w.grownBy w' row)(hr:∀ g,row=some g->w0.heap.size<=g∨∃ t,TgT w g t/\S t=true):FrX S w0 w':=⟨fun b t cur z ht e=>by
 have e2:=h.keep b t cur z ht e;have hlt:=(Array.getElem?_eq_some_iff.1 e).1
 have hne:some b≠row:=fun e3=>by
  rcases hr b e3.symm with k | ⟨t',⟨cur',z',k1⟩,k2⟩
  ·omega
  ·rw [e2] at k1
   simp only [Option.some.injEq,Obj.cells.injEq] at k1;rw [<- k1.2.1,ht] at k2;cases k2
 rw [hg.block b (Array.getElem?_eq_some_iff.1 e2).1 hne];exact e2⟩
theorem FrX.tg {S:TypeId->Bool}{w w':World}(h:FrX S w w'){b:Nat}{t:TypeId}(ht:S t=false)(k:TgT w b t):TgT w' b t:=by
 obtain ⟨cur,z,e⟩:=k;exact ⟨cur,z,h.keep b t cur z ht e⟩
theorem FrX.cell {S:TypeId->Bool}{w w':World}(h:FrX S w w'){b i:Nat}{t:TypeId}{v:Value}(ht:S t=false)(k:TgT w b t)(hc:w.cell? ⟨b,i,none⟩=some v):w'.cell? ⟨b,i,none⟩=some v:=by
 obtain ⟨cur,z,e⟩:=k;rw [<- hc];exact World.cell?_of_block (by show w'.heap[b]?=w.heap[b]?;rw [h.keep b t cur z ht e,e])
theorem BtyT.keptX {S:TypeId->Bool}{w w':World}{ao:Option Addr}{n c:Nat}{s:List Int}(h:BtyT w ao n c s)(h8:S 5=false)(hg:FrX S w w'):BtyT w' ao n c s:=by
 refine ⟨⟨h.b.len,h.b.nil,fun ad had j u hu=>?_⟩,fun ad h1 h2=>hg.tg h8 (h.t ad h1 h2),h.l1,h.l2⟩;have hj:j<s.length:=by have:=(List.getElem?_eq_some_iff.1 hu).1;simpa using this
 have hl:=h.b.len;have h1:=h.b.cells ad had j u hu;obtain ⟨b,off,rfl,_,_⟩:=h.b.at (by omega);cases had;rw [Addr.add_lit] at h1 ⊢;exact hg.cell (t:=5) h8 (h.t _ rfl (by omega)) h1
def gatT:(n:Nat)->NdT n->List Int
 | 0,x=>nzT [LfT.no x]++(LfT.ps x).flatMap fun p=>nzT p.chain
 | n+1,x=>nzT [BnT.no (T:=NdT n) x]++(BnT.row (T:=NdT n) x).ns.flatMap (gatT n)
structure NqT (n:Nat)(x:NdT n):Prop where
 no:NvT NoQ n x
 ch:∀ p∈flatT n x,∀ z∈p.chain,NoQ z
def gatO:Option TrT->List Int
 | none=>[]
 | some t=>gatT t.lv t.root
def NqO:Option TrT->Prop
 | none=>True
 | some t=>NqT t.lv t.root
end Go.Proofs.YteaahinjcfjngaaGreat
