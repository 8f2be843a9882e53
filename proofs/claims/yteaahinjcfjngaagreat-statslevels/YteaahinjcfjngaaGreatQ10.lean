import Derived.Test.YteaahinjcfjngaaGreatQ9
import Derived.Laws.AppendOwnNone
namespace Go.Proofs.YteaahinjcfjngaaGreat
open Go.RowKit
theorem Byt.heap {w w':World}{ao:Option Addr}{n cap:Nat}{zs:List Int}(h:Byt w ao n cap zs)(e:w'.heap=w.heap):Byt w' ao n cap zs :=
 ⟨h.len,h.nil,fun ad had j u hu=>(World.cell?_of_block (by rw [e])).trans (h.cells ad had j u hu)⟩
theorem owns_shape {w:World}{base n:Nat}{v:Value}{xs:List Value}(h:w.ownsRow base 5 1 v n xs)(hn:0<n) :
  ∃ g cap,v=.slice (some ⟨g,0,none⟩) n cap/\base<=g/\g<w.heap.size/\n<=cap:=by
 rcases h.2 with ⟨_,h0⟩ | ⟨g,cap,cur,hv,hb,hg,hc,_⟩
 ·omega
 ·exact ⟨g,cap,hv,hb,(Array.getElem?_eq_some_iff.1 hg).1,hc⟩
theorem hZq {p:Prop}(h:p):Hid p:=h
theorem grown_cell (w:World)(g j:Nat)(v:Value):w.grownBy (w.setCell ⟨g,j,none⟩ v) (some g) :=
 ⟨rfl,rfl,rfl,by simp,fun k _ hk=>heap_setCell_other w ⟨g,j,none⟩ k _ (fun e=>hk (by simp [e]))⟩
end Go.Proofs.YteaahinjcfjngaaGreat
