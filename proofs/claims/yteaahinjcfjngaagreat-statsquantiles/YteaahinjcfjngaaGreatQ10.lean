import Derived.Test.YteaahinjcfjngaaGreatQ9
import Derived.Laws.AppendOwnNone
namespace Go.Proofs.YteaahinjcfjngaaGreat
open Go.RowKit
theorem Byt.heap {w w':World}{ao:Option Addr}{n cap:Nat}{zs:List Int}(h:Byt w ao n cap zs)(e:w'.heap=w.heap):Byt w' ao n cap zs :=
 ⟨h.len,h.nil,fun ad had j u hu=>(World.cell?_of_block (by rw [e])).trans (h.cells ad had j u hu)⟩
theorem owns_shape {w:World}{base n:Nat}{v:Value}{xs:List Value}(h:w.ownsRow base 5 1 v n xs)(hn:0<n) :
  ∃ g cap,v=.slice (some ⟨g,0,none⟩) n cap/\base<=g/\g<w.heap.size/\n<=cap:=by
 rcases h.2 with ⟨_,h0⟩ | ⟨g,cap,cur,hv,hb,hg,hc,_⟩
 ·omega
 ·exact ⟨g,cap,hv,hb,(Array.getElem?_eq_some_iff.1 hg).1,hc⟩
theorem owns_any {w:World}{base n:Nat}{v:Value}{zs:List Int}(h:w.ownsRow base 5 1 v n (zs.map (Value.int .u8))) :
  ∃ ao cap,v=.slice ao n cap/\Byt w ao n cap zs:=by
 rcases h.2 with ⟨rfl,rfl⟩ | ⟨g,cap,cur,rfl,_⟩
 ·have:zs=[]:=by have:=h.1;simpa using this
  subst this;exact ⟨none,0,rfl,Byt.empty w⟩
 ·exact ⟨_,cap,rfl,Byt.of_owns h⟩
theorem hZq {p:Prop}(h:p):Hid p:=h
structure Ow (w:World)(g cap:Nat)(zs:List Int):Prop where
 ex:∃ cur:Array Value,w.heap[g]?=some (.cells cur 5 (0,0))/\cur.size=cap/\∀ j,j<zs.length->cur[j]?=some (.int .u8 (zs.getD j 0))
 le:zs.length<=cap
 max:cap<=9223372036854775807
theorem Ow.of_owns {w:World}{base g n cap:Nat}{zs:List Int}(h:w.ownsRow base 5 1 (.slice (some ⟨g,0,none⟩) n cap) n (zs.map (Value.int .u8))):Ow w g cap zs/\zs.length=n/\base<=g/\g<w.heap.size:=by
 have hl:zs.length=n:=by have:=h.1;simpa using this
 have hlt:=h.lt g rfl;rcases h.2 with ⟨e,_⟩ | ⟨g',cap',cur,hv,hb,hg,hc,hm,hs,ht⟩
 ·cases e
 ·injection hv with e1 _ e3
  simp only [Option.some.injEq,Addr.mk.injEq] at e1;obtain ⟨rfl,_⟩:=e1;subst e3;refine ⟨⟨⟨cur,hg,by simpa using hs,fun j hj=>?_⟩,by omega,by unfold maxLen at hm;omega⟩,hl,hlt⟩;have e:(cur.toList.take (n*1))[j]?=(zs.map (Value.int .u8))[j]?:=by rw [ht]
  rw [List.getElem?_take,if_pos (by omega),Array.getElem?_toList] at e;rw [e];simp [List.getD,List.getElem?_eq_getElem hj]
theorem Ow.cell {w:World}{g cap:Nat}{zs:List Int}(h:Ow w g cap zs){j:Nat}(hj:j<zs.length):w.cell? ⟨g,j,none⟩=some (.int .u8 (zs.getD j 0)):=by
 obtain ⟨cur,h1,_,h3⟩:=h.ex;rw [cell_of_row w g j _ _ _ h1];exact h3 j hj
theorem Ow.frozen {w:World}{g cap:Nat}{zs:List Int}(h:Ow w g cap zs)(j:Nat):w.frozen? ⟨g,j,none⟩=false:=by
 obtain ⟨cur,h1,_,_⟩:=h.ex;exact frozen_of_row w g j _ _ h1
theorem Ow.lt {w:World}{g cap:Nat}{zs:List Int}(h:Ow w g cap zs):g<w.heap.size:=by
 obtain ⟨cur,h1,_,_⟩:=h.ex;exact (Array.getElem?_eq_some_iff.1 h1).1
theorem Ow.byt {w:World}{g cap:Nat}{zs:List Int}(h:Ow w g cap zs)(n:Nat)(hn:n=zs.length):Byt w (some ⟨g,0,none⟩) n cap zs:=by
 subst hn;exact Byt.of_cells rfl fun i hi=>by rw [Nat.zero_add];exact h.cell hi
theorem Ow.same {w w':World}{g cap:Nat}{zs:List Int}(h:Ow w g cap zs)(e:w'.heap[g]?=w.heap[g]?):Ow w' g cap zs:=by
 obtain ⟨cur,h1,h2,h3⟩:=h.ex;exact ⟨⟨cur,e.trans h1,h2,h3⟩,h.le,h.max⟩
theorem Ow.kept {w w':World}{g cap:Nat}{zs:List Int}{row:Option Nat}(h:Ow w g cap zs)(hg:w.grownBy w' row)(hne:some g≠row):Ow w' g cap zs:=h.same (hg.block g h.lt hne)
theorem Ow.keptN {w w':World}{g cap:Nat}{zs:List Int}(h:Ow w g cap zs)(hg:w.grownBy w' none):Ow w' g cap zs:=h.kept hg (by simp)
theorem Ow.qt {w w':World}{g cap:Nat}{zs:List Int}(h:Ow w g cap zs)(q:Qt w w'):Ow w' g cap zs:=h.same (by rw [q.heap])
theorem Ow.part {w:World}{g cap:Nat}{xs ys:List Int}(h:Ow w g cap (xs++ys)):Ow w g cap xs:=by
 obtain ⟨cur,h1,h2,h3⟩:=h.ex;have:=h.le;simp at this;refine ⟨⟨cur,h1,h2,fun j hj=>?_⟩,by omega,h.max⟩;rw [h3 j (by simp;omega)];simp [List.getD,List.getElem?_append_left hj]
theorem Ow.set {w:World}{g cap:Nat}{zs:List Int}(h:Ow w g cap zs)(i:Nat)(v:Int)(_hi:i<zs.length):Ow (w.setCell ⟨g,i,none⟩ (.int .u8 v)) g cap (zs.set i v):=by
 obtain ⟨cur,h1,h2,h3⟩:=h.ex;refine ⟨⟨cur.setIfInBounds i (.int .u8 v),heap_setCell_same w g i cur _ _ h1,by simpa using h2,fun j hj=>?_⟩,by simpa using h.le,h.max⟩;have hj':j<zs.length:=by simpa using hj
 have hjc:j<cur.size:=by have:=h.le;omega
 by_cases e:i=j
 ·subst e
  simp [List.getD,hj',hjc]
 ·rw [Array.getElem?_setIfInBounds_ne e,h3 j hj']
  simp [List.getD,e]
theorem grown_cell (w:World)(g j:Nat)(v:Value):w.grownBy (w.setCell ⟨g,j,none⟩ v) (some g) :=
 ⟨rfl,rfl,rfl,by simp,fun k _ hk=>heap_setCell_other w ⟨g,j,none⟩ k _ (fun e=>hk (by simp [e]))⟩
def Nw (w w':World)(t:TypeId)(a:Option Addr)(n:Nat):Prop:=0<n->∃ b cur,a=some ⟨b,0,none⟩/\w.heap.size<=b/\w'.heap[b]?=some (.cells cur t (0,0))
theorem Nw.zero (w w':World)(t:TypeId)(a:Option Addr):Nw w w' t a 0:=fun h=>by omega
theorem Nw.of_owns {w w':World}{base sz n cap:Nat}{t:TypeId}{a:Option Addr}{xs:List Value}(h:w'.ownsRow base t sz (.slice a n cap) n xs)(hb:w.heap.size<=base):Nw w w' t a n:=by
 intro h0;rcases h.2 with ⟨_,h1⟩ | ⟨g,cap',cur,e,hg,hc,_⟩
 ·omega
 ·injection e with e1 _ _
  exact ⟨g,cur,e1,Nat.le_trans hb hg,hc⟩
theorem Nw.keptN {w w' w'':World}{t:TypeId}{a:Option Addr}{n:Nat}(h:Nw w w' t a n)(hg:w'.grownBy w'' none):Nw w w'' t a n:=by
 intro h0;obtain ⟨b,cur,e1,e2,e3⟩:=h h0;exact ⟨b,cur,e1,e2,(hg.block b (Array.getElem?_eq_some_iff.1 e3).1 (by simp)).trans e3⟩
theorem Nw.from {w0 w w':World}{t:TypeId}{a:Option Addr}{n:Nat}(h:Nw w w' t a n)(hs:w0.heap.size<=w.heap.size):Nw w0 w' t a n:=by
 intro h0;obtain ⟨b,cur,e1,e2,e3⟩:=h h0;exact ⟨b,cur,e1,Nat.le_trans hs e2,e3⟩
end Go.Proofs.YteaahinjcfjngaaGreat
