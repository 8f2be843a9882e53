import Derived.WalkKit
import Derived.WalkSpells
import Derived.WalkLawsBesides
import Derived.Deep.QuietTactic
import Derived.BigQuiet
import Derived.Deep.RegionWith
import Derived.OpenShut
namespace Go.Proofs.YteaahinjcfjngaaGreat
open Go.RowKit
structure Byt (w:World)(ao:Option Addr)(n cap:Nat)(zs:List Int):Prop where
 len:zs.length=n
 nil:ao=none->n=0/\cap=0
 cells:∀ ad,ao=some ad->∀ j u,(zs.map (Value.int .u8))[j]?=some u->w.cell? (ad.add j)=some u
def Bt (zs:List Int):Prop:=∀ z∈zs,0<=z/\z<=255
theorem Bt.nil:Bt []:=by intro z h;simp at h
theorem Bt.take {a:List Int}(h:Bt a)(n:Nat):Bt (a.take n):=fun y hy=>h y (List.mem_of_mem_take hy)
theorem Byt.kept {w w':World}{row:Option Nat}{ao:Option Addr}{n cap:Nat}{zs:List Int}(h:Byt w ao n cap zs)(hg:w.grownBy w' row)
  (hne:∀ ad,ao=some ad->0<n->some ad.block≠row):Byt w' ao n cap zs:=by
 refine ⟨h.len,h.nil,fun ad had j u hu=>?_⟩;have hj:j<zs.length:=by have:=(List.getElem?_eq_some_iff.1 hu).1;simpa using this
 have hc:=h.cells ad had j u hu;refine hg.cell hc ?_;have hb:(ad.add j).block=ad.block:=by unfold Addr.add;split <;> rfl
 rw [hb];exact hne ad had (by have:=h.len;omega)
theorem Byt.keptN {w w':World}{ao:Option Addr}{n cap:Nat}{zs:List Int}(h:Byt w ao n cap zs)(hg:w.grownBy w' none):Byt w' ao n cap zs :=
 h.kept hg (fun _ _ _=>by simp)
theorem Byt.empty (w:World):Byt w none 0 0 []:=⟨rfl,fun _=>⟨rfl,rfl⟩,fun _ h=>by cases h⟩
theorem Byt.at {w:World}{ao:Option Addr}{n cap:Nat}{zs:List Int}(h:Byt w ao n cap zs)(hn:0<n) :
  ∃ b off,ao=some ⟨b,off,none⟩/\b<w.heap.size/\∀ i,i<n->w.cell? ⟨b,off+i,none⟩=some (.int .u8 (zs.getD i 0)):=by
 cases ao with
 | none=>have:=(h.nil rfl).1;omega
 | some ad =>
  have hl:=h.len
  have hget:∀ i,i<n->(zs.map (Value.int .u8))[i]?=some (.int .u8 (zs.getD i 0)):=by
   intro i hi;have:i<zs.length:=by omega
   simp [List.getD,List.getElem?_eq_getElem this]
  have h0:=h.cells ad rfl 0 _ (hget 0 hn);obtain ⟨b,off,spot⟩:=ad;have hs:spot=none:=by simpa [Addr.add] using World.cell?_spot h0
  subst hs;refine ⟨b,off,rfl,?_,fun i hi=>?_⟩
  ·have:=World.block_lt_of_cell? w _ h0;simpa [Addr.add] using this
  ·have:=h.cells _ rfl i _ (hget i hi);rwa [Addr.add_lit] at this
theorem Byt.of_cells {w:World}{b off n cap:Nat}{zs:List Int}(hl:zs.length=n)(h:∀ i,i<n->w.cell? ⟨b,off+i,none⟩=some (.int .u8 (zs.getD i 0))):Byt w (some ⟨b,off,none⟩) n cap zs:=by
 refine ⟨hl,fun e=>(by cases e),fun ad had j u hu=>?_⟩;obtain rfl:=Option.some.inj had;have hj:j<zs.length:=by have:=(List.getElem?_eq_some_iff.1 hu).1;simpa using this
 have hv:u=.int .u8 (zs.getD j 0):=by
  have e:(zs.map (Value.int .u8))[j]?=some (.int .u8 (zs.getD j 0)):=by simp [List.getD,List.getElem?_eq_getElem hj]
  rw [e] at hu;exact (Option.some.inj hu).symm
 rw [hv,Addr.add_lit];exact h j (by omega)
theorem Byt.of_owns {w:World}{base g n cap:Nat}{zs:List Int}{e:TypeId}(h:w.ownsRow base e 1 (.slice (some ⟨g,0,none⟩) n cap) n (zs.map (Value.int .u8))):Byt w (some ⟨g,0,none⟩) n cap zs:=by
 have hl:zs.length=n:=by have:=h.1;simpa using this
 refine Byt.of_cells hl fun i hi=>?_
 have:=h.cellAt i (by omega);rw [Nat.zero_add,this];have hz:i<zs.length:=by omega
 simp [List.getD,List.getElem?_eq_getElem hz]
theorem Byt.take {w:World}{ao:Option Addr}{n cap:Nat}{zs:List Int}(h:Byt w ao n cap zs)(m cap':Nat)(hm:m<=n)(hc:ao=none->cap'=0):Byt w ao m cap' (zs.take m):=by
 refine ⟨by have:=h.len;rw [List.length_take];omega,fun e=>⟨by have:=(h.nil e).1;omega,hc e⟩,fun ad had j u hu=>?_⟩;refine h.cells ad had j u ?_;rw [List.map_take,List.getElem?_take] at hu
 split at hu
 ·exact hu
 ·cases hu
theorem byt_of_row {w:World}{a:Option Addr}{len cap:Nat}{zs:List Int}
  (h:(a=none/\len=0/\cap=0/\zs=[])∨∃ x,a=some x/\len<=cap/\cap<=maxLen/\zs.length=cap/\(∀ i,i<zs.length->w.cell? (x.add i)=some (.int .u8 (zs.getD i 0)))/\∀ n∈zs,(Lit.int .u8 n).wf=true) :
  Byt w a len cap (zs.take len)/\Bt (zs.take len)/\len<=cap/\cap<=9223372036854775807:=by
 rcases h with ⟨rfl,rfl,rfl,rfl⟩ | ⟨x,rfl,hl,hm,hz,hc,hw⟩
 ·exact ⟨Byt.empty w,Bt.nil,Nat.le_refl _,by omega⟩
 ·refine ⟨⟨by rw [List.length_take];omega,(fun e=>by cases e),fun ad had j u hu=>?_⟩,fun z hz=>bounds_u8 (hw z (List.mem_of_mem_take hz)),hl,by unfold maxLen at hm;omega⟩
  obtain rfl:=Option.some.inj had;rw [List.map_take,List.getElem?_take] at hu
  split at hu
  ·have hj:j<zs.length:=by have:=(List.getElem?_eq_some_iff.1 hu).1;simpa using this
   have e:(zs.map (Value.int .u8))[j]?=some (.int .u8 (zs.getD j 0)):=by simp [List.getD,List.getElem?_eq_getElem hj]
   rw [e] at hu;rw [<- Option.some.inj hu];exact hc j hj
  ·cases hu
end Go.Proofs.YteaahinjcfjngaaGreat
