import Derived.Test.YteaahinjcfjngaaGreatQ15
import Derived.Maps.OwnSet
import Derived.Maps.Ext
import Derived.Deep.DeepCutAuto
namespace Go.Proofs.YteaahinjcfjngaaGreat
open Go.RowKit Go.Maps
theorem keyedN:Go.Maps.Keyed Tryz.prog 3:=int_keyed Tryz.underlying3
def InN (D:DataW Unit):Prop:=∀ k,Maps.has D k=true->∃ z,k=.int .i64 z/\2<=z/\z<524287
theorem few_rise:∀ (l:List Int) (lo:Int),l.Pairwise (·<·)->(∀ z∈l,lo<=z/\z<524287)->lo<=524287->(l.length:Int)<=524287 - lo
 | [],lo,_,_,h=>by simp;omega
 | x::l,lo,hp,hr,_=>by
  have h1:=List.pairwise_cons.1 hp;have h2:=hr x (by simp);have:=few_rise l (x+1) h1.2 (fun z hz=>⟨by have:=h1.1 z hz;omega,(hr z (by simp [hz])).2⟩) (by omega);simp only [List.length_cons];omega
def intL:Lit->Int
 | .int _ z=>z
 | _=>0
theorem InN.few {D:DataW Unit}(h:InN D)(hc:Canon D):Maps.size D<=524285:=by
 obtain ⟨es,rfl,hp,hk⟩:=hc
 have hr:∀ p∈es,∃ z,p.1=.int .i64 z/\2<=z/\z<524287:=fun p hm=>h p.1 (by
  rw [has_eq,List.any_eq_true];refine ⟨p,hm,?_⟩;have:=hk p hm
  revert this
  cases p.1 <;> simp [WideAt.IsKeyLit,Lit.sameKey])
 have:=few_rise (es.map fun p=>intL p.1) 2 (by
  rw [List.pairwise_map];refine hp.imp_of_mem fun {a b} ha hb hab=>?_
  obtain ⟨x,ex,_⟩:=hr a ha;obtain ⟨y,ey,_⟩:=hr b hb;rw [ex,ey] at hab ⊢;simpa [Lit.before,intL] using hab) (fun z hz=>by
  obtain ⟨p,hm,rfl⟩:=List.mem_map.1 hz;obtain ⟨x,ex,h2⟩:=hr p hm;rw [ex];exact h2) (by omega)
 rw [List.length_map] at this;rw [size_eq];omega
def NbT (w:World)(b:Nat):Prop:=∃ (D:DataW Unit),w.ownsMap Tryz.prog 3 unitElem b (Maps.size D) D/\InN D
theorem zeroU (w:World):(zeroValue 131).run Tryz.prog w=.ok (.agg #[]) w:=by
 have:=Tryz.zeroValue131
 first | exact this w | exact this
theorem wfN {z:Int}(h:-9223372036854775808<=z/\z<=9223372036854775807):(Lit.int .i64 z).wf=true:=Go.WalkArith.wf_i64 h
end Go.Proofs.YteaahinjcfjngaaGreat
