import Derived.Test.YtepcgckapoljpaaGreatQ50
set_option maxRecDepth 100000
namespace Go.Proofs.YtepcgckapoljpaaGreat
open Go.ChangeShapes Go.WideShapes Go.ChangeAt Go.WideMaps Go.WideElems Go.RowKit Go.Deep
theorem act_in {H:Type}{enc:TypeId × Value->H}{w:World}{base:Nat}{held:Bool}{r:Reach}{b0:Nat}{v:Value}{d:DataW H}{ps:List MemPlace}(hval:Value.okWide Tryz.prog w r b0 32 v)(hd:DataW.Trod enc Tryz.prog w base (fun _=>true) held 32 v d ps) :
  ∃ ao n c za bo m d zb g k no,v=.agg #[.slice ao n c,.slice bo m d,.bool g,.bool k,.int .i64 no]/\Byt w ao n c za/\Bt za/\Byt w bo m d zb/\Bt zb:=by
 obtain ⟨cs,rfl,hsz⟩:=okWide_struct Tryz.underlying32 hval;obtain ⟨fuel,h⟩:=hd;obtain ⟨ao,n,c,za,bo,m,d',zb,g,k,no,e,b0,t0,b1,t1⟩:=act_open h;refine ⟨ao,n,c,za,bo,m,d',zb,g,k,no,?_,b0,t0,b1,t1⟩;obtain ⟨cl⟩:=cs;simp only [Value.cells] at e;have e':cl=[.slice ao n c,.slice bo m d',.bool g,.bool k,.int .i64 no]:=by simpa using e
 rw [e']
end Go.Proofs.YtepcgckapoljpaaGreat
