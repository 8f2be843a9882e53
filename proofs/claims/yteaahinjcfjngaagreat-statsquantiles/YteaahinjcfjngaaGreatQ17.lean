import Derived.Test.YteaahinjcfjngaaGreatQ15
namespace Go.Proofs.YteaahinjcfjngaaGreat
open Go.RowKit
structure Cf (w:World)(S T U F G:Nat):Prop where
 f:w.cell? ⟨F,0,none⟩=some (.func (.func 202) #[] #[.pointer (some ⟨S,0,none⟩),.pointer (some ⟨T,0,none⟩),.pointer (some ⟨U,0,none⟩)])
 g:w.cell? ⟨G,0,none⟩=some (.func (.func 203) #[] #[.pointer (some ⟨S,0,none⟩),.pointer (some ⟨T,0,none⟩)])
theorem Cf.keptN {w w':World}{S T U F G:Nat}(h:Cf w S T U F G)(hg:w.grownBy w' none):Cf w' S T U F G :=
 ⟨hg.cell h.f (by simp),hg.cell h.g (by simp)⟩
end Go.Proofs.YteaahinjcfjngaaGreat
