import Derived.Test.YtmicongcnpbkkabQ14
import Derived.ProofKit
import Derived.OpenShut
import Derived.Deep.Slices
import Derived.ChangeSame
namespace Go.Proofs.Ytmicongcnpbkkab
open Go.ChangeShapes Go.WideShapes Go.ChangeAt Go.WideMaps Go.WideElems Go.RowKit Go.Deep
theorem cells_bytes : Try.prog.cellsOf 23 = 1 := by kernel_rfl
theorem cell_plain {w : World} {a : Addr} {v : Value} (h : w.cell? a = some v) : ∃ b off, a = ⟨b, off, none⟩ := by
 obtain ⟨b, off, spot⟩ := a
 have : spot = none := World.cell?_spot h
 exact ⟨b, off, by rw [this]⟩
end Go.Proofs.Ytmicongcnpbkkab
