import Derived.Test.YtedpeggdbedmiaaGreatDoorQ15
import Derived.Test.YtedpeggdbedmiaaGreatDoorQ5
namespace Go.Proofs.YtedpeggdbedmiaaGreatDoor
open Go.RowKit
theorem ktwo_new (w : World) (a b : Value) (t : TypeId) : ∀ j u, [a, b][j]? = some u → (w.alloc (.cells #[a, b] t)).cell? ((⟨w.heap.size, 0, none⟩ : Addr).add j) = some u := by
 intro j u hu
 rw [Addr.add_lit, Nat.zero_add, cell_of_row _ w.heap.size j _ _ (0, 0) (heap_alloc_new w _)]
 simpa using hu
end Go.Proofs.YtedpeggdbedmiaaGreatDoor
