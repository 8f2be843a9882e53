import Derived.Test.YtlhjociijkhimaaGreatDoorW1
import Derived.Test.YtlhjociijkhimaaGreatDoorBits
namespace Go.Proofs.YtlhjociijkhimaaGreatDoor
open Go.RowKit

theorem Below_of {w w' : World} (h : w.grownBy w' none) : Below w.heap.size w w' := ⟨h.os, h.tape, h.output, h.size, fun k hk => h.block k hk (by simp)⟩

/-- One byte appended into an owned row with room: what the walk's law leaves, joined. -/
theorem grown_step {w wr w1 : World} (o : Obj) (hg : w.grownBy wr none) (hs : w.heap.size < wr.heap.size) (h : (wr.alloc o).grownBy w1 (some w.heap.size)) : w.grownBy w1 none ∧ w.heap.size < w1.heap.size := by
  have hs1 : (wr.alloc o).heap.size = wr.heap.size + 1 := by simp
  refine ⟨⟨h.os.trans hg.os, h.tape.trans hg.tape, h.output.trans hg.output, ?_, fun k hk _ => ?_⟩, ?_⟩
  · have := h.size; omega
  · rw [h.block k (by omega) (by intro e; have := Option.some.inj e; omega), Below.heap_alloc wr o k (by omega)]
    exact hg.block k hk (by simp)
  · have := h.size; omega

end Go.Proofs.YtlhjociijkhimaaGreatDoor
