import Derived.Test.YtcjgmiilfjjbcaaGreatDoorDuF
import Derived.Lib.SlBytesConst
namespace Go.Proofs.YtcjgmiilfjjbcaaGreatDoor
open Go.RowKit

theorem conv_atD (W : World) (C : Array Value) (n c k : Nat) (hk : k = W.heap.size) :
    (convert 32 32 (.slice (some ⟨k, 0, none⟩) n c)).run Tryz.prog (W.alloc (.cells C 5)) = .ok (.slice (some ⟨k, 0, none⟩) n c) (W.alloc (.cells C 5 (C.size, C.size + 1))) := by
  subst hk
  exact Lib.run_convert_bytes_const (P := Tryz.prog) W 32 5 C n c Tryz.underlying32 Tryz.underlying5
theorem Byt.litD (w : World) (e : TypeId) (cs : Array Value) (fr : Nat × Nat) (zs : List Int) (n k : Nat) (hn : n = zs.length) (h : cs = (zs.map (Value.int .u8)).toArray) (hk : k = w.heap.size) : Byt (w.alloc (.cells cs e fr)) (some ⟨k, 0, none⟩) n n zs := by
  subst h hn hk
  refine Byt.of_cells rfl fun i hi => ?_
  rw [Nat.zero_add]
  have := cell_of_row (w.alloc (.cells (zs.map (Value.int .u8)).toArray e fr)) w.heap.size i _ e fr (heap_alloc_new w _)
  rw [this]
  simp [List.getD, List.getElem?_eq_getElem hi]
theorem size_allocD (w : World) (o : Obj) : (w.alloc o).heap.size = w.heap.size + 1 := by simp
theorem btD (zs : List Int) (h : (zs.all fun z => decide (0 ≤ z) && decide (z ≤ 255)) = true) : Bt zs := by
  intro z hz
  have := List.all_eq_true.1 h z hz
  simpa using this
end Go.Proofs.YtcjgmiilfjjbcaaGreatDoor
