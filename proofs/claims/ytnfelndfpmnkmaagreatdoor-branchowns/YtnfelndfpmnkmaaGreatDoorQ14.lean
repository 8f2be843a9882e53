import Derived.Test.YtnfelndfpmnkmaaGreatDoorQ10
import Derived.Lib.SlBytesConst
import Derived.Below
namespace Go.Proofs.YtnfelndfpmnkmaaGreatDoor
open Go.RowKit
theorem Byt.litK (w : World) (e : TypeId) (cs : Array Value) (fr : Nat × Nat) (zs : List Int) (n k : Nat) (hn : n = zs.length) (h : cs = (zs.map (Value.int .u8)).toArray) (hk : k = w.heap.size) : Byt (w.alloc (.cells cs e fr)) (some ⟨k, 0, none⟩) n n zs := by
 subst h hn hk
 refine Byt.of_cells rfl fun i hi => ?_
 rw [Nat.zero_add]
 have := cell_of_row (w.alloc (.cells (zs.map (Value.int .u8)).toArray e fr)) w.heap.size i _ e fr (heap_alloc_new w _)
 rw [this]
 simp [List.getD, List.getElem?_eq_getElem hi]
theorem size_alloc (w : World) (o : Obj) : (w.alloc o).heap.size = w.heap.size + 1 := by simp
theorem Byt.on {w : World} {ao : Option Addr} {n cap : Nat} {zs : List Int} (h : Byt w ao n cap zs) (o : Obj) : Byt (w.alloc o) ao n cap zs := h.keptN (World.grownBy_alloc w o none)
theorem btl (zs : List Int) (h : (zs.all fun z => decide (0 ≤ z) && decide (z ≤ 255)) = true) : Bt zs := by
 intro z hz
 have := List.all_eq_true.1 h z hz
 simpa using this
theorem Lz.lit (w : World) (e : TypeId) (vs : Array Value) (L : List (List Int)) (k : Nat) (hk : k = w.heap.size) (h : ∀ i, i < L.length → ∃ ao n c, vs[i]? = some (.slice ao n c) ∧ Byt w ao n c (L.getD i []) ∧ n ≤ c ∧ c ≤ 9223372036854775807) : Lz (w.alloc (.cells vs e)) (some ⟨k, 0, none⟩) L := by
 subst hk
 refine ⟨fun i hi => ?_⟩
 obtain ⟨ao, n, c, h1, h2, h3, h4⟩ := h i hi
 exact ⟨_, _, ao, n, c, rfl, by rw [Nat.zero_add, cell_of_row (w.alloc (.cells vs e)) w.heap.size i _ e (0, 0) (heap_alloc_new w _)]; exact h1, h2.on _, h3, h4⟩
theorem Lz.lit2 (w : World) (e : TypeId) (a b : Option Addr) (n m x y : Nat) (za zb : List Int) (k : Nat) (hk : k = w.heap.size) (ha : Byt w a n x za) (hb : Byt w b m y zb) (h1 : n ≤ x) (h2 : m ≤ y) (k1 : x ≤ 9223372036854775807) (k2 : y ≤ 9223372036854775807) :
  Lz (w.alloc (.cells #[.slice a n x, .slice b m y] e)) (some ⟨k, 0, none⟩) [za, zb] := by
 refine Lz.lit w e _ _ k hk fun i hi => ?_
 match i, hi with
 | 0, _ => exact ⟨_, _, _, rfl, ha, h1, k1⟩
 | 1, _ => exact ⟨_, _, _, rfl, hb, h2, k2⟩
 | i + 2, h => exact absurd h (by simp)
theorem conv_at (W : World) (C : Array Value) (n c k : Nat) (hk : k = W.heap.size) :
  (convert 26 26 (.slice (some ⟨k, 0, none⟩) n c)).run Tryz.prog (W.alloc (.cells C 5)) = .ok (.slice (some ⟨k, 0, none⟩) n c) (W.alloc (.cells C 5 (C.size, C.size + 1))) := by
 subst hk
 exact Lib.run_convert_bytes_const (P := Tryz.prog) W 26 5 C n c Tryz.underlying26 Tryz.underlying5
theorem below_of {w w' : World} (h : w.grownBy w' none) : Below w.heap.size w w' := ⟨h.os, h.tape, h.output, h.size, fun k hk => h.block k hk (by simp)⟩
end Go.Proofs.YtnfelndfpmnkmaaGreatDoor
