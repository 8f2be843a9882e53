import Derived.Test.YtcfmkpgfeodhaaaGreatDoorQ4
import Derived.Deep.Cut
namespace Go.Proofs.YtcfmkpgfeodhaaaGreatDoor
open Go.RowKit
def imark (ps : Int) (id j : Nat) : Int := (id : Int) * 1000 + 2 * (j : Int) + ps
def kdI : Kdk := ⟨5, 1, 3, 22, fun ps id x => .int .i64 (imark ps id x)⟩
def Kx2 (w : World) (T : Nat) (a b : Value) : Prop := w.heap[T]? = some (.cells #[a, b] 129 (0, 0))
theorem Kx2.cells {w : World} {T : Nat} {a b : Value} (h : Kx2 w T a b) : w.cell? ⟨T, 0, none⟩ = some a ∧ w.cell? ⟨T, 1, none⟩ = some b := by
 refine ⟨?_, ?_⟩
 ·rw [cell_of_row w T 0 _ _ _ h]; rfl
 ·rw [cell_of_row w T 1 _ _ _ h]; rfl
theorem Kx2.new (w : World) (a b : Value) : Kx2 (w.alloc (.cells #[a, b] 129)) w.heap.size a b := heap_alloc_new w _
theorem Kx2.set0 {w : World} {T : Nat} {a b : Value} (h : Kx2 w T a b) (v : Value) : Kx2 (w.setCell ⟨T, 0, none⟩ v) T v b := heap_setCell_same w T 0 _ _ v h
set_option maxHeartbeats 400000 in
theorem mark_ints (B : Nat) (ps : Int) (id j : Nat) (idI jI : Int) (w : World) (h : w.cell? ⟨B, 1, none⟩ = some (.int .i64 ps)) (hp : 0 ≤ ps ∧ ps ≤ 1) (hi : id ≤ 1099511627776) (hj : j ≤ 1099511627776) (e1 : idI = (id : Int)) (e2 : jI = (j : Int)) :
  Calls Tryz.prog 113 #[.pointer (some ⟨B, 0, none⟩), .int .i64 idI, .int .i64 jI] w fun en w' => en = .returned (.int .i64 (imark ps id j)) ∧ w' = w := by
 subst e1 e2
 have hp1 := hp.1
 have hp2 := hp.2
 go_enter Tryz.func113, Tryz.ntmps113
 go_wp2
 go_ret
 exact ⟨rfl, rfl⟩
end Go.Proofs.YtcfmkpgfeodhaaaGreatDoor
