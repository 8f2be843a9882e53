import Derived.Test.YtlhjociijkhimaaGreatDoorPut2
import Derived.Test.YtlhjociijkhimaaGreatDoorGet
import Derived.Test.YtlhjociijkhimaaGreatDoorSame
namespace Go.Proofs.YtlhjociijkhimaaGreatDoor
open Go.RowKit

theorem ret_true {b : Bool} (h : b = true) : Ending.returned (.bool b) = .returned (.bool true) := by rw [h]

theorem lb_258 : ([7] : List Int) ++ lb 2 258 = [7, 2, 1] := by decide
theorem vf_1201 : vform 1201 = [177, 9] := by decide
theorem rv_first : rv (([2, 1, 177, 9, 3, 4, 5] : List Int).drop (0 + 2)) = (1201, 2, 0) := by decide
theorem le_first : le 2 (([2, 1, 177, 9, 3, 4, 5] : List Int).drop 0) = 258 := by decide
theorem bt_first : Bt [2, 1, 177, 9, 3, 4, 5] := by intro z h; simp at h; omega

theorem grown_new {a b c : World} {R : Nat} (h : a.grownBy b none) (k : b.grownBy c (some R)) (hR : a.heap.size ≤ R) : a.grownBy c none :=
  ⟨k.os.trans h.os, k.tape.trans h.tape, k.output.trans h.output, Nat.le_trans h.size k.size,
    fun i hi _ => (k.block i (Nat.lt_of_lt_of_le hi h.size) (by intro e; have := Option.some.inj e; omega)).trans (h.block i hi (by simp))⟩

end Go.Proofs.YtlhjociijkhimaaGreatDoor
