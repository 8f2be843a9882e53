import Derived.Test.YtlhjociijkhimaaGreatDoorKeys1
namespace Go.Proofs.YtlhjociijkhimaaGreatDoor
open Go.RowKit

theorem ret_int {x y : Int} (h : x = y) : Ending.returned (Value.int IntKind.i64 x) = .returned (.int .i64 y) := by rw [h]

/-- Nothing but draws, counted. -/
def Dr (w w' : World) : Prop := ∃ q, w' = w.drewN q
theorem Dr.refl (w : World) : Dr w w := ⟨0, rfl⟩
theorem Dr.more {w w' : World} (h : Dr w w') (n : Nat) : Dr w (w'.drewN n) := by obtain ⟨q, rfl⟩ := h; exact ⟨q + n, World.drewN_drewN ..⟩
theorem Dr.trans {a b c : World} (h : Dr a b) (k : Dr b c) : Dr a c := by obtain ⟨n, rfl⟩ := k; exact h.more n
theorem Dr.qt {w w' : World} (h : Dr w w') : Qt w w' := by obtain ⟨q, rfl⟩ := h; exact Qt.drewN w q
theorem Dr.cell {w w' : World} (h : Dr w w') (a : Addr) : w'.cell? a = w.cell? a := h.qt.cell a

end Go.Proofs.YtlhjociijkhimaaGreatDoor
