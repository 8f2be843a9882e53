import Derived.Test.YtmbbflfknldaoaaGreatDoorQ9
import Derived.Test.YtmbbflfknldaoaaGreatDoorQ3
namespace Go.Proofs.YtmbbflfknldaoaaGreatDoor
open Go.RowKit
def Dr (w w' : World) : Prop := ∃ q, w' = w.drewN q
theorem Dr.refl (w : World) : Dr w w := ⟨0, rfl⟩
theorem Dr.more {w w' : World} (h : Dr w w') (n : Nat) : Dr w (w'.drewN n) := by obtain ⟨q, rfl⟩ := h; exact ⟨q + n, World.drewN_drewN ..⟩
theorem Dr.trans {a b c : World} (h : Dr a b) (k : Dr b c) : Dr a c := by obtain ⟨n, rfl⟩ := k; exact h.more n
theorem Dr.qt {w w' : World} (h : Dr w w') : Qt w w' := by obtain ⟨q, rfl⟩ := h; exact Qt.drewN w q
theorem Dr.cell {w w' : World} (h : Dr w w') (a : Addr) : w'.cell? a = w.cell? a := h.qt.cell a
def within (k lo hi : List Int) : Bool := decide (0 ≤ cmpZ k lo) && (hi.length == 0 || decide (cmpZ k hi < 0))
end Go.Proofs.YtmbbflfknldaoaaGreatDoor
