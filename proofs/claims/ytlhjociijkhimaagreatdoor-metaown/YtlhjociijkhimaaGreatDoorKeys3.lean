import Derived.Test.YtlhjociijkhimaaGreatDoorKeys2
namespace Go.Proofs.YtlhjociijkhimaaGreatDoor
open Go.RowKit

theorem grown_dr {a b c : World} {row : Option Nat} (h : Dr a b) (k : b.grownBy c row) : a.grownBy c row := grown_trans (h.qt.grown row) k

theorem neg_of {x : Int} (h : ¬ 0 ≤ x) : x < 0 := by omega

/-- Where a separator ends. -/
theorem sep_room {a b : List Int} (h : cmpZ a b < 0) : com a b + 1 ≤ b.length := com_lt h

theorem ret_bool {x y : Bool} (h : x = y) : Ending.returned (Value.bool x) = .returned (.bool y) := by rw [h]

/-- A string of 1 to 255 bytes. -/
def valid (n : Nat) : Bool := decide (1 ≤ n) && decide (n ≤ 255)
/-- Not ahead of lo, and ahead of hi or hi is empty. -/
def within (k lo hi : List Int) : Bool := decide (0 ≤ cmpZ k lo) && (hi.length == 0 || decide (cmpZ k hi < 0))

theorem within_1 {k lo hi : List Int} (h1 : ¬ 0 ≤ cmpZ k lo) : within k lo hi = false := by unfold within; rw [decide_eq_false h1, Bool.false_and]
theorem within_2 {k lo hi : List Int} (h1 : 0 ≤ cmpZ k lo) (h2 : hi.length = 0) : within k lo hi = true := by unfold within; rw [decide_eq_true h1, h2, Bool.true_and, beq_self_eq_true, Bool.true_or]
theorem within_3 {k lo hi : List Int} (h1 : 0 ≤ cmpZ k lo) (h3 : cmpZ k hi < 0) : within k lo hi = true := by unfold within; rw [decide_eq_true h1, decide_eq_true h3, Bool.or_true, Bool.and_true]
theorem within_4 {k lo hi : List Int} (h2 : hi.length ≠ 0) (h3 : ¬ cmpZ k hi < 0) : within k lo hi = false := by unfold within; rw [decide_eq_false h3, beq_eq_false_iff_ne.2 h2, Bool.or_false, Bool.and_false]

end Go.Proofs.YtlhjociijkhimaaGreatDoor
