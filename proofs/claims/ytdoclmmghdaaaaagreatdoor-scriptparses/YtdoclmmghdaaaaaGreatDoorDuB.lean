import Derived.Test.YtdoclmmghdaaaaaGreatDoorDuA
namespace Go.Proofs.YtdoclmmghdaaaaaGreatDoor
open Go.RowKit

theorem take_snocU {T : List UInt8} {i : Nat} (h : i < T.length) : T.take (i + 1) = T.take i ++ [T.getD i 0] := by
  rw [List.take_succ_eq_append_getElem h]
  simp [List.getD, List.getElem?_eq_getElem h]
theorem nb_no_dig {T : List UInt8} {i : Nat} (h : i < T.length) (hd : dig (T.getD i 0) = false) : nb T = none := by
  unfold nb
  rw [if_neg]
  rintro ⟨_, _, h3, _⟩
  have := List.all_eq_true.1 h3 (T.getD i 0) (by simp [List.getD, List.getElem?_eq_getElem h])
  rw [hd] at this; cases this
theorem val_app (n : Nat) (a b : List UInt8) : val n (a ++ b) = val (val n a) b := by unfold val; rw [List.foldl_append]
theorem nb_great {T : List UInt8} {i : Nat} (h : 2147483647 < val 0 (T.take i)) : nb T = none := by
  unfold nb
  rw [if_neg]
  rintro ⟨_, _, _, h4⟩
  have h1 : val 0 T = val (val 0 (T.take i)) (T.drop i) := by rw [← val_app, List.take_append_drop]
  have := val_mono (T.drop i) (val 0 (T.take i))
  omega
theorem nb_yes {T : List UInt8} (h0 : T ≠ []) (h1 : T.head? = some 48 → T = [48]) (h2 : T.all dig = true) (h3 : val 0 T ≤ 2147483647) : nb T = some (val 0 T) := by
  unfold nb
  rw [if_pos ⟨h0, h1, h2, h3⟩]
/-- What number and count answer. -/
def NbP (w : World) (r : Option Nat) (en : Ending) (w' : World) : Prop := w.grownBy w' none ∧ ((r = none ∧ en = .returned (.tuple #[.int .i64 0, .bool false])) ∨ ∃ n : Nat, r = some n ∧ en = .returned (.tuple #[.int .i64 (n : Nat), .bool true]))

end Go.Proofs.YtdoclmmghdaaaaaGreatDoor
