import Derived.Test.YtoakngmagoilnaaQ2
import Derived.Lib.Bytealg
import Derived.Lib.BytesEntry
namespace Go.Proofs.Ytoakngmagoilnaa
open Go.RowKit
def cmpZ : List Int → List Int → Int
 | [], [] => 0
 | [], _ :: _ => -1
 | _ :: _, [] => 1
 | a :: al, b :: bl => if a < b then -1 else if b < a then 1 else cmpZ al bl
def com : List Int → List Int → Nat
 | a :: al, b :: bl => if a = b then com al bl + 1 else 0
 | _, _ => 0
theorem com_nil (b : List Int) : com [] b = 0 := by unfold com; rfl
theorem com_nil2 (a : List Int) : com a [] = 0 := by cases a <;> rfl
theorem com_cons (a b : Int) (al bl : List Int) : com (a :: al) (b :: bl) = if a = b then com al bl + 1 else 0 := by rw [com]
theorem com_le1 : ∀ (a b : List Int), com a b ≤ a.length
 | [], b => by rw [com_nil]; exact Nat.zero_le _
 | a :: al, [] => by rw [com_nil2]; exact Nat.zero_le _
 | a :: al, b :: bl => by
  rw [com_cons]; split
  ·have := com_le1 al bl; simp; exact this
  ·exact Nat.zero_le _
theorem com_le2 : ∀ (a b : List Int), com a b ≤ b.length
 | [], b => by rw [com_nil]; exact Nat.zero_le _
 | a :: al, [] => by rw [com_nil2]; exact Nat.zero_le _
 | a :: al, b :: bl => by
  rw [com_cons]; split
  ·have := com_le2 al bl; simp; exact this
  ·exact Nat.zero_le _
theorem drop_cons {a : List Int} {i : Nat} (h : i < a.length) : a.drop i = a.getD i 0 :: a.drop (i + 1) := by
 rw [List.drop_eq_getElem_cons h]; simp [List.getD, List.getElem?_eq_getElem h]
theorem com_on {a b : List Int} {i : Nat} (ha : i < a.length) (hb : i < b.length) (h : a.getD i 0 = b.getD i 0) : com (a.drop i) (b.drop i) = com (a.drop (i + 1)) (b.drop (i + 1)) + 1 := by
 rw [drop_cons ha, drop_cons hb, com_cons, if_pos h]
theorem com_off {a b : List Int} {i : Nat} (ha : i < a.length) (hb : i < b.length) (h : a.getD i 0 ≠ b.getD i 0) : com (a.drop i) (b.drop i) = 0 := by
 rw [drop_cons ha, drop_cons hb, com_cons, if_neg h]
theorem com_end {a b : List Int} {i : Nat} (h : a.length ≤ i ∨ b.length ≤ i) : com (a.drop i) (b.drop i) = 0 := by
 rcases h with h | h
 ·rw [List.drop_of_length_le h, com_nil]
 ·rw [List.drop_of_length_le h, com_nil2]
theorem com_take : ∀ (n : Nat) (a b : List Int), com (a.take n) b = min n (com a b)
 | 0, a, b => by rw [List.take_zero, com_nil]; omega
 | n + 1, [], b => by rw [List.take_nil, com_nil]; omega
 | n + 1, a :: al, [] => by rw [com_nil2, com_nil2]; omega
 | n + 1, a :: al, b :: bl => by
  rw [List.take_succ_cons, com_cons, com_cons]
  split
  ·rw [com_take n al bl]; omega
  ·omega
def comAll (f : List Int) (n : Nat) (l : List (List Int)) : Nat := l.foldl (fun n s => min n (com f s)) n
theorem comAll_cons (f : List Int) (n : Nat) (s : List Int) (l : List (List Int)) : comAll f n (s :: l) = comAll f (min n (com f s)) l := rfl
theorem comAll_le (f : List Int) : ∀ (l : List (List Int)) (n : Nat), comAll f n l ≤ n
 | [], n => Nat.le_refl _
 | s :: l, n => by rw [comAll_cons]; have := comAll_le f l (min n (com f s)); omega
end Go.Proofs.Ytoakngmagoilnaa
