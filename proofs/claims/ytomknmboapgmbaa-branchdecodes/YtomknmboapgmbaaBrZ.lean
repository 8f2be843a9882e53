import Derived.Test.YtomknmboapgmbaaBrV
import Derived.Test.YtomknmboapgmbaaBrX1
import Derived.Laws.BitsAllLaws
namespace Go.Proofs.Ytomknmboapgmbaa
open Go.RowKit

theorem xor_byte5 {z x : Int} (hz : 0 ≤ z ∧ z ≤ 255) (hx : 0 ≤ x ∧ x ≤ 255) : 0 ≤ bits .xor .u8 z x ∧ bits .xor .u8 z x ≤ 255 := by
  have e := u8_xor z x hz.1 (by omega) hx.1 (by omega)
  have hlt := Nat.xor_lt_two_pow (x := z.toNat) (y := x.toNat) (n := 8) (by omega) (by omega)
  rw [e]
  omega
theorem Bt.set5 {zs : List Int} (h : Bt zs) (j : Nat) (z : Int) (hz : 0 ≤ z ∧ z ≤ 255) : Bt (zs.set j z) := by
  intro y hy
  rcases List.mem_or_eq_of_mem_set hy with h1 | h1
  · exact h y h1
  · subst h1; exact hz
theorem placeN (x : Int) (n : Nat) (h : 0 < n) : ∃ (k : Nat) (y : Int), k < n ∧ Int.tmod x (n : Int) = y ∧ -(n : Int) < y ∧ y < (n : Int) ∧ Int.tmod (y + (n : Int)) (n : Int) = (k : Int) := by
  have h1 := Int.tmod_lt_of_pos x (show (0 : Int) < (n : Int) by omega)
  have h2 := Int.lt_tmod_of_pos x (show (0 : Int) < (n : Int) by omega)
  have h3 := Int.emod_nonneg (Int.tmod x n + n) (show (n : Int) ≠ 0 by omega)
  have h4 := Int.emod_lt_of_pos (Int.tmod x n + n) (show (0 : Int) < (n : Int) by omega)
  refine ⟨((Int.tmod x n + n) % n).toNat, _, by omega, rfl, h2, h1, ?_⟩
  rw [Int.tmod_eq_emod_of_nonneg (by omega)]
  omega
theorem mem_set5 {L : List (List Int)} {i : Nat} {y : List Int} {P : List Int → Prop} (h : ∀ s ∈ L, P s) (hy : P y) : ∀ s ∈ L.set i y, P s := by
  intro s hs
  rcases List.mem_or_eq_of_mem_set hs with h1 | h1
  · exact h s h1
  · subst h1; exact hy
end Go.Proofs.Ytomknmboapgmbaa
