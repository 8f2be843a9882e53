import Derived.Test.YtkiopabcnemgnaaGreatDoorQ4
import Derived.Test.YtkiopabcnemgnaaGreatDoorQ5
namespace Go.Proofs.YtkiopabcnemgnaaGreatDoor
open Go.RowKit
theorem ret_true {b : Bool} (h : b = true) : Ending.returned (.bool b) = .returned (.bool true) := by rw [h]
theorem lb_258 : ([7] : List Int) ++ lb 2 258 = [7, 2, 1] := by decide
theorem vf_1201 : vform 1201 = [177, 9] := by decide
theorem rv_first : rv (([2, 1, 177, 9, 3, 4, 5] : List Int).drop (0 + 2)) = (1201, 2, 0) := by decide
theorem le_first : le 2 (([2, 1, 177, 9, 3, 4, 5] : List Int).drop 0) = 258 := by decide
theorem bt_first : Bt [2, 1, 177, 9, 3, 4, 5] := by intro z h; simp at h; omega
theorem grown_new {a b c : World} {R : Nat} (h : a.grownBy b none) (k : b.grownBy c (some R)) (hR : a.heap.size ≤ R) : a.grownBy c none :=
 ⟨k.os.trans h.os, k.tape.trans h.tape, k.output.trans h.output, Nat.le_trans h.size k.size,
  fun i hi _ => (k.block i (Nat.lt_of_lt_of_le hi h.size) (by intro e; have := Option.some.inj e; omega)).trans (h.block i hi (by simp))⟩
theorem div_pow (x j : Nat) : x / 128 / 128 ^ j = x / 128 ^ (j + 1) := by rw [Nat.div_div_eq_div_mul, Nat.pow_succ, Nat.mul_comm]
theorem lf_dig : ∀ (f x i : Nat), x < 128 ^ f → i < (lf f x).length →
  (i + 1 = (lf f x).length → (lf f x).getD i 0 = ((x / 128 ^ i : Nat) : Int) ∧ x / 128 ^ i < 128 ∧ (1 ≤ x → 1 ≤ x / 128 ^ i)) ∧
  (i + 1 ≠ (lf f x).length → (lf f x).getD i 0 = ((x / 128 ^ i % 128 + 128 : Nat) : Int))
 | 0, x, i, _, h => by simp [lf] at h
 | f + 1, x, i, hx, h => by
  by_cases hs : x < 128
  ·rw [lf_small f x hs] at h ⊢
   simp at h
   subst h
   simp [hs]
  ·rw [lf_big f x hs] at h ⊢
   have hxf : x / 128 < 128 ^ f := by rw [Nat.pow_succ] at hx; omega
   have hf : 1 ≤ f := by
    rcases Nat.eq_zero_or_pos f with h0 | h0
    ·subst h0; simp at hxf; omega
    ·exact h0
   have hp := lf_pos f (x / 128) hf
   cases i with
   | zero =>
    refine ⟨fun e => ?_, fun _ => ?_⟩
    ·rw [List.length_cons] at e; omega
    ·simp
   | succ j =>
    obtain ⟨h1, h2⟩ := lf_dig f (x / 128) j hxf (by simpa using h)
    rw [List.getD_cons_succ, List.length_cons]
    refine ⟨fun e => ?_, fun e => ?_⟩
    ·obtain ⟨a, b, c⟩ := h1 (by omega)
     rw [← div_pow]
     exact ⟨a, b, fun _ => c (by omega)⟩
    ·rw [← div_pow]; exact h2 (by omega)
theorem lf_top : ∀ (f x : Nat), x < 128 ^ f → x < 128 ^ (lf f x).length
 | 0, x, h => by simpa [lf] using h
 | f + 1, x, h => by
  by_cases hs : x < 128
  ·rw [lf_small f x hs]; simpa using hs
  ·rw [lf_big f x hs, List.length_cons, Nat.pow_succ]
   have := lf_top f (x / 128) (by rw [Nat.pow_succ] at h; omega)
   omega
theorem vform_dig (x i : Nat) (hx : x < 18446744073709551616) (hi : i < (vform x).length) :
  (i + 1 = (vform x).length → (vform x).getD i 0 = ((x / 128 ^ i : Nat) : Int) ∧ x / 128 ^ i < 128 ∧ (1 ≤ x → 1 ≤ x / 128 ^ i)) ∧
  (i + 1 ≠ (vform x).length → (vform x).getD i 0 = ((x / 128 ^ i % 128 + 128 : Nat) : Int)) := lf_dig 10 x i (by omega) hi
theorem vform_top (x : Nat) (hx : x < 18446744073709551616) : x / 128 ^ (vform x).length = 0 := Nat.div_eq_of_lt (lf_top 10 x (by omega))
theorem shift7 (x n : Nat) : (x : Int) / 2 ^ (7 * n) = ((x / 128 ^ n : Nat) : Int) := by
 have e : (2 : Nat) ^ (7 * n) = 128 ^ n := by rw [Nat.pow_mul]
 have e2 : (2 : Int) ^ (7 * n) = ((128 ^ n : Nat) : Int) := by rw [← e]; simp
 rw [e2]; simp
end Go.Proofs.YtkiopabcnemgnaaGreatDoor
