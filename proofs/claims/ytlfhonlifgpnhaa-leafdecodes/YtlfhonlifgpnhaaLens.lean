import Derived.Test.YtlfhonlifgpnhaaFirst
namespace Go.Proofs.Ytlfhonlifgpnhaa
open Go.RowKit

theorem div_pow (x j : Nat) : x / 128 / 128 ^ j = x / 128 ^ (j + 1) := by rw [Nat.div_div_eq_div_mul, Nat.pow_succ, Nat.mul_comm]

/-- The digits of a least form. -/
theorem lf_dig : ∀ (f x i : Nat), x < 128 ^ f → i < (lf f x).length →
    (i + 1 = (lf f x).length → (lf f x).getD i 0 = ((x / 128 ^ i : Nat) : Int) ∧ x / 128 ^ i < 128 ∧ (1 ≤ x → 1 ≤ x / 128 ^ i)) ∧
    (i + 1 ≠ (lf f x).length → (lf f x).getD i 0 = ((x / 128 ^ i % 128 + 128 : Nat) : Int))
  | 0, x, i, _, h => by simp [lf] at h
  | f + 1, x, i, hx, h => by
    by_cases hs : x < 128
    · rw [lf_small f x hs] at h ⊢
      simp at h
      subst h
      simp [hs]
    · rw [lf_big f x hs] at h ⊢
      have hxf : x / 128 < 128 ^ f := by rw [Nat.pow_succ] at hx; omega
      have hf : 1 ≤ f := by
        rcases Nat.eq_zero_or_pos f with h0 | h0
        · subst h0; simp at hxf; omega
        · exact h0
      have hp := lf_pos f (x / 128) hf
      cases i with
      | zero =>
        refine ⟨fun e => ?_, fun _ => ?_⟩
        · rw [List.length_cons] at e; omega
        · simp
      | succ j =>
        obtain ⟨h1, h2⟩ := lf_dig f (x / 128) j hxf (by simpa using h)
        rw [List.getD_cons_succ, List.length_cons]
        refine ⟨fun e => ?_, fun e => ?_⟩
        · obtain ⟨a, b, c⟩ := h1 (by omega)
          rw [← div_pow]
          exact ⟨a, b, fun _ => c (by omega)⟩
        · rw [← div_pow]; exact h2 (by omega)

theorem lf_top : ∀ (f x : Nat), x < 128 ^ f → x < 128 ^ (lf f x).length
  | 0, x, h => by simpa [lf] using h
  | f + 1, x, h => by
    by_cases hs : x < 128
    · rw [lf_small f x hs]; simpa using hs
    · rw [lf_big f x hs, List.length_cons, Nat.pow_succ]
      have := lf_top f (x / 128) (by rw [Nat.pow_succ] at h; omega)
      omega

theorem vform_dig (x i : Nat) (hx : x < 18446744073709551616) (hi : i < (vform x).length) :
    (i + 1 = (vform x).length → (vform x).getD i 0 = ((x / 128 ^ i : Nat) : Int) ∧ x / 128 ^ i < 128 ∧ (1 ≤ x → 1 ≤ x / 128 ^ i)) ∧
    (i + 1 ≠ (vform x).length → (vform x).getD i 0 = ((x / 128 ^ i % 128 + 128 : Nat) : Int)) := lf_dig 10 x i (by omega) hi
theorem vform_top (x : Nat) (hx : x < 18446744073709551616) : x / 128 ^ (vform x).length = 0 := Nat.div_eq_of_lt (lf_top 10 x (by omega))

theorem shift7 (x n : Nat) : (x : Int) / 2 ^ (7 * n) = ((x / 128 ^ n : Nat) : Int) := by
  have e : (2 : Nat) ^ (7 * n) = 128 ^ n := by rw [Nat.pow_mul]
  have e2 : (2 : Int) ^ (7 * n) = ((128 ^ n : Nat) : Int) := by rw [← e]; simp
  rw [e2]; simp

end Go.Proofs.Ytlfhonlifgpnhaa
