import Derived.Test.YthebdbdahdegfaaFirst
namespace Go.Proofs.Ythebdbdahdegfaa
open Go.RowKit

theorem div_pow (x j : Nat) : x / 128 / 128 ^ j = x / 128 ^ (j + 1) := by rw [Nat.div_div_eq_div_mul, Nat.pow_succ, Nat.mul_comm]

/-- The digits of a least form. -/
theorem lf_dig : ∀ (f x i : Nat), x < 128 ^ f → i < (lf f x).length →
    (i + 1 = (lf f x).length → (lf f x).getD i 0 = ((x / 128 ^ i : Nat) : Int) ∧ x / 128 ^ i < 128 ∧ (1 ≤ x → 1 ≤ x / 128 ^ i)) ∧
    (i + 1 ≠ (lf f x).length → (lf f x).getD i 0 = ((x / 128 ^ i % 128 + 128 : Nat) : Int))
  | 0, x, i, _, h => by simp [lf] at h
  | f + 1, x, i, hx, h => by
    by_cases hs : x < 128
    · rw [lf_small f x hs] at h ⊢
      simp at h
      subst h
      simp [hs]
    · rw [lf_big f x hs] at h ⊢
      have hxf : x / 128 < 128 ^ f := by rw [Nat.pow_succ] at hx; omega
      have hf : 1 ≤ f := by
        rcases Nat.eq_zero_or_pos f with h0 | h0
        · subst h0; simp at hxf; omega
        · exact h0
      have hp := lf_pos f (x / 128) hf
      cases i with
      | zero =>
        refine ⟨fun e => ?_, fun _ => ?_⟩
        · rw [List.length_cons] at e; omega
        · simp
      | succ j =>
        obtain ⟨h1, h2⟩ := lf_dig f (x / 128) j hxf (by simpa using h)
        rw [List.getD_cons_succ, List.length_cons]
        refine ⟨fun e => ?_, fun e => ?_⟩
        · obtain ⟨a, b, c⟩ := h1 (by omega)
          rw [← div_pow]
          exact ⟨a, b, fun _ => c (by omega)⟩
        · rw [← div_pow]; exact h2 (by omega)

theorem lf_top : ∀ (f x : Nat), x < 128 ^ f → x < 128 ^ (lf f x).length
  | 0, x, h => by simpa [lf] using h
  | f + 1, x, h => by
    by_cases hs : x < 128
    · rw [lf_small f x hs]; simpa using hs
    · rw [lf_big f x hs, List.length_cons, Nat.pow_succ]
      have := lf_top f (x / 128) (by rw [Nat.pow_succ] at h; omega)
      omega

theorem vform_dig (x i : Nat) (hx : x < 18446744073709551616) (hi : i < (vform x).length) :
    (i + 1 = (vform x).length → (vform x).getD i 0 = ((x / 128 ^ i : Nat) : Int) ∧ x / 128 ^ i < 128 ∧ (1 ≤ x → 1 ≤ x / 128 ^ i)) ∧
    (i + 1 ≠ (vform x).length → (vform x).getD i 0 = ((x / 128 ^ i % 128 + 128 : Nat) : Int)) := lf_dig 10 x i (by omega) hi
theorem vform_top (x : Nat) (hx : x < 18446744073709551616) : x / 128 ^ (vform x).length = 0 := Nat.div_eq_of_lt (lf_top 10 x (by omega))

theorem shift7 (x n : Nat) : (x : Int) / 2 ^ (7 * n) = ((x / 128 ^ n : Nat) : Int) := by
  have e : (2 : Nat) ^ (7 * n) = 128 ^ n := by rw [Nat.pow_mul]
  have e2 : (2 : Int) ^ (7 * n) = ((128 ^ n : Nat) : Int) := by rw [← e]; simp
  rw [e2]; simp

set_option maxHeartbeats 1000000 in
set_option maxRecDepth 100000 in
theorem lens_walk (x : Nat) (w : World) (hx : x < 18446744073709551616) :
    Calls Try.prog 4 #[.int .u64 x] w fun e w' => e = .returned (.bool true) ∧ Below w.heap.size w w' := by
  go_enter Try.func4, Try.ntmps4
  go_wp2_with fail
  refine (first_any _).mono ?_
  rintro en w1 ⟨rfl, hg⟩
  have G1 : Hid (w.grownBy w1 none) := hg
  clear hg
  go_wp2_with fail
  refine (putV_nil x _ hx).mono ?_
  rintro en w2 ⟨rfl, hby, hg, hs⟩
  have G2 : Hid (w.grownBy w2 none) := grown_trans G1.out hg
  have hn1 := vform_pos x
  have hn2 := vform_le x
  have HC : Hid (∀ i, i < (vform x).length → w2.cell? ⟨w1.heap.size, i, none⟩ = some (.int .u8 ((vform x).getD i 0))) := by
    obtain ⟨b', off', e, _, hh⟩ := hby.at (by omega)
    simp at e; obtain ⟨rfl, rfl⟩ := e
    intro i hi
    have := hh i hi
    rwa [Nat.zero_add] at this
  have HD := vform_dig x
  have HX : Hid (x / 128 ^ (vform x).length = 0) := vform_top x hx
  have HDD : Hid (∀ i, x < 18446744073709551616 → i < (vform x).length →
    (i + 1 = (vform x).length → (vform x).getD i 0 = ((x / 128 ^ i : Nat) : Int) ∧ x / 128 ^ i < 128 ∧ (1 ≤ x → 1 ≤ x / 128 ^ i)) ∧
    (i + 1 ≠ (vform x).length → (vform x).getD i 0 = ((x / 128 ^ i % 128 + 128 : Nat) : Int))) := HD
  clear hby hg hs HD
  obtain ⟨n, hn⟩ : ∃ n, n = (vform x).length := ⟨_, rfl⟩
  have HV := fun w => vlen_calls x w hx
  have HPP : 1 < (vform x).length → 1 ≤ x := by
    intro h
    rcases Nat.eq_zero_or_pos x with h0 | h0
    · subst h0
      exact absurd h (by decide)
    · exact h0
  rw [← hn] at hn1 hn2 HC HX HDD HV HPP
  have HP : Hid (1 < n → 1 ≤ x) := HPP
  clear HPP
  rw [← hn]
  have HVV : Hid (∀ w, Calls Try.prog 16 #[.int .u64 x] w fun e w' => e = .returned (.int .i64 (n : Nat)) ∧ w' = w) := HV
  clear hn HV
  have hd1 : decide ((n : Int) < 1) = false := by simp; omega
  have hd2 : decide ((10 : Int) < (n : Int)) = false := by simp; omega
  go_wp2_with fail
  refine (HVV.out _).mono ?_
  rintro en w3 ⟨rfl, rfl⟩
  go_wp2
  go_loopw [6, 7] (fun ss si wr => ∃ k : Nat, k ≤ n ∧ si = .int .i64 ((k : Int) - 1) ∧ ss = .int .u64 ((x / 128 ^ k : Nat) : Int) ∧ wr = w3) (fun _ si _ => (intOf si + 1).toNat)
  case atStart => exact ⟨n, Nat.le_refl _, rfl, by rw [HX.out]; rfl, rfl⟩
  case round =>
    obtain ⟨k, hk, rfl, rfl, rfl⟩ := hrel
    rcases k with _ | j
    · have htop := HX.out
      have habove : 1 < n → 1 ≤ x / 128 ^ (n - 1) := fun h => ((HDD.out (n - 1) hx (by omega)).1 (by omega)).2.2 (HP.out h)
      by_cases h10 : n = 10
      · subst h10
        have ha : (0 : Int) < (x : Int) / 9223372036854775808 := by have := habove (by omega); simp at this; omega
        clear htop habove
        go_wp2
        go_ret
        exact ⟨rfl, Below_of G2.out⟩
      · by_cases h1 : n = 1
        · subst h1
          have ha : (x : Int) / 128 = 0 := by simp at htop; omega
          clear htop habove
          go_wp2
          go_ret
          exact ⟨rfl, Below_of G2.out⟩
        · have hb10 : ((n : Int) == 10) = false := by simp; omega
          have hb1 : ((n : Int) == 1) = false := by simp; omega
          have e1 : (x : Int) / 2 ^ (7 * n) = 0 := by rw [shift7, htop]; rfl
          have e2 : (0 : Int) < (x : Int) / 2 ^ (7 * (n - 1)) := by rw [shift7]; have := habove (by omega); omega
          clear htop habove
          go_wp2
          go_ret
          exact ⟨rfl, Below_of G2.out⟩
    · obtain ⟨h1, h2⟩ := HDD.out j hx (by omega)
      have hcell0 := HC.out j (by omega)
      obtain ⟨z, hz⟩ : ∃ z, z = (vform x).getD j 0 := ⟨_, rfl⟩
      rw [← hz] at h1 h2 hcell0
      clear hz
      have hST : x / 128 ^ (j + 1) = x / 128 ^ j / 128 := by rw [Nat.pow_succ, Nat.div_div_eq_div_mul]
      have hTx : x / 128 ^ j ≤ x := Nat.div_le_self _ _
      rw [hST]
      obtain ⟨T, hT⟩ : ∃ T, T = x / 128 ^ j := ⟨_, rfl⟩
      rw [← hT] at h1 h2 hST hTx
      rw [← hT]
      have HT : Hid (T = x / 128 ^ j) := hT
      clear hT hST
      rw [show ((j + 1 : Nat) : Int) - 1 = (j : Int) by omega]
      by_cases hl : j + 1 = n
      · obtain ⟨rfl, hz1, hz2⟩ := h1 hl
        have hlast : ((j : Int) == (n : Int) - 1) = true := by simp; omega
        clear h1 h2
        by_cases hn3 : 1 < n
        · have hz3 : ((T : Int) == 0) = false := by
            have : 1 ≤ x := HP.out hn3
            have := hz2 this
            simp; omega
          clear hz2
          go_wp2
          go_roundw
          case rel => exact ⟨j, by omega, by go_num, by rw [← HT.out]; go_num, trivial⟩
          case measure => simp [intOf]
        · clear hz2
          go_wp2
          go_roundw
          case rel => exact ⟨j, by omega, by go_num, by rw [← HT.out]; go_num, trivial⟩
          case measure => simp [intOf]
      · obtain rfl := h2 hl
        have hlast : ((j : Int) == (n : Int) - 1) = false := by simp; omega
        clear h1 h2
        go_wp2
        go_roundw
        case rel => exact ⟨j, by omega, by go_num, by rw [← HT.out]; go_num, trivial⟩
        case measure => simp [intOf]
end Go.Proofs.Ythebdbdahdegfaa
