import Derived.Test.YtnghkgnpbcadaabDoorCrcM
namespace Go.Proofs.YtnghkgnpbcadaabDoor

/-- What of the pattern is turned behind k rounds, where M bits are left. -/
def part (p M k : Nat) : Nat := p % 2 ^ (min k M)
theorem part_zero (p M : Nat) : part p M 0 = 0 := by unfold part; rw [Nat.zero_min, Nat.pow_zero, Nat.mod_one]
theorem part_no {p M k : Nat} (h : ¬ (p / 2 ^ k % 2 = 1 ∧ k < M)) : part p M (k + 1) = part p M k := by
  unfold part
  by_cases hk : k < M
  · have h0 : p / 2 ^ k % 2 = 0 := by
      rcases Nat.mod_two_eq_zero_or_one (p / 2 ^ k) with h1 | h1
      · exact h1
      · exact absurd ⟨h1, hk⟩ h
    rw [Nat.min_eq_left (by omega), Nat.min_eq_left (by omega), Nat.mod_pow_succ, h0, Nat.mul_zero, Nat.add_zero]
  · rw [Nat.min_eq_right (by omega), Nat.min_eq_right (by omega)]
theorem part_yes {p M k : Nat} (h1 : p / 2 ^ k % 2 = 1) (h2 : k < M) : part p M (k + 1) = part p M k ^^^ 2 ^ k := by
  unfold part
  rw [Nat.min_eq_left (show k + 1 ≤ M by omega), Nat.min_eq_left (show k ≤ M by omega)]
  have e := split_xor k (p % 2 ^ (k + 1))
  have e1 : p % 2 ^ (k + 1) / 2 ^ k = 1 := by rw [Nat.pow_succ, Nat.mod_mul_right_div_self, h1]
  have e2 : p % 2 ^ (k + 1) % 2 ^ k = p % 2 ^ k := by rw [Nat.pow_succ, Nat.mod_mul_right_mod]
  rw [e1, e2, Nat.mul_one] at e
  rw [e, Nat.xor_comm]
theorem part_ne {p M k : Nat} (h1 : p / 2 ^ k % 2 = 1) (h2 : k < M) : part p M (k + 1) ≠ 0 := by
  unfold part
  rw [Nat.min_eq_left (show k + 1 ≤ M by omega), Nat.mod_pow_succ, h1, Nat.mul_one]
  have := Nat.two_pow_pos k
  omega
theorem part_lt {p M k : Nat} (h : p < 4294967296) : part p M k < 4294967296 := Nat.lt_of_le_of_lt (Nat.mod_le _ _) h
theorem stps_bit {M k : Nat} (h : k ≤ M) : stps M (2 ^ k) = stps (M - k) 1 := by
  have h1 := stps_pow k 1
  rw [Nat.mul_one] at h1
  rw [show M = k + (M - k) by omega, stps_add, h1, Nat.add_sub_cancel_left]

theorem flip_set : ∀ (zs : List Int) (i : Nat), i < 8 * zs.length → flip zs i = zs.set (i / 8) ((((zs.getD (i / 8) 0).toNat ^^^ 2 ^ (i % 8) : Nat)) : Int)
  | [], i, h => by simp at h
  | z :: zs, i, h => by
    unfold flip
    by_cases hi : i < 8
    · rw [if_pos hi, Nat.div_eq_of_lt hi, Nat.mod_eq_of_lt hi]; rfl
    · rw [if_neg hi, flip_set zs (i - 8) (by rw [List.length_cons] at h; omega)]
      have e1 : i / 8 = (i - 8) / 8 + 1 := by omega
      have e2 : i % 8 = (i - 8) % 8 := by omega
      rw [e1, e2, List.set_cons_succ, List.getD_cons_succ]

/-- What holds of a list that is turned by a part of the pattern. -/
structure Turned (zs ys : List Int) (M q : Nat) : Prop where
  len : ys.length = zs.length
  bts : Bts ys
  run : ∀ r, runs r ys = runs r zs ^^^ stps M q
theorem Turned.start {zs : List Int} (h : Bts zs) (M : Nat) : Turned zs zs M 0 := ⟨rfl, h, fun r => by rw [stps_zero, Nat.xor_zero]⟩
theorem Turned.flip {zs ys : List Int} {M q k i : Nat} (h : Turned zs ys M q) (hi : i < 8 * zs.length) (hM : M - k = 8 * zs.length - i) (hk : k ≤ M) : Turned zs (flip ys i) M (q ^^^ 2 ^ k) := by
  refine ⟨by rw [flip_len]; exact h.len, flip_bts _ _ h.bts, fun r => ?_⟩
  rw [flip_runs ys i r (by rw [h.len]; exact hi), h.run, stps_xor, stps_bit hk, hM, h.len, Nat.xor_assoc]

theorem bytes_low4 {a b c d : Int} (h : Bts [a, b, c, d]) : ∃ t, t < 4294967296 ∧ [a, b, c, d] = low4 t := by
  have ha := h a (by simp)
  have hb := h b (by simp)
  have hc := h c (by simp)
  have hd := h d (by simp)
  refine ⟨(a + 256 * b + 65536 * c + 16777216 * d).toNat, by omega, ?_⟩
  unfold low4
  simp only [List.cons.injEq, and_true]
  refine ⟨by omega, by omega, by omega, by omega⟩

/-- A page opens just where its bytes leave the one register. -/
theorem page_fits {zs : List Int} (hl : zs.length = 4096) (h : Bts zs) : zs.drop 4092 = low4 (upd 0 (zs.take 4092)) ↔ runs 4294967295 zs = stps 32 4294967295 := by
  have h4 : (zs.drop 4092).length = 4 := by rw [List.length_drop, hl]
  obtain ⟨a, b, c, d, e4⟩ : ∃ a b c d, zs.drop 4092 = [a, b, c, d] := by
    match hz : zs.drop 4092, h4 with
    | [a, b, c, d], _ => exact ⟨a, b, c, d, rfl⟩
  have hb : Bts [a, b, c, d] := by rw [← e4]; exact fun y hy => h y (List.mem_of_mem_drop hy)
  have ht : Bts (zs.take 4092) := fun y hy => h y (List.mem_of_mem_take hy)
  obtain ⟨t, ht1, ht2⟩ := bytes_low4 hb
  have e : zs = zs.take 4092 ++ low4 t := by rw [← ht2, ← e4, List.take_append_drop]
  have e5 := opens_iff ht ht1
  rw [← e] at e5
  rw [e5, e4, ht2]
  constructor
  · intro hlow
    have h1 := upd_lt 0 (zs.take 4092)
    generalize upd 0 (zs.take 4092) = u at *
    unfold low4 at hlow
    simp only [List.cons.injEq, and_true] at hlow
    omega
  · intro e6; rw [e6]

theorem xor_cancel {a b : Nat} : a ^^^ b = a ↔ b = 0 := by
  constructor
  · intro h
    have := congrArg (a ^^^ ·) h
    simpa [← Nat.xor_assoc] using this
  · intro h; rw [h, Nat.xor_zero]

theorem page_turned {zs ys : List Int} {M q : Nat} (hl : zs.length = 4096) (hz : Bts zs) (hf : zs.drop 4092 = low4 (upd 0 (zs.take 4092))) (h : Turned zs ys M q) (hq : q < 4294967296) :
    (ys.drop 4092 = low4 (upd 0 (ys.take 4092)) ↔ q = 0) := by
  rw [page_fits (h.len.trans hl) h.bts, h.run, (page_fits hl hz).1 hf, xor_cancel]
  exact ⟨fun e => stps_ne M hq e, fun e => by rw [e, stps_zero]⟩

theorem sum_turned {zs ys : List Int} {M q : Nat} (hz : Bts zs) (h : Turned zs ys M q) (hq : q < 4294967296) : upd 0 ys = upd 0 zs ↔ q = 0 := by
  have h1 : runs 4294967295 zs < 4294967296 := runs_lt hz (by decide)
  have h2 : runs 4294967295 ys < 4294967296 := runs_lt h.bts (by decide)
  have h3 := h.run 4294967295
  have h4 : upd 0 ys = upd 0 zs ↔ runs 4294967295 ys = runs 4294967295 zs := by unfold upd; rw [Nat.sub_zero]; omega
  rw [h4, h3, xor_cancel]
  exact ⟨fun e => stps_ne M hq e, fun e => by rw [e, stps_zero]⟩
end Go.Proofs.YtnghkgnpbcadaabDoor
