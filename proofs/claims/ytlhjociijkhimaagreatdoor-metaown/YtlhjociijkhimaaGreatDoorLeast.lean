import Derived.Test.YtlhjociijkhimaaGreatDoorRd
namespace Go.Proofs.YtlhjociijkhimaaGreatDoor
open Go.RowKit

theorem pow7i (z : Int) (i : Nat) (hz : 0 ≤ z) : z * 2 ^ (7 * i) = ((z.toNat * 128 ^ i : Nat) : Int) := by
  have e : (2 : Nat) ^ (7 * i) = 128 ^ i := by rw [Nat.pow_mul]
  have e2 : (2 : Int) ^ (7 * i) = ((128 ^ i : Nat) : Int) := by rw [← e]; simp
  rw [e2, Int.natCast_mul, Int.toNat_of_nonneg hz]

theorem or_place (a i : Nat) (z : Int) (hz : 0 ≤ z) (ha : a < 128 ^ i) (hb : z.toNat * 128 ^ i < 18446744073709551616) (ha64 : a < 18446744073709551616) :
    bits BinOp.or IntKind.u64 (a : Int) (z * 2 ^ (7 * i)) = ((a + z.toNat * 128 ^ i : Nat) : Int) := by
  rw [pow7i z i hz, u64_or_nat a _ ha64 hb, Nat.or_comm, nat_join (7 * i) _ _ ?_ ?_, Nat.add_comm]
  · rw [Nat.pow_mul]; exact Nat.mul_mod_left _ _
  · rw [Nat.pow_mul]; exact ha

theorem or_shift (a i : Nat) (z : Int) (hz : 0 ≤ z) (ha : a < 128 ^ i) (hb : z.toNat * 128 ^ i < 18446744073709551616) (ha64 : a < 18446744073709551616) :
    bits BinOp.or IntKind.u64 (a : Int) (IntKind.u64.wrap (z * 2 ^ (7 * i))) = ((a + z.toNat * 128 ^ i : Nat) : Int) := by
  rw [IntKind.wrap_u64]
  have h1 : z * 2 ^ (7 * i) % 18446744073709551616 = z * 2 ^ (7 * i) := by rw [pow7i z i hz]; omega
  rw [h1]; exact or_place a i z hz ha hb ha64

theorem pow_le_9 (i : Nat) (hi : i ≤ 9) : 128 ^ i ≤ 9223372036854775808 := by
  have : 128 ^ i ≤ 128 ^ 9 := Nat.pow_le_pow_right (by omega) hi
  omega
theorem pow_le_8 (i : Nat) (hi : i ≤ 8) : 128 ^ i ≤ 72057594037927936 := by
  have : 128 ^ i ≤ 128 ^ 8 := Nat.pow_le_pow_right (by omega) hi
  omega
theorem mul_small (z : Int) (i : Nat) (hi : i ≤ 8) (hz : z ≤ 127) : z.toNat * 128 ^ i < 18446744073709551616 := by
  have h := pow_le_8 i hi
  have : z.toNat * 128 ^ i ≤ 127 * 128 ^ i := Nat.mul_le_mul_right _ (by omega)
  omega

theorem drop_at {zs : List Int} {k : Nat} (h : k < zs.length) : zs.drop k = zs.getD k 0 :: zs.drop (k + 1) := by
  rw [List.drop_eq_getElem_cons h]
  simp [List.getD, List.getElem?_eq_getElem h]

theorem scan_end {zs : List Int} {k a : Nat} {z : Int} (hk : k < 10) (hl : k < zs.length) (hz : z = zs.getD k 0) (h128 : z < 128) (h : scan (10 - k) k a (zs.drop k) = rv zs) : rv zs = endL a k z := by
  rw [← h, drop_at hl, ← hz, show 10 - k = (9 - k) + 1 by omega, scan, if_pos h128]

theorem scan_more {zs : List Int} {k a : Nat} {z : Int} (hk : k < 10) (hl : k < zs.length) (hz : z = zs.getD k 0) (h128 : ¬ z < 128) (h : scan (10 - k) k a (zs.drop k) = rv zs) :
    scan (10 - (k + 1)) (k + 1) (a + (z - 128).toNat * 128 ^ k) (zs.drop (k + 1)) = rv zs := by
  rw [← h, drop_at hl, ← hz, show 10 - k = (9 - k) + 1 by omega, scan, if_neg h128, show 10 - (k + 1) = 9 - k by omega]

/-- What holds at each round's head of readLeast. -/
def LeastRel (zs : List Int) (M : Nat) (w : World) (sx si : Value) (wr : World) : Prop :=
  ∃ (k : Nat) (X : Int), k ≤ M ∧ si = .int .i64 k ∧ sx = .int .u64 X ∧ wr = w ∧ (k < 10 → ∃ a : Nat, X = (a : Int) ∧ a < 128 ^ k ∧ scan (10 - k) k a (zs.drop k) = rv zs) ∧ (k = 10 → rv zs = (0, 0, 12))

theorem LeastRel.start (zs : List Int) (M : Nat) (w : World) : LeastRel zs M w (.int .u64 0) (.int .i64 0) w :=
  ⟨0, 0, Nat.zero_le _, rfl, rfl, rfl, fun _ => ⟨0, rfl, by simp, rfl⟩, fun h => by omega⟩

theorem LeastRel.next {zs : List Int} {M k a : Nat} {z : Int} {w : World} (hk : k < M) (hM : M ≤ 10) (hl : k < zs.length) (hz : z = zs.getD k 0) (hz1 : z ≤ 255) (h128 : ¬ z < 128) (ha : a < 128 ^ k) (h : scan (10 - k) k a (zs.drop k) = rv zs)
    (X' : Int) (hX : X' = bits BinOp.or IntKind.u64 (a : Int) (IntKind.u64.wrap ((z - 128) * 2 ^ (7 * k)))) (I : Int) (hI : I = (k : Int) + 1) : LeastRel zs M w (.int .u64 X') (.int .i64 I) w := by
  have hm := scan_more (by omega) hl hz h128 h
  have ha64 : a < 18446744073709551616 := by have := pow_le_9 k (by omega); omega
  subst hX hI
  refine ⟨k + 1, _, by omega, by go_num, rfl, rfl, fun hk1 => ⟨a + (z - 128).toNat * 128 ^ k, ?_, ?_, hm⟩, fun hk1 => ?_⟩
  · exact or_shift a k (z - 128) (by omega) ha (mul_small (z - 128) k (by omega) (by omega)) ha64
  · have : (z - 128).toNat * 128 ^ k ≤ 127 * 128 ^ k := Nat.mul_le_mul_right _ (by omega)
    rw [Nat.pow_succ]; omega
  · rw [← hm, hk1]; rfl

end Go.Proofs.YtlhjociijkhimaaGreatDoor
