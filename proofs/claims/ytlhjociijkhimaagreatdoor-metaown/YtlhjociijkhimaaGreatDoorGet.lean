import Derived.Test.YtlhjociijkhimaaGreatDoorV
namespace Go.Proofs.YtlhjociijkhimaaGreatDoor
open Go.RowKit

theorem pow8i (z : Int) (i : Nat) (hz : 0 ≤ z) : z * 2 ^ (8 * i) = ((z.toNat * 256 ^ i : Nat) : Int) := by
  have e : (2 : Nat) ^ (8 * i) = 256 ^ i := by rw [Nat.pow_mul]
  have e2 : (2 : Int) ^ (8 * i) = ((256 ^ i : Nat) : Int) := by rw [← e]; simp
  rw [e2, Int.natCast_mul, Int.toNat_of_nonneg hz]

theorem or_byte (a i : Nat) (z : Int) (hz : 0 ≤ z) (hz1 : z ≤ 255) (hi : i ≤ 7) (ha : a < 256 ^ i) :
    bits BinOp.or IntKind.u64 (a : Int) (IntKind.u64.wrap (z * 2 ^ (8 * i))) = ((a + z.toNat * 256 ^ i : Nat) : Int) := by
  have hp : 256 ^ i ≤ 256 ^ 7 := Nat.pow_le_pow_right (by omega) hi
  have hb : z.toNat * 256 ^ i ≤ 255 * 256 ^ i := Nat.mul_le_mul_right _ (by omega)
  have h1 : z * 2 ^ (8 * i) % 18446744073709551616 = z * 2 ^ (8 * i) := by rw [pow8i z i hz]; omega
  rw [IntKind.wrap_u64, h1, pow8i z i hz, u64_or_nat a _ (by omega) (by omega), Nat.or_comm, nat_join (8 * i) _ _ ?_ ?_, Nat.add_comm]
  · rw [Nat.pow_mul]; exact Nat.mul_mod_left _ _
  · rw [Nat.pow_mul]; exact ha

/-- What holds at each round's head of Get. -/
def GetRel (bs : List Int) (w : World) (sx si : Value) (wr : World) : Prop :=
  ∃ (k a : Nat), k ≤ bs.length ∧ si = .int .i64 k ∧ sx = .int .u64 (a : Int) ∧ wr = w ∧ a = le k bs

theorem GetRel.next {bs : List Int} {k a : Nat} {z : Int} {w : World} (hk : k < bs.length) (h8 : bs.length ≤ 8) (hb : Bt bs) (hz : z = bs.getD k 0) (ha : a = le k bs)
    (X' : Int) (hX : X' = bits BinOp.or IntKind.u64 (a : Int) (IntKind.u64.wrap (z * 2 ^ (8 * k)))) (I : Int) (hI : I = (k : Int) + 1) : GetRel bs w (.int .u64 X') (.int .i64 I) w := by
  subst hX hI
  have hz' := hb.getD k
  rw [← hz] at hz'
  have hlt := le_lt k bs hb
  refine ⟨k + 1, le (k + 1) bs, by omega, by go_num, ?_, rfl, rfl⟩
  rw [or_byte a k z hz'.1 hz'.2 (by omega) (by rw [ha]; exact hlt), le_snoc k bs hk, ha, hz]

theorem le_take (k : Nat) : ∀ zs : List Int, le k (zs.take k) = le k zs := by
  induction k with
  | zero => intro zs; rfl
  | succ k ih =>
    intro zs
    cases zs with
    | nil => rfl
    | cons z zs => rw [List.take_succ_cons, le, le, ih]

end Go.Proofs.YtlhjociijkhimaaGreatDoor
