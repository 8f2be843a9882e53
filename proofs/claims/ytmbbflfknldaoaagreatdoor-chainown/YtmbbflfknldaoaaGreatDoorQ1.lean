import Derived.Lib.BitFns
import Derived.Lib.ItoaNum
import Derived.Laws.BitsAllLaws
namespace Go.Proofs.YtmbbflfknldaoaaGreatDoor
def lf : Nat → Nat → List Int
 | 0, _ => []
 | f + 1, x => if x < 128 then [(x : Int)] else ((x % 128 + 128 : Nat) : Int) :: lf f (x / 128)
def vform (x : Nat) : List Int := lf 10 x
def lb : Nat → Nat → List Int
 | 0, _ => []
 | k + 1, x => ((x % 256 : Nat) : Int) :: lb k (x / 256)
theorem lb_len : ∀ (k x : Nat), (lb k x).length = k
 | 0, _ => rfl
 | k + 1, x => by simp [lb, lb_len k]
theorem lb_snoc : ∀ (k x : Nat), lb (k + 1) x = lb k x ++ [((x / 256 ^ k % 256 : Nat) : Int)]
 | 0, x => by simp [lb]
 | k + 1, x => by
  rw [lb, lb_snoc k (x / 256), lb, List.cons_append, Nat.div_div_eq_div_mul, Nat.pow_succ, Nat.mul_comm 256]
theorem lb_bt : ∀ (k x : Nat), ∀ z ∈ lb k x, 0 ≤ z ∧ z ≤ 255
 | 0, x => by intro z h; simp [lb] at h
 | k + 1, x => by
  intro z h
  rcases List.mem_cons.1 h with rfl | h
  ·omega
  ·exact lb_bt k _ z h
def le : Nat → List Int → Nat
 | 0, _ => 0
 | _ + 1, [] => 0
 | k + 1, z :: zs => z.toNat + 256 * le k zs
theorem le_lt : ∀ (k : Nat) (zs : List Int), (∀ z ∈ zs, 0 ≤ z ∧ z ≤ 255) → le k zs < 256 ^ k
 | 0, _, _ => by simp [le]
 | k + 1, [], _ => by simp [le]; exact Nat.pos_of_ne_zero (by simp)
 | k + 1, z :: zs, h => by
  have := le_lt k zs (fun y hy => h y (List.mem_cons_of_mem _ hy))
  have hz := h z List.mem_cons_self
  rw [le, Nat.pow_succ]; omega
theorem le_lb : ∀ (k x : Nat) (t : List Int), le k (lb k x ++ t) = x % 256 ^ k
 | 0, x, t => by simp [le, Nat.mod_one]
 | k + 1, x, t => by
  rw [lb, List.cons_append, le, le_lb k, Nat.pow_succ, Nat.mul_comm (256 ^ k), Nat.mod_mul, Int.toNat_natCast]
theorem le_snoc : ∀ (k : Nat) (zs : List Int), k < zs.length → le (k + 1) zs = le k zs + (zs.getD k 0).toNat * 256 ^ k
 | 0, z :: zs, _ => by simp [le]
 | k + 1, z :: zs, h => by
  have := le_snoc k zs (by simpa using h)
  rw [le, this, le, Nat.pow_succ]
  simp only [List.getD_cons_succ]
  rw [Nat.mul_add, Nat.add_assoc, Nat.mul_left_comm, Nat.mul_comm (256 ^ k) 256]
def endL (a i : Nat) (z : Int) : Nat × Nat × Int :=
 if i = 9 ∧ 1 < z then (0, 0, 12) else if 0 < i ∧ z = 0 then (0, 0, 11) else (a + z.toNat * 128 ^ i, i + 1, 0)
def scan : Nat → Nat → Nat → List Int → Nat × Nat × Int
 | 0, _, _, _ => (0, 0, 12)
 | _ + 1, _, _, [] => (0, 0, 10)
 | f + 1, i, a, z :: zs => if z < 128 then endL a i z else scan f (i + 1) (a + (z - 128).toNat * 128 ^ i) zs
def rv (zs : List Int) : Nat × Nat × Int := scan 10 0 0 zs
end Go.Proofs.YtmbbflfknldaoaaGreatDoor
