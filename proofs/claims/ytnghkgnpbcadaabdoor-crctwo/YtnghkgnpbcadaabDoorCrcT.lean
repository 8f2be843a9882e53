import Derived.Test.YtnghkgnpbcadaabDoorCrcM
namespace Go.Proofs.YtnghkgnpbcadaabDoor

/-- A step, in words that the kernel reckons with. -/
def stpF (r : Nat) : Nat := Nat.xor (Nat.div r 2) (Nat.mul 3988292384 (Nat.mod r 2))
def stepsF : Nat → Nat → Nat
  | 0, r => r
  | n + 1, r => stepsF n (stpF r)
theorem stpF_eq (r : Nat) : stpF r = stp r := by
  unfold stp
  show (r / 2) ^^^ (3988292384 * (r % 2)) = _
  rcases Nat.mod_two_eq_zero_or_one r with h | h
  · rw [h, if_neg (by decide), Nat.mul_zero, Nat.xor_zero]
  · rw [h, if_pos rfl, Nat.mul_one]
theorem stepsF_eq : ∀ (n r : Nat), stepsF n r = stps n r
  | 0, r => by rw [stepsF, stps]
  | n + 1, r => by rw [stepsF, stps, stepsF_eq n, stpF_eq]
theorem runs_zeros : ∀ (n r : Nat), runs r (List.replicate n 0) = stps (8 * n) r
  | 0, r => by rw [List.replicate_zero, runs_nil, Nat.mul_zero, stps]
  | n + 1, r => by
    rw [List.replicate_succ, runs_cons, runs_zeros n, show 8 * (n + 1) = 8 + 8 * n by omega, stps_add]
    simp
set_option maxRecDepth 100000
theorem zeros0 : stps 2046 4294967295 = 2135418398 := by rw [← stepsF_eq]; decide +kernel
theorem zeros1 : stps 2046 2135418398 = 243187190 := by rw [← stepsF_eq]; decide +kernel
theorem zeros2 : stps 2046 243187190 = 4199673923 := by rw [← stepsF_eq]; decide +kernel
theorem zeros3 : stps 2046 4199673923 = 2418707354 := by rw [← stepsF_eq]; decide +kernel
theorem zeros4 : stps 2046 2418707354 = 1200705739 := by rw [← stepsF_eq]; decide +kernel
theorem zeros5 : stps 2046 1200705739 = 1973025496 := by rw [← stepsF_eq]; decide +kernel
theorem zeros6 : stps 2046 1973025496 = 2751258002 := by rw [← stepsF_eq]; decide +kernel
theorem zeros7 : stps 2046 2751258002 = 3240402356 := by rw [← stepsF_eq]; decide +kernel
theorem zeros8 : stps 2046 3240402356 = 2227774503 := by rw [← stepsF_eq]; decide +kernel
theorem zeros9 : stps 2046 2227774503 = 3378770147 := by rw [← stepsF_eq]; decide +kernel
theorem zeros10 : stps 2046 3378770147 = 1138915294 := by rw [← stepsF_eq]; decide +kernel
theorem zeros11 : stps 2046 1138915294 = 1946035713 := by rw [← stepsF_eq]; decide +kernel
theorem zeros12 : stps 2046 1946035713 = 1844460268 := by rw [← stepsF_eq]; decide +kernel
theorem zeros13 : stps 2046 1844460268 = 613129821 := by rw [← stepsF_eq]; decide +kernel
theorem zeros14 : stps 2046 613129821 = 3196118415 := by rw [← stepsF_eq]; decide +kernel
theorem zeros15 : stps 2046 3196118415 = 2680486774 := by rw [← stepsF_eq]; decide +kernel
theorem zeros_reg : stps 32736 4294967295 = 2680486774 := by
  rw [show (32736 : Nat) = 2046 + (2046 + (2046 + (2046 + (2046 + (2046 + (2046 + (2046 + (2046 + (2046 + (2046 + (2046 + (2046 + (2046 + (2046 + (2046))))))))))))))) by decide]
  rw [stps_add, zeros0, stps_add, zeros1, stps_add, zeros2, stps_add, zeros3, stps_add, zeros4, stps_add, zeros5, stps_add, zeros6, stps_add, zeros7, stps_add, zeros8, stps_add, zeros9, stps_add, zeros10, stps_add, zeros11, stps_add, zeros12, stps_add, zeros13, stps_add, zeros14, zeros15]
theorem sum_zeros : upd 0 (List.replicate 4092 0) = 1614480521 := by
  unfold upd
  rw [runs_zeros, Nat.sub_zero, show 8 * 4092 = 32736 by decide, zeros_reg]
theorem sum_digits : upd 0 [49, 50, 51, 52, 53, 54, 55, 56, 57] = 3421780262 := by decide +kernel
theorem sum_wood : upd 2020813254 [32, 119, 111, 111, 100] = 268748336 := by decide +kernel
theorem low_zeros : low4 1614480521 = [137, 4, 59, 96] := by decide +kernel
end Go.Proofs.YtnghkgnpbcadaabDoor
