namespace Go.Proofs.YtkiopabcnemgnaaGreatDoor
def stp (r : Nat) : Nat := if r % 2 = 1 then (r / 2) ^^^ 3988292384 else r / 2
def stps : Nat → Nat → Nat
 | 0, r => r
 | n + 1, r => stps n (stp r)
def runs (r : Nat) (zs : List Int) : Nat := zs.foldl (fun r z => stps 8 (r ^^^ z.toNat)) r
theorem runs_nil (r : Nat) : runs r [] = r := by unfold runs; rw [List.foldl_nil]
theorem runs_cons (r : Nat) (z : Int) (zs : List Int) : runs r (z :: zs) = runs (stps 8 (r ^^^ z.toNat)) zs := by unfold runs; rw [List.foldl_cons]
def upd (c : Nat) (zs : List Int) : Nat := 4294967295 - runs (4294967295 - c) zs
def tab : List Nat := [0, 498536548, 997073096, 651767980, 1994146192, 1802195444, 1303535960, 1342533948, 3988292384, 4027552580, 3604390888, 3412177804, 2607071920, 2262029012, 2685067896, 3183342108]
def low4 (s : Nat) : List Int := [((s % 256 : Nat) : Int), ((s / 256 % 256 : Nat) : Int), ((s / 65536 % 256 : Nat) : Int), ((s / 16777216 % 256 : Nat) : Int)]
theorem xor_div2 (a b : Nat) : (a ^^^ b) / 2 = (a / 2) ^^^ (b / 2) := Nat.xor_div_two
theorem xor_mod2 (a b : Nat) : (a ^^^ b) % 2 = (a % 2) ^^^ (b % 2) := by
 have := @Nat.xor_mod_two_pow a b 1;simpa using this
theorem stp_xor (a b : Nat) : stp (a ^^^ b) = stp a ^^^ stp b := by
 unfold stp;rw [xor_div2, xor_mod2];rcases Nat.mod_two_eq_zero_or_one a with ha | ha <;> rcases Nat.mod_two_eq_zero_or_one b with hb | hb <;> rw [ha, hb] <;> simp
 ·rw [Nat.xor_assoc]
 ·rw [Nat.xor_assoc, Nat.xor_comm (b / 2), ← Nat.xor_assoc]
 ·rw [Nat.xor_assoc, Nat.xor_comm 3988292384, Nat.xor_assoc, Nat.xor_self, Nat.xor_zero]
theorem stps_xor : ∀ (n a b : Nat), stps n (a ^^^ b) = stps n a ^^^ stps n b
 | 0, _, _ => rfl
 | n + 1, a, b => by rw [stps, stps, stps, stp_xor, stps_xor n]
theorem stps_add : ∀ (m n r : Nat), stps (m + n) r = stps n (stps m r)
 | 0, n, r => by rw [Nat.zero_add]; rfl
 | m + 1, n, r => by rw [Nat.succ_add, stps, stps, stps_add m n]
theorem stp_two (k : Nat) : stp (2 * k) = k := by unfold stp; rw [if_neg (by omega)]; omega
theorem stps_pow : ∀ (n k : Nat), stps n (2 ^ n * k) = k
 | 0, k => by rw [stps]; omega
 | n + 1, k => by rw [stps, show 2 ^ (n + 1) * k = 2 * (2 ^ n * k) by rw [Nat.pow_succ]; ac_rfl, stp_two, stps_pow n]
theorem stp_lt {r : Nat} (h : r < 4294967296) : stp r < 4294967296 := by
 unfold stp
 split
 ·have := @Nat.xor_lt_two_pow (r / 2) 3988292384 32 (by omega) (by omega)
  simpa using this
 ·omega
theorem stps_lt : ∀ (n : Nat) {r : Nat}, r < 4294967296 → stps n r < 4294967296
 | 0, _, h => h
 | n + 1, _, h => stps_lt n (stp_lt h)
theorem xor_lt {a b : Nat} (ha : a < 4294967296) (hb : b < 4294967296) : a ^^^ b < 4294967296 := by
 have := @Nat.xor_lt_two_pow a b 32 (by simpa using ha) (by simpa using hb);simpa using this
theorem tab_low : ∀ i, i < 16 → stps 4 i = tab.getD i 0 := by decide
theorem tab_lt : ∀ i, tab.getD i 0 < 4294967296 := by
 intro i
 by_cases h : i < 16
 ·revert i; decide
 ·rw [List.getD, List.getElem?_eq_none (by simp [tab]; omega)]; decide
theorem split_xor (n r : Nat) : r = (2 ^ n * (r / 2 ^ n)) ^^^ (r % 2 ^ n) := by
 apply Nat.eq_of_testBit_eq;intro i;rw [Nat.testBit_xor, Nat.testBit_mod_two_pow, Nat.mul_comm, Nat.testBit_mul_two_pow, Nat.testBit_div_two_pow]
 by_cases h : n ≤ i
 ·have : ¬ i < n := by omega
  simp [h, this, Nat.sub_add_cancel h]
 ·have : i < n := by omega
  simp [h, this]
theorem four_steps (r : Nat) : stps 4 r = (r / 16) ^^^ tab.getD (r % 16) 0 := by
 have e := split_xor 4 r;have h := congrArg (stps 4) e;rw [stps_xor, stps_pow] at h;rw [h, tab_low _ (by have := Nat.mod_lt r (show 2 ^ 4 > 0 by decide); simpa using this)]
theorem not_xor {c : Nat} (h : c < 4294967296) : 4294967295 - c = 4294967295 ^^^ c := by
 apply Nat.eq_of_testBit_eq;intro i;have h1 := @Nat.testBit_two_pow_sub_succ c 32 (by simpa using h) i;have h2 := @Nat.testBit_two_pow_sub_one 32 i;rw [Nat.testBit_xor, show (4294967295 : Nat) - c = 2 ^ 32 - (c + 1) by omega, h1, show (4294967295 : Nat) = 2 ^ 32 - 1 by decide, h2]
 by_cases hi : i < 32
 ·simp [hi]
 ·have : c.testBit i = false := Nat.testBit_lt_two_pow (Nat.lt_of_lt_of_le (show c < 2 ^ 32 by simpa using h) (Nat.pow_le_pow_right (by decide) (by omega)))
  simp [hi, this]
def Bts (zs : List Int) : Prop := ∀ z ∈ zs, 0 ≤ z ∧ z ≤ 255
theorem runs_app : ∀ (a b : List Int) (r : Nat), runs r (a ++ b) = runs (runs r a) b
 | [], b, r => by rw [List.nil_append, runs_nil]
 | z :: a, b, r => by rw [List.cons_append, runs_cons r z (a ++ b), runs_cons r z a, runs_app a b]
theorem runs_lt : ∀ {zs : List Int} {r : Nat}, Bts zs → r < 4294967296 → runs r zs < 4294967296
 | [], _, _, h => by rw [runs_nil]; exact h
 | z :: zs, r, hb, h => by
  rw [runs_cons];have hz := hb z (List.mem_cons_self ..);exact runs_lt (fun y hy => hb y (List.mem_cons_of_mem _ hy)) (stps_lt 8 (xor_lt h (by omega)))
theorem upd_lt (c : Nat) (zs : List Int) : upd c zs < 4294967296 := by unfold upd; omega
theorem byte_in (r s : Nat) : stps 8 (r ^^^ s) = stps 8 (r ^^^ (s % 256)) ^^^ (s / 256) := by
 have e := split_xor 8 s
 conv => lhs; rw [e]
 rw [show (2 : Nat) ^ 8 = 256 by decide, Nat.xor_comm (256 * (s / 256)), ← Nat.xor_assoc, stps_xor];have h8 := stps_pow 8 (s / 256);rw [show (2 : Nat) ^ 8 = 256 by decide] at h8;rw [h8]
theorem low4_runs (r s : Nat) (h : s < 4294967296) : runs r (low4 s) = stps 32 (r ^^^ s) := by
 unfold low4;rw [runs_cons, runs_cons, runs_cons, runs_cons, runs_nil];simp only [Int.toNat_natCast];rw [show (32 : Nat) = 8 + (8 + (8 + 8)) by decide, stps_add, stps_add, stps_add];rw [byte_in r s, byte_in _ (s / 256), byte_in _ (s / 256 / 256), Nat.div_div_eq_div_mul, Nat.div_div_eq_div_mul];have : s / (256 * 256 * 256) % 256 = s / (256 * 256 * 256) := by omega
 show _ = stps 8 (_ ^^^ s / (256 * 256 * 256))
 rw [show (16777216 : Nat) = 256 * 256 * 256 by decide, this]
theorem low4_bts (s : Nat) : Bts (low4 s) := by
 intro z hz;unfold low4 at hz;simp only [List.mem_cons, List.not_mem_nil, or_false] at hz;omega
theorem behind {zs : List Int} (h : Bts zs) : upd 0 (zs ++ low4 (upd 0 zs)) = 558161692 := by
 have h1 : runs 4294967295 zs < 4294967296 := runs_lt h (by decide);unfold upd;rw [runs_app, low4_runs _ _ (by omega)];simp only [Nat.sub_zero];rw [not_xor h1, Nat.xor_comm 4294967295, ← Nat.xor_assoc, Nat.xor_self, Nat.zero_xor]
 decide
end Go.Proofs.YtkiopabcnemgnaaGreatDoor
namespace Go.Proofs.YtkiopabcnemgnaaGreatDoor
def stpF (r : Nat) : Nat := Nat.xor (Nat.div r 2) (Nat.mul 3988292384 (Nat.mod r 2))
def stepsF : Nat → Nat → Nat
 | 0, r => r
 | n + 1, r => stepsF n (stpF r)
theorem stpF_eq (r : Nat) : stpF r = stp r := by
 unfold stp
 show (r / 2) ^^^ (3988292384 * (r % 2)) = _
 rcases Nat.mod_two_eq_zero_or_one r with h | h
 ·rw [h, if_neg (by decide), Nat.mul_zero, Nat.xor_zero]
 ·rw [h, if_pos rfl, Nat.mul_one]
theorem stepsF_eq : ∀ (n r : Nat), stepsF n r = stps n r
 | 0, r => by rw [stepsF, stps]
 | n + 1, r => by rw [stepsF, stps, stepsF_eq n, stpF_eq]
theorem runs_zeros : ∀ (n r : Nat), runs r (List.replicate n 0) = stps (8 * n) r
 | 0, r => by rw [List.replicate_zero, runs_nil, Nat.mul_zero, stps]
 | n + 1, r => by
  rw [List.replicate_succ, runs_cons, runs_zeros n, show 8 * (n + 1) = 8 + 8 * n by omega, stps_add];simp
set_option maxRecDepth 100000
theorem zeros0 : stps 2046 4294967295 = 2135418398 := by rw [← stepsF_eq]; decide +kernel
theorem zeros1 : stps 2046 2135418398 = 243187190 := by rw [← stepsF_eq]; decide +kernel
theorem zeros2 : stps 2046 243187190 = 4199673923 := by rw [← stepsF_eq]; decide +kernel
theorem zeros3 : stps 2046 4199673923 = 2418707354 := by rw [← stepsF_eq]; decide +kernel
theorem zeros4 : stps 2046 2418707354 = 1200705739 := by rw [← stepsF_eq]; decide +kernel
theorem zeros5 : stps 2046 1200705739 = 1973025496 := by rw [← stepsF_eq]; decide +kernel
theorem zeros6 : stps 2046 1973025496 = 2751258002 := by rw [← stepsF_eq]; decide +kernel
theorem zeros7 : stps 2046 2751258002 = 3240402356 := by rw [← stepsF_eq]; decide +kernel
theorem zeros8 : stps 2046 3240402356 = 2227774503 := by rw [← stepsF_eq]; decide +kernel
theorem zeros9 : stps 2046 2227774503 = 3378770147 := by rw [← stepsF_eq]; decide +kernel
theorem zeros10 : stps 2046 3378770147 = 1138915294 := by rw [← stepsF_eq]; decide +kernel
theorem zeros11 : stps 2046 1138915294 = 1946035713 := by rw [← stepsF_eq]; decide +kernel
theorem zeros12 : stps 2046 1946035713 = 1844460268 := by rw [← stepsF_eq]; decide +kernel
theorem zeros13 : stps 2046 1844460268 = 613129821 := by rw [← stepsF_eq]; decide +kernel
theorem zeros14 : stps 2046 613129821 = 3196118415 := by rw [← stepsF_eq]; decide +kernel
theorem zeros15 : stps 2046 3196118415 = 2680486774 := by rw [← stepsF_eq]; decide +kernel
theorem zeros_reg : stps 32736 4294967295 = 2680486774 := by
 rw [show (32736 : Nat) = 2046 + (2046 + (2046 + (2046 + (2046 + (2046 + (2046 + (2046 + (2046 + (2046 + (2046 + (2046 + (2046 + (2046 + (2046 + (2046))))))))))))))) by decide];rw [stps_add, zeros0, stps_add, zeros1, stps_add, zeros2, stps_add, zeros3, stps_add, zeros4, stps_add, zeros5, stps_add, zeros6, stps_add, zeros7, stps_add, zeros8, stps_add, zeros9, stps_add, zeros10, stps_add, zeros11, stps_add, zeros12, stps_add, zeros13, stps_add, zeros14, zeros15]
theorem sum_zeros : upd 0 (List.replicate 4092 0) = 1614480521 := by
 unfold upd;rw [runs_zeros, Nat.sub_zero, show 8 * 4092 = 32736 by decide, zeros_reg]
theorem low_zeros : low4 1614480521 = [137, 4, 59, 96] := by decide +kernel
end Go.Proofs.YtkiopabcnemgnaaGreatDoor
namespace Go.Proofs.YtkiopabcnemgnaaGreatDoor
def part (p M k : Nat) : Nat := p % 2 ^ (min k M)
end Go.Proofs.YtkiopabcnemgnaaGreatDoor
