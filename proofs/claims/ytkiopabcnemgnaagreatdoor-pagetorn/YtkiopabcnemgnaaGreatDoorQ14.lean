namespace Go.Proofs.YtkiopabcnemgnaaGreatDoor
def stp (r : Nat) : Nat := if r % 2 = 1 then (r / 2) ^^^ 3988292384 else r / 2
def stps : Nat → Nat → Nat
 | 0, r => r
 | n + 1, r => stps n (stp r)
def runs (r : Nat) (zs : List Int) : Nat := zs.foldl (fun r z => stps 8 (r ^^^ z.toNat)) r
theorem runs_nil (r : Nat) : runs r [] = r := by unfold runs; rw [List.foldl_nil]
theorem runs_cons (r : Nat) (z : Int) (zs : List Int) : runs r (z :: zs) = runs (stps 8 (r ^^^ z.toNat)) zs := by unfold runs; rw [List.foldl_cons]
def upd (c : Nat) (zs : List Int) : Nat := 4294967295 - runs (4294967295 - c) zs
def tab : List Nat := [0, 498536548, 997073096, 651767980, 1994146192, 1802195444, 1303535960, 1342533948, 3988292384, 4027552580, 3604390888, 3412177804, 2607071920, 2262029012, 2685067896, 3183342108]
def low4 (s : Nat) : List Int := [((s % 256 : Nat) : Int), ((s / 256 % 256 : Nat) : Int), ((s / 65536 % 256 : Nat) : Int), ((s / 16777216 % 256 : Nat) : Int)]
theorem xor_div2 (a b : Nat) : (a ^^^ b) / 2 = (a / 2) ^^^ (b / 2) := Nat.xor_div_two
theorem xor_mod2 (a b : Nat) : (a ^^^ b) % 2 = (a % 2) ^^^ (b % 2) := by
 have := @Nat.xor_mod_two_pow a b 1
 simpa using this
theorem stp_xor (a b : Nat) : stp (a ^^^ b) = stp a ^^^ stp b := by
 unfold stp
 rw [xor_div2, xor_mod2]
 rcases Nat.mod_two_eq_zero_or_one a with ha | ha <;> rcases Nat.mod_two_eq_zero_or_one b with hb | hb <;> rw [ha, hb] <;> simp
 ·rw [Nat.xor_assoc]
 ·rw [Nat.xor_assoc, Nat.xor_comm (b / 2), ← Nat.xor_assoc]
 ·rw [Nat.xor_assoc, Nat.xor_comm 3988292384, Nat.xor_assoc, Nat.xor_self, Nat.xor_zero]
theorem stps_xor : ∀ (n a b : Nat), stps n (a ^^^ b) = stps n a ^^^ stps n b
 | 0, _, _ => rfl
 | n + 1, a, b => by rw [stps, stps, stps, stp_xor, stps_xor n]
theorem stps_add : ∀ (m n r : Nat), stps (m + n) r = stps n (stps m r)
 | 0, n, r => by rw [Nat.zero_add]; rfl
 | m + 1, n, r => by rw [Nat.succ_add, stps, stps, stps_add m n]
theorem stp_two (k : Nat) : stp (2 * k) = k := by unfold stp; rw [if_neg (by omega)]; omega
theorem stp_zero : stp 0 = 0 := rfl
theorem stps_zero : ∀ n, stps n 0 = 0
 | 0 => rfl
 | n + 1 => by rw [stps, stp_zero, stps_zero n]
theorem stps_pow : ∀ (n k : Nat), stps n (2 ^ n * k) = k
 | 0, k => by rw [stps]; omega
 | n + 1, k => by rw [stps, show 2 ^ (n + 1) * k = 2 * (2 ^ n * k) by rw [Nat.pow_succ]; ac_rfl, stp_two, stps_pow n]
theorem stp_lt {r : Nat} (h : r < 4294967296) : stp r < 4294967296 := by
 unfold stp
 split
 ·have := @Nat.xor_lt_two_pow (r / 2) 3988292384 32 (by omega) (by omega)
  simpa using this
 ·omega
theorem stps_lt : ∀ (n : Nat) {r : Nat}, r < 4294967296 → stps n r < 4294967296
 | 0, _, h => h
 | n + 1, _, h => stps_lt n (stp_lt h)
theorem stp_ne {r : Nat} (h : r < 4294967296) (h0 : stp r = 0) : r = 0 := by
 unfold stp at h0
 split at h0
 ·have : r / 2 = 3988292384 := by
   have e := congrArg (· ^^^ 3988292384) h0
   simp only [Nat.xor_assoc, Nat.xor_self, Nat.xor_zero, Nat.zero_xor] at e
   exact e
  omega
 ·omega
theorem stps_ne : ∀ (n : Nat) {r : Nat}, r < 4294967296 → stps n r = 0 → r = 0
 | 0, _, _, h0 => h0
 | n + 1, _, h, h0 => stp_ne h (stps_ne n (stp_lt h) h0)
theorem xor_eq_zero {a b : Nat} (h : a ^^^ b = 0) : a = b := by
 have := congrArg (· ^^^ b) h
 simpa [Nat.xor_assoc] using this
theorem stps_inj (n : Nat) {a b : Nat} (ha : a < 4294967296) (hb : b < 4294967296) (h : stps n a = stps n b) : a = b := by
 have h1 : stps n (a ^^^ b) = 0 := by rw [stps_xor, h, Nat.xor_self]
 have h2 := @Nat.xor_lt_two_pow a b 32 (by simpa using ha) (by simpa using hb)
 exact xor_eq_zero (stps_ne n (by simpa using h2) h1)
theorem xor_lt {a b : Nat} (ha : a < 4294967296) (hb : b < 4294967296) : a ^^^ b < 4294967296 := by
 have := @Nat.xor_lt_two_pow a b 32 (by simpa using ha) (by simpa using hb)
 simpa using this
theorem tab_low : ∀ i, i < 16 → stps 4 i = tab.getD i 0 := by decide
theorem tab_lt : ∀ i, tab.getD i 0 < 4294967296 := by
 intro i
 by_cases h : i < 16
 ·revert i; decide
 ·rw [List.getD, List.getElem?_eq_none (by simp [tab]; omega)]; decide
theorem split_xor (n r : Nat) : r = (2 ^ n * (r / 2 ^ n)) ^^^ (r % 2 ^ n) := by
 apply Nat.eq_of_testBit_eq
 intro i
 rw [Nat.testBit_xor, Nat.testBit_mod_two_pow, Nat.mul_comm, Nat.testBit_mul_two_pow, Nat.testBit_div_two_pow]
 by_cases h : n ≤ i
 ·have : ¬ i < n := by omega
  simp [h, this, Nat.sub_add_cancel h]
 ·have : i < n := by omega
  simp [h, this]
theorem four_steps (r : Nat) : stps 4 r = (r / 16) ^^^ tab.getD (r % 16) 0 := by
 have e := split_xor 4 r
 have h := congrArg (stps 4) e
 rw [stps_xor, stps_pow] at h
 rw [h, tab_low _ (by have := Nat.mod_lt r (show 2 ^ 4 > 0 by decide); simpa using this)]
theorem not_xor {c : Nat} (h : c < 4294967296) : 4294967295 - c = 4294967295 ^^^ c := by
 apply Nat.eq_of_testBit_eq
 intro i
 have h1 := @Nat.testBit_two_pow_sub_succ c 32 (by simpa using h) i
 have h2 := @Nat.testBit_two_pow_sub_one 32 i
 rw [Nat.testBit_xor, show (4294967295 : Nat) - c = 2 ^ 32 - (c + 1) by omega, h1, show (4294967295 : Nat) = 2 ^ 32 - 1 by decide, h2]
 by_cases hi : i < 32
 ·simp [hi]
 ·have : c.testBit i = false := Nat.testBit_lt_two_pow (Nat.lt_of_lt_of_le (show c < 2 ^ 32 by simpa using h) (Nat.pow_le_pow_right (by decide) (by omega)))
  simp [hi, this]
def Bts (zs : List Int) : Prop := ∀ z ∈ zs, 0 ≤ z ∧ z ≤ 255
theorem runs_app : ∀ (a b : List Int) (r : Nat), runs r (a ++ b) = runs (runs r a) b
 | [], b, r => by rw [List.nil_append, runs_nil]
 | z :: a, b, r => by rw [List.cons_append, runs_cons r z (a ++ b), runs_cons r z a, runs_app a b]
theorem runs_lt : ∀ {zs : List Int} {r : Nat}, Bts zs → r < 4294967296 → runs r zs < 4294967296
 | [], _, _, h => by rw [runs_nil]; exact h
 | z :: zs, r, hb, h => by
  rw [runs_cons]
  have hz := hb z (List.mem_cons_self ..)
  exact runs_lt (fun y hy => hb y (List.mem_cons_of_mem _ hy)) (stps_lt 8 (xor_lt h (by omega)))
theorem upd_lt (c : Nat) (zs : List Int) : upd c zs < 4294967296 := by unfold upd; omega
theorem upd_join {c : Nat} {a b : List Int} (ha : Bts a) : upd (upd c a) b = upd c (a ++ b) := by
 have h1 : runs (4294967295 - c) a < 4294967296 := runs_lt ha (by omega)
 unfold upd
 rw [runs_app, show 4294967295 - (4294967295 - runs (4294967295 - c) a) = runs (4294967295 - c) a by omega]
theorem upd_nil {c : Nat} (h : c < 4294967296) : upd c [] = c := by unfold upd; rw [runs_nil]; omega
theorem byte_in (r s : Nat) : stps 8 (r ^^^ s) = stps 8 (r ^^^ (s % 256)) ^^^ (s / 256) := by
 have e := split_xor 8 s
 conv => lhs; rw [e]
 rw [show (2 : Nat) ^ 8 = 256 by decide, Nat.xor_comm (256 * (s / 256)), ← Nat.xor_assoc, stps_xor]
 have h8 := stps_pow 8 (s / 256)
 rw [show (2 : Nat) ^ 8 = 256 by decide] at h8
 rw [h8]
theorem low4_runs (r s : Nat) (h : s < 4294967296) : runs r (low4 s) = stps 32 (r ^^^ s) := by
 unfold low4
 rw [runs_cons, runs_cons, runs_cons, runs_cons, runs_nil]
 simp only [Int.toNat_natCast]
 rw [show (32 : Nat) = 8 + (8 + (8 + 8)) by decide, stps_add, stps_add, stps_add]
 rw [byte_in r s, byte_in _ (s / 256), byte_in _ (s / 256 / 256), Nat.div_div_eq_div_mul, Nat.div_div_eq_div_mul]
 have : s / (256 * 256 * 256) % 256 = s / (256 * 256 * 256) := by omega
 show _ = stps 8 (_ ^^^ s / (256 * 256 * 256))
 rw [show (16777216 : Nat) = 256 * 256 * 256 by decide, this]
theorem low4_bts (s : Nat) : Bts (low4 s) := by
 intro z hz
 unfold low4 at hz
 simp only [List.mem_cons, List.not_mem_nil, or_false] at hz
 omega
theorem behind {zs : List Int} (h : Bts zs) : upd 0 (zs ++ low4 (upd 0 zs)) = 558161692 := by
 have h1 : runs 4294967295 zs < 4294967296 := runs_lt h (by decide)
 unfold upd
 rw [runs_app, low4_runs _ _ (by omega)]
 simp only [Nat.sub_zero]
 rw [not_xor h1, Nat.xor_comm 4294967295, ← Nat.xor_assoc, Nat.xor_self, Nat.zero_xor]
 decide
theorem opens_iff {zs : List Int} {t : Nat} (h : Bts zs) (ht : t < 4294967296) : runs 4294967295 (zs ++ low4 t) = stps 32 4294967295 ↔ t = upd 0 zs := by
 have h1 : runs 4294967295 zs < 4294967296 := runs_lt h (by decide)
 rw [runs_app, low4_runs _ _ ht]
 constructor
 ·intro e
  have e1 := stps_inj 32 (xor_lt h1 ht) (by decide) e
  have e2 : t = 4294967295 ^^^ runs 4294967295 zs := by
   generalize runs 4294967295 zs = x at e1
   rw [← e1, Nat.xor_comm x t, Nat.xor_assoc, Nat.xor_self, Nat.xor_zero]
  rw [e2, ← not_xor h1]; simp only [upd, Nat.sub_zero]
 ·rintro rfl
  simp only [upd, Nat.sub_zero]
  rw [not_xor h1, Nat.xor_comm 4294967295, ← Nat.xor_assoc, Nat.xor_self, Nat.zero_xor]
def xor3 : List Int → List Int → List Int → List Int
 | a :: as, b :: bs, c :: cs => ((a.toNat ^^^ b.toNat ^^^ c.toNat : Nat) : Int) :: xor3 as bs cs
 | _, _, _ => []
theorem runs3 : ∀ (a b c : List Int) (p q r : Nat), a.length = b.length → b.length = c.length → runs (p ^^^ q ^^^ r) (xor3 a b c) = runs p a ^^^ runs q b ^^^ runs r c
 | [], [], [], _, _, _, _, _ => by rw [xor3, runs_nil, runs_nil, runs_nil, runs_nil]; simp
 | x :: a, y :: b, z :: c, p, q, r, h1, h2 => by
  rw [xor3, runs_cons, runs_cons p, runs_cons q, runs_cons r, ← runs3 a b c _ _ _ (by simpa using h1) (by simpa using h2), ← stps_xor, ← stps_xor]
  congr 2
  rw [Int.toNat_natCast]
  ac_rfl
theorem linear {a b c : List Int} (ha : Bts a) (hb : Bts b) (hc : Bts c) (h1 : a.length = b.length) (h2 : b.length = c.length) : upd 0 (xor3 a b c) = upd 0 a ^^^ upd 0 b ^^^ upd 0 c := by
 have k1 : runs 4294967295 a < 4294967296 := runs_lt ha (by decide)
 have k2 : runs 4294967295 b < 4294967296 := runs_lt hb (by decide)
 have k3 : runs 4294967295 c < 4294967296 := runs_lt hc (by decide)
 have e := runs3 a b c 4294967295 4294967295 4294967295 h1 h2
 have e1 : (4294967295 ^^^ 4294967295 ^^^ 4294967295 : Nat) = 4294967295 := by decide
 rw [e1] at e
 unfold upd
 simp only [Nat.sub_zero]
 rw [e, not_xor (xor_lt (xor_lt k1 k2) k3), not_xor k1, not_xor k2, not_xor k3]
 generalize runs 4294967295 a = x
 generalize runs 4294967295 b = y
 generalize runs 4294967295 c = z
 have : (4294967295 ^^^ x ^^^ (4294967295 ^^^ y) ^^^ (4294967295 ^^^ z) : Nat) = (4294967295 ^^^ 4294967295 ^^^ 4294967295) ^^^ (x ^^^ y ^^^ z) := by ac_rfl
 rw [this, e1]
def flip : List Int → Nat → List Int
 | [], _ => []
 | z :: zs, i => if i < 8 then ((z.toNat ^^^ 2 ^ i : Nat) : Int) :: zs else z :: flip zs (i - 8)
theorem flip_len : ∀ (zs : List Int) (i : Nat), (flip zs i).length = zs.length
 | [], _ => rfl
 | z :: zs, i => by unfold flip; split <;> simp [flip_len]
theorem flip_bts : ∀ (zs : List Int) (i : Nat), Bts zs → Bts (flip zs i)
 | [], _, h => h
 | z :: zs, i, h => by
  have hz := h z (List.mem_cons_self ..)
  have ht : Bts zs := fun y hy => h y (List.mem_cons_of_mem _ hy)
  unfold flip
  split
  ·intro y hy
   rcases List.mem_cons.1 hy with rfl | hy
   ·have := @Nat.xor_lt_two_pow z.toNat (2 ^ i) 8 (by simp; omega) (Nat.pow_lt_pow_right (by decide) (by assumption))
    simp at this; omega
   ·exact ht y hy
  ·intro y hy
   rcases List.mem_cons.1 hy with rfl | hy
   ·exact hz
   ·exact flip_bts zs _ ht y hy
theorem runs_lin : ∀ (zs : List Int) (a b : Nat), runs (a ^^^ b) zs = runs a zs ^^^ stps (8 * zs.length) b
 | [], a, b => by rw [runs_nil, runs_nil, List.length_nil, Nat.mul_zero, stps]
 | z :: zs, a, b => by
  rw [runs_cons, runs_cons, show a ^^^ b ^^^ z.toNat = a ^^^ z.toNat ^^^ b by ac_rfl, stps_xor, runs_lin zs, ← stps_add, List.length_cons]
  congr 2; omega
theorem flip_runs : ∀ (zs : List Int) (i r : Nat), i < 8 * zs.length → runs r (flip zs i) = runs r zs ^^^ stps (8 * zs.length - i) 1
 | [], i, r, h => by simp at h
 | z :: zs, i, r, h => by
  rw [List.length_cons] at h ⊢
  unfold flip
  split
  ·rename_i hi
   have e : stps 8 (2 ^ i) = stps (8 - i) 1 := by
    have h8 : 8 = i + (8 - i) := by omega
    have := stps_pow i 1
    rw [Nat.mul_one] at this
    calc stps 8 (2 ^ i) = stps (i + (8 - i)) (2 ^ i) := by rw [← h8]
     _ = _ := by rw [stps_add, this]
   rw [runs_cons, runs_cons, Int.toNat_natCast, ← Nat.xor_assoc, stps_xor, e]
   rw [runs_lin zs _ _, ← stps_add]
   congr 2; omega
  ·rw [runs_cons, runs_cons, flip_runs zs (i - 8) _ (by omega)]
   congr 2; omega
end Go.Proofs.YtkiopabcnemgnaaGreatDoor
namespace Go.Proofs.YtkiopabcnemgnaaGreatDoor
def stpF (r : Nat) : Nat := Nat.xor (Nat.div r 2) (Nat.mul 3988292384 (Nat.mod r 2))
def stepsF : Nat → Nat → Nat
 | 0, r => r
 | n + 1, r => stepsF n (stpF r)
theorem stpF_eq (r : Nat) : stpF r = stp r := by
 unfold stp
 show (r / 2) ^^^ (3988292384 * (r % 2)) = _
 rcases Nat.mod_two_eq_zero_or_one r with h | h
 ·rw [h, if_neg (by decide), Nat.mul_zero, Nat.xor_zero]
 ·rw [h, if_pos rfl, Nat.mul_one]
theorem stepsF_eq : ∀ (n r : Nat), stepsF n r = stps n r
 | 0, r => by rw [stepsF, stps]
 | n + 1, r => by rw [stepsF, stps, stepsF_eq n, stpF_eq]
theorem runs_zeros : ∀ (n r : Nat), runs r (List.replicate n 0) = stps (8 * n) r
 | 0, r => by rw [List.replicate_zero, runs_nil, Nat.mul_zero, stps]
 | n + 1, r => by
  rw [List.replicate_succ, runs_cons, runs_zeros n, show 8 * (n + 1) = 8 + 8 * n by omega, stps_add]
  simp
set_option maxRecDepth 100000
theorem zeros0 : stps 2046 4294967295 = 2135418398 := by rw [← stepsF_eq]; decide +kernel
theorem zeros1 : stps 2046 2135418398 = 243187190 := by rw [← stepsF_eq]; decide +kernel
theorem zeros2 : stps 2046 243187190 = 4199673923 := by rw [← stepsF_eq]; decide +kernel
theorem zeros3 : stps 2046 4199673923 = 2418707354 := by rw [← stepsF_eq]; decide +kernel
theorem zeros4 : stps 2046 2418707354 = 1200705739 := by rw [← stepsF_eq]; decide +kernel
theorem zeros5 : stps 2046 1200705739 = 1973025496 := by rw [← stepsF_eq]; decide +kernel
theorem zeros6 : stps 2046 1973025496 = 2751258002 := by rw [← stepsF_eq]; decide +kernel
theorem zeros7 : stps 2046 2751258002 = 3240402356 := by rw [← stepsF_eq]; decide +kernel
theorem zeros8 : stps 2046 3240402356 = 2227774503 := by rw [← stepsF_eq]; decide +kernel
theorem zeros9 : stps 2046 2227774503 = 3378770147 := by rw [← stepsF_eq]; decide +kernel
theorem zeros10 : stps 2046 3378770147 = 1138915294 := by rw [← stepsF_eq]; decide +kernel
theorem zeros11 : stps 2046 1138915294 = 1946035713 := by rw [← stepsF_eq]; decide +kernel
theorem zeros12 : stps 2046 1946035713 = 1844460268 := by rw [← stepsF_eq]; decide +kernel
theorem zeros13 : stps 2046 1844460268 = 613129821 := by rw [← stepsF_eq]; decide +kernel
theorem zeros14 : stps 2046 613129821 = 3196118415 := by rw [← stepsF_eq]; decide +kernel
theorem zeros15 : stps 2046 3196118415 = 2680486774 := by rw [← stepsF_eq]; decide +kernel
theorem zeros_reg : stps 32736 4294967295 = 2680486774 := by
 rw [show (32736 : Nat) = 2046 + (2046 + (2046 + (2046 + (2046 + (2046 + (2046 + (2046 + (2046 + (2046 + (2046 + (2046 + (2046 + (2046 + (2046 + (2046))))))))))))))) by decide]
 rw [stps_add, zeros0, stps_add, zeros1, stps_add, zeros2, stps_add, zeros3, stps_add, zeros4, stps_add, zeros5, stps_add, zeros6, stps_add, zeros7, stps_add, zeros8, stps_add, zeros9, stps_add, zeros10, stps_add, zeros11, stps_add, zeros12, stps_add, zeros13, stps_add, zeros14, zeros15]
theorem sum_zeros : upd 0 (List.replicate 4092 0) = 1614480521 := by
 unfold upd
 rw [runs_zeros, Nat.sub_zero, show 8 * 4092 = 32736 by decide, zeros_reg]
theorem sum_digits : upd 0 [49, 50, 51, 52, 53, 54, 55, 56, 57] = 3421780262 := by decide +kernel
theorem sum_wood : upd 2020813254 [32, 119, 111, 111, 100] = 268748336 := by decide +kernel
theorem low_zeros : low4 1614480521 = [137, 4, 59, 96] := by decide +kernel
end Go.Proofs.YtkiopabcnemgnaaGreatDoor
namespace Go.Proofs.YtkiopabcnemgnaaGreatDoor
def part (p M k : Nat) : Nat := p % 2 ^ (min k M)
theorem part_zero (p M : Nat) : part p M 0 = 0 := by unfold part; rw [Nat.zero_min, Nat.pow_zero, Nat.mod_one]
theorem part_no {p M k : Nat} (h : ¬ (p / 2 ^ k % 2 = 1 ∧ k < M)) : part p M (k + 1) = part p M k := by
 unfold part
 by_cases hk : k < M
 ·have h0 : p / 2 ^ k % 2 = 0 := by
   rcases Nat.mod_two_eq_zero_or_one (p / 2 ^ k) with h1 | h1
   ·exact h1
   ·exact absurd ⟨h1, hk⟩ h
  rw [Nat.min_eq_left (by omega), Nat.min_eq_left (by omega), Nat.mod_pow_succ, h0, Nat.mul_zero, Nat.add_zero]
 ·rw [Nat.min_eq_right (by omega), Nat.min_eq_right (by omega)]
theorem part_yes {p M k : Nat} (h1 : p / 2 ^ k % 2 = 1) (h2 : k < M) : part p M (k + 1) = part p M k ^^^ 2 ^ k := by
 unfold part
 rw [Nat.min_eq_left (show k + 1 ≤ M by omega), Nat.min_eq_left (show k ≤ M by omega)]
 have e := split_xor k (p % 2 ^ (k + 1))
 have e1 : p % 2 ^ (k + 1) / 2 ^ k = 1 := by rw [Nat.pow_succ, Nat.mod_mul_right_div_self, h1]
 have e2 : p % 2 ^ (k + 1) % 2 ^ k = p % 2 ^ k := by rw [Nat.pow_succ, Nat.mod_mul_right_mod]
 rw [e1, e2, Nat.mul_one] at e
 rw [e, Nat.xor_comm]
theorem part_ne {p M k : Nat} (h1 : p / 2 ^ k % 2 = 1) (h2 : k < M) : part p M (k + 1) ≠ 0 := by
 unfold part
 rw [Nat.min_eq_left (show k + 1 ≤ M by omega), Nat.mod_pow_succ, h1, Nat.mul_one]
 have := Nat.two_pow_pos k
 omega
theorem part_lt {p M k : Nat} (h : p < 4294967296) : part p M k < 4294967296 := Nat.lt_of_le_of_lt (Nat.mod_le _ _) h
theorem stps_bit {M k : Nat} (h : k ≤ M) : stps M (2 ^ k) = stps (M - k) 1 := by
 have h1 := stps_pow k 1
 rw [Nat.mul_one] at h1
 rw [show M = k + (M - k) by omega, stps_add, h1, Nat.add_sub_cancel_left]
theorem flip_set : ∀ (zs : List Int) (i : Nat), i < 8 * zs.length → flip zs i = zs.set (i / 8) ((((zs.getD (i / 8) 0).toNat ^^^ 2 ^ (i % 8) : Nat)) : Int)
 | [], i, h => by simp at h
 | z :: zs, i, h => by
  unfold flip
  by_cases hi : i < 8
  ·rw [if_pos hi, Nat.div_eq_of_lt hi, Nat.mod_eq_of_lt hi]; rfl
  ·rw [if_neg hi, flip_set zs (i - 8) (by rw [List.length_cons] at h; omega)]
   have e1 : i / 8 = (i - 8) / 8 + 1 := by omega
   have e2 : i % 8 = (i - 8) % 8 := by omega
   rw [e1, e2, List.set_cons_succ, List.getD_cons_succ]
structure Turned (zs ys : List Int) (M q : Nat) : Prop where
 len : ys.length = zs.length
 bts : Bts ys
 run : ∀ r, runs r ys = runs r zs ^^^ stps M q
theorem Turned.start {zs : List Int} (h : Bts zs) (M : Nat) : Turned zs zs M 0 := ⟨rfl, h, fun r => by rw [stps_zero, Nat.xor_zero]⟩
theorem Turned.flip {zs ys : List Int} {M q k i : Nat} (h : Turned zs ys M q) (hi : i < 8 * zs.length) (hM : M - k = 8 * zs.length - i) (hk : k ≤ M) : Turned zs (flip ys i) M (q ^^^ 2 ^ k) := by
 refine ⟨by rw [flip_len]; exact h.len, flip_bts _ _ h.bts, fun r => ?_⟩
 rw [flip_runs ys i r (by rw [h.len]; exact hi), h.run, stps_xor, stps_bit hk, hM, h.len, Nat.xor_assoc]
theorem bytes_low4 {a b c d : Int} (h : Bts [a, b, c, d]) : ∃ t, t < 4294967296 ∧ [a, b, c, d] = low4 t := by
 have ha := h a (by simp)
 have hb := h b (by simp)
 have hc := h c (by simp)
 have hd := h d (by simp)
 refine ⟨(a + 256 * b + 65536 * c + 16777216 * d).toNat, by omega, ?_⟩
 unfold low4
 simp only [List.cons.injEq, and_true]
 refine ⟨by omega, by omega, by omega, by omega⟩
theorem page_fits {zs : List Int} (hl : zs.length = 4096) (h : Bts zs) : zs.drop 4092 = low4 (upd 0 (zs.take 4092)) ↔ runs 4294967295 zs = stps 32 4294967295 := by
 have h4 : (zs.drop 4092).length = 4 := by rw [List.length_drop, hl]
 obtain ⟨a, b, c, d, e4⟩ : ∃ a b c d, zs.drop 4092 = [a, b, c, d] := by
  match hz : zs.drop 4092, h4 with
  | [a, b, c, d], _ => exact ⟨a, b, c, d, rfl⟩
 have hb : Bts [a, b, c, d] := by rw [← e4]; exact fun y hy => h y (List.mem_of_mem_drop hy)
 have ht : Bts (zs.take 4092) := fun y hy => h y (List.mem_of_mem_take hy)
 obtain ⟨t, ht1, ht2⟩ := bytes_low4 hb
 have e : zs = zs.take 4092 ++ low4 t := by rw [← ht2, ← e4, List.take_append_drop]
 have e5 := opens_iff ht ht1
 rw [← e] at e5
 rw [e5, e4, ht2]
 constructor
 ·intro hlow
  have h1 := upd_lt 0 (zs.take 4092)
  generalize upd 0 (zs.take 4092) = u at *
  unfold low4 at hlow
  simp only [List.cons.injEq, and_true] at hlow
  omega
 ·intro e6; rw [e6]
theorem xor_cancel {a b : Nat} : a ^^^ b = a ↔ b = 0 := by
 constructor
 ·intro h
  have := congrArg (a ^^^ ·) h
  simpa [← Nat.xor_assoc] using this
 ·intro h; rw [h, Nat.xor_zero]
theorem page_turned {zs ys : List Int} {M q : Nat} (hl : zs.length = 4096) (hz : Bts zs) (hf : zs.drop 4092 = low4 (upd 0 (zs.take 4092))) (h : Turned zs ys M q) (hq : q < 4294967296) :
  (ys.drop 4092 = low4 (upd 0 (ys.take 4092)) ↔ q = 0) := by
 rw [page_fits (h.len.trans hl) h.bts, h.run, (page_fits hl hz).1 hf, xor_cancel]
 exact ⟨fun e => stps_ne M hq e, fun e => by rw [e, stps_zero]⟩
theorem sum_turned {zs ys : List Int} {M q : Nat} (hz : Bts zs) (h : Turned zs ys M q) (hq : q < 4294967296) : upd 0 ys = upd 0 zs ↔ q = 0 := by
 have h1 : runs 4294967295 zs < 4294967296 := runs_lt hz (by decide)
 have h2 : runs 4294967295 ys < 4294967296 := runs_lt h.bts (by decide)
 have h3 := h.run 4294967295
 have h4 : upd 0 ys = upd 0 zs ↔ runs 4294967295 ys = runs 4294967295 zs := by unfold upd; rw [Nat.sub_zero]; omega
 rw [h4, h3, xor_cancel]
 exact ⟨fun e => stps_ne M hq e, fun e => by rw [e, stps_zero]⟩
end Go.Proofs.YtkiopabcnemgnaaGreatDoor
namespace Go.Proofs.YtkiopabcnemgnaaGreatDoor
set_option maxRecDepth 100000
def chkF (e : Nat) : Nat → Nat → Bool
 | 0, r => Nat.beq r e
 | n + 1, r => and (not (Nat.beq (stpF r) 1)) (chkF e n (stpF r))
theorem chkF_spec (e : Nat) : ∀ (n r : Nat), chkF e n r = true → stps n r = e ∧ ∀ d, 0 < d → d ≤ n → stps d r ≠ 1
 | 0, r, h => ⟨by rw [chkF] at h; rw [stps]; exact Nat.eq_of_beq_eq_true h, fun d h1 h2 => absurd h1 (by omega)⟩
 | n + 1, r, h => by
  have h' : (and (not (Nat.beq (stpF r) 1)) (chkF e n (stpF r))) = true := by rw [chkF] at h; exact h
  rw [Bool.and_eq_true, stpF_eq] at h'
  obtain ⟨e1, e2⟩ := chkF_spec e n (stp r) h'.2
  refine ⟨by rw [stps]; exact e1, fun d h1 h2 => ?_⟩
  obtain ⟨d', rfl⟩ : ∃ d', d = d' + 1 := ⟨d - 1, by omega⟩
  rw [stps]
  by_cases h0 : d' = 0
  ·subst h0
   intro e3
   rw [stps] at e3
   rw [e3] at h'
   exact absurd h'.1 (by decide)
  ·exact e2 d' (by omega) (by omega)
def Once (n a : Nat) : Prop := stps n 1 = a ∧ ∀ d, 0 < d → d ≤ n → stps d 1 ≠ 1
theorem Once.next {n m a b : Nat} (h : Once n a) (hm : m = n + 4096) (c : chkF b 4096 a = true) : Once m b := by
 subst hm
 obtain ⟨e1, e2⟩ := chkF_spec b 4096 a c
 refine ⟨by rw [stps_add, h.1, e1], fun d h1 h2 => ?_⟩
 by_cases hd : d ≤ n
 ·exact h.2 d h1 hd
 ·rw [show d = n + (d - n) by omega, stps_add, h.1]
  exact e2 (d - n) (by omega) (by omega)
theorem once0 : Once 0 1 := ⟨rfl, fun d h1 h2 => absurd h1 (by omega)⟩
theorem once1 : Once 4096 275962664 := once0.next rfl (by decide +kernel)
theorem once2 : Once 8192 4170314095 := once1.next rfl (by decide +kernel)
theorem once3 : Once 12288 3389472127 := once2.next rfl (by decide +kernel)
theorem once4 : Once 16384 2293676643 := once3.next rfl (by decide +kernel)
theorem once5 : Once 20480 60843553 := once4.next rfl (by decide +kernel)
theorem once6 : Once 24576 3050640822 := once5.next rfl (by decide +kernel)
theorem once7 : Once 28672 2958984256 := once6.next rfl (by decide +kernel)
theorem once8 : Once 32768 1524148524 := once7.next rfl (by decide +kernel)
theorem once9 : Once 36864 27634868 := once8.next rfl (by decide +kernel)
theorem once10 : Once 40960 2570279155 := once9.next rfl (by decide +kernel)
theorem once11 : Once 45056 2360343898 := once10.next rfl (by decide +kernel)
theorem once12 : Once 49152 4116301252 := once11.next rfl (by decide +kernel)
theorem once13 : Once 53248 2477089033 := once12.next rfl (by decide +kernel)
theorem once14 : Once 57344 1296464564 := once13.next rfl (by decide +kernel)
theorem once15 : Once 61440 1579823288 := once14.next rfl (by decide +kernel)
theorem once16 : Once 65536 3043423970 := once15.next rfl (by decide +kernel)
theorem once17 : Once 69632 2976139167 := once16.next rfl (by decide +kernel)
theorem once18 : Once 73728 3327901884 := once17.next rfl (by decide +kernel)
theorem once19 : Once 77824 1404161178 := once18.next rfl (by decide +kernel)
theorem once20 : Once 81920 772296808 := once19.next rfl (by decide +kernel)
theorem once21 : Once 86016 842349352 := once20.next rfl (by decide +kernel)
theorem once22 : Once 90112 3169209848 := once21.next rfl (by decide +kernel)
theorem once23 : Once 94208 2594898115 := once22.next rfl (by decide +kernel)
theorem once24 : Once 98304 2356483518 := once23.next rfl (by decide +kernel)
theorem once25 : Once 102400 2585549237 := once24.next rfl (by decide +kernel)
theorem once26 : Once 106496 1728850275 := once25.next rfl (by decide +kernel)
theorem once27 : Once 110592 765447030 := once26.next rfl (by decide +kernel)
theorem once28 : Once 114688 3885858416 := once27.next rfl (by decide +kernel)
theorem once29 : Once 118784 629267589 := once28.next rfl (by decide +kernel)
theorem once30 : Once 122880 837226663 := once29.next rfl (by decide +kernel)
theorem once31 : Once 126976 2489407412 := once30.next rfl (by decide +kernel)
theorem once32 : Once 131072 2643536319 := once31.next rfl (by decide +kernel)
theorem once33 : Once 135168 2946146612 := once32.next rfl (by decide +kernel)
theorem once34 : Once 139264 992493436 := once33.next rfl (by decide +kernel)
theorem once35 : Once 143360 3051495988 := once34.next rfl (by decide +kernel)
theorem once36 : Once 147456 4013877958 := once35.next rfl (by decide +kernel)
theorem once37 : Once 151552 3460300546 := once36.next rfl (by decide +kernel)
theorem once38 : Once 155648 3038654909 := once37.next rfl (by decide +kernel)
theorem once39 : Once 159744 2220938534 := once38.next rfl (by decide +kernel)
theorem once40 : Once 163840 3871805027 := once39.next rfl (by decide +kernel)
theorem once41 : Once 167936 2807693709 := once40.next rfl (by decide +kernel)
theorem once42 : Once 172032 2658451668 := once41.next rfl (by decide +kernel)
theorem once43 : Once 176128 4154412996 := once42.next rfl (by decide +kernel)
theorem once44 : Once 180224 611383798 := once43.next rfl (by decide +kernel)
theorem once45 : Once 184320 2620672767 := once44.next rfl (by decide +kernel)
theorem once46 : Once 188416 980920432 := once45.next rfl (by decide +kernel)
theorem once47 : Once 192512 2571727658 := once46.next rfl (by decide +kernel)
theorem once48 : Once 196608 1462738537 := once47.next rfl (by decide +kernel)
theorem once49 : Once 200704 1762995540 := once48.next rfl (by decide +kernel)
theorem once50 : Once 204800 3447790229 := once49.next rfl (by decide +kernel)
theorem once51 : Once 208896 2201903798 := once50.next rfl (by decide +kernel)
theorem once52 : Once 212992 4161109183 := once51.next rfl (by decide +kernel)
theorem once53 : Once 217088 159858965 := once52.next rfl (by decide +kernel)
theorem once54 : Once 221184 2812009880 := once53.next rfl (by decide +kernel)
theorem once55 : Once 225280 2300581980 := once54.next rfl (by decide +kernel)
theorem once56 : Once 229376 1392869812 := once55.next rfl (by decide +kernel)
theorem once57 : Once 233472 2281916033 := once56.next rfl (by decide +kernel)
theorem once58 : Once 237568 1349414417 := once57.next rfl (by decide +kernel)
theorem once59 : Once 241664 3446941769 := once58.next rfl (by decide +kernel)
theorem once60 : Once 245760 2176926878 := once59.next rfl (by decide +kernel)
theorem once61 : Once 249856 2657519224 := once60.next rfl (by decide +kernel)
theorem once62 : Once 253952 2330289679 := once61.next rfl (by decide +kernel)
theorem once63 : Once 258048 3157251309 := once62.next rfl (by decide +kernel)
theorem once64 : Once 262144 786709036 := once63.next rfl (by decide +kernel)
theorem once65 : Once 266240 712187157 := once64.next rfl (by decide +kernel)
theorem once66 : Once 270336 2094092299 := once65.next rfl (by decide +kernel)
theorem once67 : Once 274432 1703951966 := once66.next rfl (by decide +kernel)
theorem once68 : Once 278528 495355006 := once67.next rfl (by decide +kernel)
theorem once69 : Once 282624 541413617 := once68.next rfl (by decide +kernel)
theorem once70 : Once 286720 2104626077 := once69.next rfl (by decide +kernel)
theorem once71 : Once 290816 626395113 := once70.next rfl (by decide +kernel)
theorem once72 : Once 294912 108000945 := once71.next rfl (by decide +kernel)
theorem once73 : Once 299008 1529615917 := once72.next rfl (by decide +kernel)
theorem once74 : Once 303104 1431811865 := once73.next rfl (by decide +kernel)
theorem once75 : Once 307200 1403902170 := once74.next rfl (by decide +kernel)
theorem once76 : Once 311296 1602147179 := once75.next rfl (by decide +kernel)
theorem once77 : Once 315392 4212948758 := once76.next rfl (by decide +kernel)
theorem once78 : Once 319488 781405320 := once77.next rfl (by decide +kernel)
theorem once79 : Once 323584 1574863535 := once78.next rfl (by decide +kernel)
theorem once80 : Once 327680 3880816237 := once79.next rfl (by decide +kernel)
theorem once81 : Once 331776 3666137335 := once80.next rfl (by decide +kernel)
theorem once82 : Once 335872 2881629917 := once81.next rfl (by decide +kernel)
theorem once83 : Once 339968 232281162 := once82.next rfl (by decide +kernel)
theorem once84 : Once 344064 3966460971 := once83.next rfl (by decide +kernel)
theorem once85 : Once 348160 688276636 := once84.next rfl (by decide +kernel)
theorem once86 : Once 352256 2988555488 := once85.next rfl (by decide +kernel)
theorem once87 : Once 356352 825661084 := once86.next rfl (by decide +kernel)
theorem once88 : Once 360448 3693312355 := once87.next rfl (by decide +kernel)
theorem once89 : Once 364544 2971952099 := once88.next rfl (by decide +kernel)
theorem once90 : Once 368640 3102388096 := once89.next rfl (by decide +kernel)
theorem once91 : Once 372736 718623954 := once90.next rfl (by decide +kernel)
theorem once92 : Once 376832 4241348137 := once91.next rfl (by decide +kernel)
theorem once93 : Once 380928 2420216725 := once92.next rfl (by decide +kernel)
theorem once94 : Once 385024 1670512430 := once93.next rfl (by decide +kernel)
theorem once95 : Once 389120 2994808158 := once94.next rfl (by decide +kernel)
theorem once96 : Once 393216 3818251740 := once95.next rfl (by decide +kernel)
theorem once97 : Once 397312 3654145997 := once96.next rfl (by decide +kernel)
theorem once98 : Once 401408 3798025706 := once97.next rfl (by decide +kernel)
theorem once99 : Once 405504 1637273287 := once98.next rfl (by decide +kernel)
theorem once100 : Once 409600 2566460450 := once99.next rfl (by decide +kernel)
theorem once101 : Once 413696 4293750464 := once100.next rfl (by decide +kernel)
theorem once102 : Once 417792 638634591 := once101.next rfl (by decide +kernel)
theorem once103 : Once 421888 1614718313 := once102.next rfl (by decide +kernel)
theorem once104 : Once 425984 3017478015 := once103.next rfl (by decide +kernel)
theorem once105 : Once 430080 4238216625 := once104.next rfl (by decide +kernel)
theorem once106 : Once 434176 914921793 := once105.next rfl (by decide +kernel)
theorem once107 : Once 438272 2950612007 := once106.next rfl (by decide +kernel)
theorem once108 : Once 442368 1351109194 := once107.next rfl (by decide +kernel)
theorem once109 : Once 446464 1767575465 := once108.next rfl (by decide +kernel)
theorem once110 : Once 450560 3415473426 := once109.next rfl (by decide +kernel)
theorem once111 : Once 454656 3059208937 := once110.next rfl (by decide +kernel)
theorem once112 : Once 458752 1135575519 := once111.next rfl (by decide +kernel)
theorem once113 : Once 462848 1762779150 := once112.next rfl (by decide +kernel)
theorem once114 : Once 466944 840519519 := once113.next rfl (by decide +kernel)
theorem once115 : Once 471040 873823275 := once114.next rfl (by decide +kernel)
theorem once116 : Once 475136 887787478 := once115.next rfl (by decide +kernel)
theorem once117 : Once 479232 4050043444 := once116.next rfl (by decide +kernel)
theorem once118 : Once 483328 3129916782 := once117.next rfl (by decide +kernel)
theorem once119 : Once 487424 2867085227 := once118.next rfl (by decide +kernel)
theorem once120 : Once 491520 259899626 := once119.next rfl (by decide +kernel)
theorem once121 : Once 495616 3512881298 := once120.next rfl (by decide +kernel)
theorem once122 : Once 499712 3986072279 := once121.next rfl (by decide +kernel)
theorem once123 : Once 503808 684323445 := once122.next rfl (by decide +kernel)
theorem once124 : Once 507904 3587569279 := once123.next rfl (by decide +kernel)
theorem once125 : Once 512000 4057122168 := once124.next rfl (by decide +kernel)
theorem once126 : Once 516096 270597003 := once125.next rfl (by decide +kernel)
theorem once127 : Once 520192 2123173738 := once126.next rfl (by decide +kernel)
theorem once128 : Once 524288 457511406 := once127.next rfl (by decide +kernel)
theorem order {d : Nat} (h0 : 0 < d) (h : d ≤ 524288) : stps d 1 ≠ 1 := once128.2 d h0 h
theorem stps_two {L u v : Nat} (hu : u < L) (hv : v < L) (hL : L ≤ 524288) : ∃ M q, q < 4294967296 ∧ stps (L - u) 1 ^^^ stps (L - v) 1 = stps M q ∧ (q = 0 ↔ u = v) := by
 rcases Nat.lt_trichotomy u v with h | h | h
 ·refine ⟨L - v, stps (v - u) 1 ^^^ 1, xor_lt (stps_lt _ (by decide)) (by decide), ?_, ?_⟩
  ·rw [stps_xor, ← stps_add, show v - u + (L - v) = L - u by omega]
  ·exact ⟨fun e => absurd (xor_eq_zero e) (order (by omega) (by omega)), fun e => by omega⟩
 ·refine ⟨0, 0, by decide, ?_, ?_⟩
  ·rw [h, Nat.xor_self]; rfl
  ·exact ⟨fun _ => h, fun _ => rfl⟩
 ·refine ⟨L - u, stps (u - v) 1 ^^^ 1, xor_lt (stps_lt _ (by decide)) (by decide), ?_, ?_⟩
  ·rw [stps_xor, ← stps_add, show u - v + (L - u) = L - v by omega, Nat.xor_comm]
  ·exact ⟨fun e => absurd (xor_eq_zero e) (order (by omega) (by omega)), fun e => by omega⟩
theorem part_one {M : Nat} (h : 0 < M) : part 1 M 32 = 1 := by
 unfold part
 have : 2 ^ 1 ≤ 2 ^ (min 32 M) := Nat.pow_le_pow_right (by decide) (by omega)
 exact Nat.mod_eq_of_lt (by omega)
theorem Turned.two {zs ys xs : List Int} {L u v : Nat} (h1 : Turned zs ys (L - u) (part 1 (L - u) 32)) (h2 : Turned ys xs (L - v) (part 1 (L - v) 32)) (hu : u < L) (hv : v < L) (hL : L ≤ 524288) :
  ∃ M q, q < 4294967296 ∧ Turned zs xs M q ∧ (q = 0 ↔ u = v) := by
 obtain ⟨M, q, hq, e, hz⟩ := stps_two hu hv hL
 refine ⟨M, q, hq, ⟨h2.len.trans h1.len, h2.bts, fun r => ?_⟩, hz⟩
 rw [h2.run, h1.run, part_one (by omega), part_one (by omega), ← e, Nat.xor_assoc]
end Go.Proofs.YtkiopabcnemgnaaGreatDoor
