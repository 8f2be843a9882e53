namespace Go.Proofs.YtgipnfbojnllnaaGreatDoor

/-- A register steps. -/
def stp (r : Nat) : Nat := if r % 2 = 1 then (r / 2) ^^^ 3988292384 else r / 2
/-- It steps n times. -/
def stps : Nat → Nat → Nat
  | 0, r => r
  | n + 1, r => stps n (stp r)
/-- It takes bytes in. -/
def runs (r : Nat) (zs : List Int) : Nat := zs.foldl (fun r z => stps 8 (r ^^^ z.toNat)) r
theorem runs_nil (r : Nat) : runs r [] = r := by unfold runs; rw [List.foldl_nil]
theorem runs_cons (r : Nat) (z : Int) (zs : List Int) : runs r (z :: zs) = runs (stps 8 (r ^^^ z.toNat)) zs := by unfold runs; rw [List.foldl_cons]
/-- The sum that goes on from c. -/
def upd (c : Nat) (zs : List Int) : Nat := 4294967295 - runs (4294967295 - c) zs
/-- The table. -/
def tab : List Nat := [0, 498536548, 997073096, 651767980, 1994146192, 1802195444, 1303535960, 1342533948, 3988292384, 4027552580, 3604390888, 3412177804, 2607071920, 2262029012, 2685067896, 3183342108]
/-- The four bytes of a number, the lowest first. -/
def low4 (s : Nat) : List Int := [((s % 256 : Nat) : Int), ((s / 256 % 256 : Nat) : Int), ((s / 65536 % 256 : Nat) : Int), ((s / 16777216 % 256 : Nat) : Int)]

theorem xor_div2 (a b : Nat) : (a ^^^ b) / 2 = (a / 2) ^^^ (b / 2) := Nat.xor_div_two
theorem xor_mod2 (a b : Nat) : (a ^^^ b) % 2 = (a % 2) ^^^ (b % 2) := by
  have := @Nat.xor_mod_two_pow a b 1
  simpa using this

theorem stp_xor (a b : Nat) : stp (a ^^^ b) = stp a ^^^ stp b := by
  unfold stp
  rw [xor_div2, xor_mod2]
  rcases Nat.mod_two_eq_zero_or_one a with ha | ha <;> rcases Nat.mod_two_eq_zero_or_one b with hb | hb <;> rw [ha, hb] <;> simp
  · rw [Nat.xor_assoc]
  · rw [Nat.xor_assoc, Nat.xor_comm (b / 2), ← Nat.xor_assoc]
  · rw [Nat.xor_assoc, Nat.xor_comm 3988292384, Nat.xor_assoc, Nat.xor_self, Nat.xor_zero]
theorem stps_xor : ∀ (n a b : Nat), stps n (a ^^^ b) = stps n a ^^^ stps n b
  | 0, _, _ => rfl
  | n + 1, a, b => by rw [stps, stps, stps, stp_xor, stps_xor n]
theorem stps_add : ∀ (m n r : Nat), stps (m + n) r = stps n (stps m r)
  | 0, n, r => by rw [Nat.zero_add]; rfl
  | m + 1, n, r => by rw [Nat.succ_add, stps, stps, stps_add m n]
theorem stp_two (k : Nat) : stp (2 * k) = k := by unfold stp; rw [if_neg (by omega)]; omega
theorem stp_zero : stp 0 = 0 := rfl
theorem stps_zero : ∀ n, stps n 0 = 0
  | 0 => rfl
  | n + 1 => by rw [stps, stp_zero, stps_zero n]
theorem stps_pow : ∀ (n k : Nat), stps n (2 ^ n * k) = k
  | 0, k => by rw [stps]; omega
  | n + 1, k => by rw [stps, show 2 ^ (n + 1) * k = 2 * (2 ^ n * k) by rw [Nat.pow_succ]; ac_rfl, stp_two, stps_pow n]
theorem stp_lt {r : Nat} (h : r < 4294967296) : stp r < 4294967296 := by
  unfold stp
  split
  · have := @Nat.xor_lt_two_pow (r / 2) 3988292384 32 (by omega) (by omega)
    simpa using this
  · omega
theorem stps_lt : ∀ (n : Nat) {r : Nat}, r < 4294967296 → stps n r < 4294967296
  | 0, _, h => h
  | n + 1, _, h => stps_lt n (stp_lt h)
theorem stp_ne {r : Nat} (h : r < 4294967296) (h0 : stp r = 0) : r = 0 := by
  unfold stp at h0
  split at h0
  · have : r / 2 = 3988292384 := by
      have e := congrArg (· ^^^ 3988292384) h0
      simp only [Nat.xor_assoc, Nat.xor_self, Nat.xor_zero, Nat.zero_xor] at e
      exact e
    omega
  · omega
theorem stps_ne : ∀ (n : Nat) {r : Nat}, r < 4294967296 → stps n r = 0 → r = 0
  | 0, _, _, h0 => h0
  | n + 1, _, h, h0 => stp_ne h (stps_ne n (stp_lt h) h0)
theorem xor_eq_zero {a b : Nat} (h : a ^^^ b = 0) : a = b := by
  have := congrArg (· ^^^ b) h
  simpa [Nat.xor_assoc] using this
theorem stps_inj (n : Nat) {a b : Nat} (ha : a < 4294967296) (hb : b < 4294967296) (h : stps n a = stps n b) : a = b := by
  have h1 : stps n (a ^^^ b) = 0 := by rw [stps_xor, h, Nat.xor_self]
  have h2 := @Nat.xor_lt_two_pow a b 32 (by simpa using ha) (by simpa using hb)
  exact xor_eq_zero (stps_ne n (by simpa using h2) h1)

theorem xor_lt {a b : Nat} (ha : a < 4294967296) (hb : b < 4294967296) : a ^^^ b < 4294967296 := by
  have := @Nat.xor_lt_two_pow a b 32 (by simpa using ha) (by simpa using hb)
  simpa using this

theorem tab_low : ∀ i, i < 16 → stps 4 i = tab.getD i 0 := by decide
theorem tab_lt : ∀ i, tab.getD i 0 < 4294967296 := by
  intro i
  by_cases h : i < 16
  · revert i; decide
  · rw [List.getD, List.getElem?_eq_none (by simp [tab]; omega)]; decide
/-- A number is its low part xored with its high part. -/
theorem split_xor (n r : Nat) : r = (2 ^ n * (r / 2 ^ n)) ^^^ (r % 2 ^ n) := by
  apply Nat.eq_of_testBit_eq
  intro i
  rw [Nat.testBit_xor, Nat.testBit_mod_two_pow, Nat.mul_comm, Nat.testBit_mul_two_pow, Nat.testBit_div_two_pow]
  by_cases h : n ≤ i
  · have : ¬ i < n := by omega
    simp [h, this, Nat.sub_add_cancel h]
  · have : i < n := by omega
    simp [h, this]
theorem four_steps (r : Nat) : stps 4 r = (r / 16) ^^^ tab.getD (r % 16) 0 := by
  have e := split_xor 4 r
  have h := congrArg (stps 4) e
  rw [stps_xor, stps_pow] at h
  rw [h, tab_low _ (by have := Nat.mod_lt r (show 2 ^ 4 > 0 by decide); simpa using this)]
theorem not_xor {c : Nat} (h : c < 4294967296) : 4294967295 - c = 4294967295 ^^^ c := by
  apply Nat.eq_of_testBit_eq
  intro i
  have h1 := @Nat.testBit_two_pow_sub_succ c 32 (by simpa using h) i
  have h2 := @Nat.testBit_two_pow_sub_one 32 i
  rw [Nat.testBit_xor, show (4294967295 : Nat) - c = 2 ^ 32 - (c + 1) by omega, h1, show (4294967295 : Nat) = 2 ^ 32 - 1 by decide, h2]
  by_cases hi : i < 32
  · simp [hi]
  · have : c.testBit i = false := Nat.testBit_lt_two_pow (Nat.lt_of_lt_of_le (show c < 2 ^ 32 by simpa using h) (Nat.pow_le_pow_right (by decide) (by omega)))
    simp [hi, this]

/-- Numbers that a byte can be. -/
def Bts (zs : List Int) : Prop := ∀ z ∈ zs, 0 ≤ z ∧ z ≤ 255

theorem runs_app : ∀ (a b : List Int) (r : Nat), runs r (a ++ b) = runs (runs r a) b
  | [], b, r => by rw [List.nil_append, runs_nil]
  | z :: a, b, r => by rw [List.cons_append, runs_cons r z (a ++ b), runs_cons r z a, runs_app a b]
theorem runs_lt : ∀ {zs : List Int} {r : Nat}, Bts zs → r < 4294967296 → runs r zs < 4294967296
  | [], _, _, h => by rw [runs_nil]; exact h
  | z :: zs, r, hb, h => by
    rw [runs_cons]
    have hz := hb z (List.mem_cons_self ..)
    exact runs_lt (fun y hy => hb y (List.mem_cons_of_mem _ hy)) (stps_lt 8 (xor_lt h (by omega)))
theorem upd_lt (c : Nat) (zs : List Int) : upd c zs < 4294967296 := by unfold upd; omega
theorem upd_join {c : Nat} {a b : List Int} (ha : Bts a) : upd (upd c a) b = upd c (a ++ b) := by
  have h1 : runs (4294967295 - c) a < 4294967296 := runs_lt ha (by omega)
  unfold upd
  rw [runs_app, show 4294967295 - (4294967295 - runs (4294967295 - c) a) = runs (4294967295 - c) a by omega]
theorem upd_nil {c : Nat} (h : c < 4294967296) : upd c [] = c := by unfold upd; rw [runs_nil]; omega

/-- Four bytes go in. -/
theorem byte_in (r s : Nat) : stps 8 (r ^^^ s) = stps 8 (r ^^^ (s % 256)) ^^^ (s / 256) := by
  have e := split_xor 8 s
  conv => lhs; rw [e]
  rw [show (2 : Nat) ^ 8 = 256 by decide, Nat.xor_comm (256 * (s / 256)), ← Nat.xor_assoc, stps_xor]
  have h8 := stps_pow 8 (s / 256)
  rw [show (2 : Nat) ^ 8 = 256 by decide] at h8
  rw [h8]
theorem low4_runs (r s : Nat) (h : s < 4294967296) : runs r (low4 s) = stps 32 (r ^^^ s) := by
  unfold low4
  rw [runs_cons, runs_cons, runs_cons, runs_cons, runs_nil]
  simp only [Int.toNat_natCast]
  rw [show (32 : Nat) = 8 + (8 + (8 + 8)) by decide, stps_add, stps_add, stps_add]
  rw [byte_in r s, byte_in _ (s / 256), byte_in _ (s / 256 / 256), Nat.div_div_eq_div_mul, Nat.div_div_eq_div_mul]
  have : s / (256 * 256 * 256) % 256 = s / (256 * 256 * 256) := by omega
  show _ = stps 8 (_ ^^^ s / (256 * 256 * 256))
  rw [show (16777216 : Nat) = 256 * 256 * 256 by decide, this]
theorem low4_bts (s : Nat) : Bts (low4 s) := by
  intro z hz
  unfold low4 at hz
  simp only [List.mem_cons, List.not_mem_nil, or_false] at hz
  omega
/-- Bytes with their own sum behind them. -/
theorem behind {zs : List Int} (h : Bts zs) : upd 0 (zs ++ low4 (upd 0 zs)) = 558161692 := by
  have h1 : runs 4294967295 zs < 4294967296 := runs_lt h (by decide)
  unfold upd
  rw [runs_app, low4_runs _ _ (by omega)]
  simp only [Nat.sub_zero]
  rw [not_xor h1, Nat.xor_comm 4294967295, ← Nat.xor_assoc, Nat.xor_self, Nat.zero_xor]
  decide
/-- A page opens where all its bytes leave the one register. -/
theorem opens_iff {zs : List Int} {t : Nat} (h : Bts zs) (ht : t < 4294967296) : runs 4294967295 (zs ++ low4 t) = stps 32 4294967295 ↔ t = upd 0 zs := by
  have h1 : runs 4294967295 zs < 4294967296 := runs_lt h (by decide)
  rw [runs_app, low4_runs _ _ ht]
  constructor
  · intro e
    have e1 := stps_inj 32 (xor_lt h1 ht) (by decide) e
    have e2 : t = 4294967295 ^^^ runs 4294967295 zs := by
      generalize runs 4294967295 zs = x at e1
      rw [← e1, Nat.xor_comm x t, Nat.xor_assoc, Nat.xor_self, Nat.xor_zero]
    rw [e2, ← not_xor h1]; simp only [upd, Nat.sub_zero]
  · rintro rfl
    simp only [upd, Nat.sub_zero]
    rw [not_xor h1, Nat.xor_comm 4294967295, ← Nat.xor_assoc, Nat.xor_self, Nat.zero_xor]

/-- Three lists xored. -/
def xor3 : List Int → List Int → List Int → List Int
  | a :: as, b :: bs, c :: cs => ((a.toNat ^^^ b.toNat ^^^ c.toNat : Nat) : Int) :: xor3 as bs cs
  | _, _, _ => []
theorem runs3 : ∀ (a b c : List Int) (p q r : Nat), a.length = b.length → b.length = c.length → runs (p ^^^ q ^^^ r) (xor3 a b c) = runs p a ^^^ runs q b ^^^ runs r c
  | [], [], [], _, _, _, _, _ => by rw [xor3, runs_nil, runs_nil, runs_nil, runs_nil]; simp
  | x :: a, y :: b, z :: c, p, q, r, h1, h2 => by
    rw [xor3, runs_cons, runs_cons p, runs_cons q, runs_cons r, ← runs3 a b c _ _ _ (by simpa using h1) (by simpa using h2), ← stps_xor, ← stps_xor]
    congr 2
    rw [Int.toNat_natCast]
    ac_rfl
theorem linear {a b c : List Int} (ha : Bts a) (hb : Bts b) (hc : Bts c) (h1 : a.length = b.length) (h2 : b.length = c.length) : upd 0 (xor3 a b c) = upd 0 a ^^^ upd 0 b ^^^ upd 0 c := by
  have k1 : runs 4294967295 a < 4294967296 := runs_lt ha (by decide)
  have k2 : runs 4294967295 b < 4294967296 := runs_lt hb (by decide)
  have k3 : runs 4294967295 c < 4294967296 := runs_lt hc (by decide)
  have e := runs3 a b c 4294967295 4294967295 4294967295 h1 h2
  have e1 : (4294967295 ^^^ 4294967295 ^^^ 4294967295 : Nat) = 4294967295 := by decide
  rw [e1] at e
  unfold upd
  simp only [Nat.sub_zero]
  rw [e, not_xor (xor_lt (xor_lt k1 k2) k3), not_xor k1, not_xor k2, not_xor k3]
  generalize runs 4294967295 a = x
  generalize runs 4294967295 b = y
  generalize runs 4294967295 c = z
  have : (4294967295 ^^^ x ^^^ (4294967295 ^^^ y) ^^^ (4294967295 ^^^ z) : Nat) = (4294967295 ^^^ 4294967295 ^^^ 4294967295) ^^^ (x ^^^ y ^^^ z) := by ac_rfl
  rw [this, e1]

/-- A list with the bit i turned. -/
def flip : List Int → Nat → List Int
  | [], _ => []
  | z :: zs, i => if i < 8 then ((z.toNat ^^^ 2 ^ i : Nat) : Int) :: zs else z :: flip zs (i - 8)
theorem flip_len : ∀ (zs : List Int) (i : Nat), (flip zs i).length = zs.length
  | [], _ => rfl
  | z :: zs, i => by unfold flip; split <;> simp [flip_len]
theorem flip_bts : ∀ (zs : List Int) (i : Nat), Bts zs → Bts (flip zs i)
  | [], _, h => h
  | z :: zs, i, h => by
    have hz := h z (List.mem_cons_self ..)
    have ht : Bts zs := fun y hy => h y (List.mem_cons_of_mem _ hy)
    unfold flip
    split
    · intro y hy
      rcases List.mem_cons.1 hy with rfl | hy
      · have := @Nat.xor_lt_two_pow z.toNat (2 ^ i) 8 (by simp; omega) (Nat.pow_lt_pow_right (by decide) (by assumption))
        simp at this; omega
      · exact ht y hy
    · intro y hy
      rcases List.mem_cons.1 hy with rfl | hy
      · exact hz
      · exact flip_bts zs _ ht y hy
theorem runs_lin : ∀ (zs : List Int) (a b : Nat), runs (a ^^^ b) zs = runs a zs ^^^ stps (8 * zs.length) b
  | [], a, b => by rw [runs_nil, runs_nil, List.length_nil, Nat.mul_zero, stps]
  | z :: zs, a, b => by
    rw [runs_cons, runs_cons, show a ^^^ b ^^^ z.toNat = a ^^^ z.toNat ^^^ b by ac_rfl, stps_xor, runs_lin zs, ← stps_add, List.length_cons]
    congr 2; omega
theorem flip_runs : ∀ (zs : List Int) (i r : Nat), i < 8 * zs.length → runs r (flip zs i) = runs r zs ^^^ stps (8 * zs.length - i) 1
  | [], i, r, h => by simp at h
  | z :: zs, i, r, h => by
    rw [List.length_cons] at h ⊢
    unfold flip
    split
    · rename_i hi
      have e : stps 8 (2 ^ i) = stps (8 - i) 1 := by
        have h8 : 8 = i + (8 - i) := by omega
        have := stps_pow i 1
        rw [Nat.mul_one] at this
        calc stps 8 (2 ^ i) = stps (i + (8 - i)) (2 ^ i) := by rw [← h8]
          _ = _ := by rw [stps_add, this]
      rw [runs_cons, runs_cons, Int.toNat_natCast, ← Nat.xor_assoc, stps_xor, e]
      rw [runs_lin zs _ _, ← stps_add]
      congr 2; omega
    · rw [runs_cons, runs_cons, flip_runs zs (i - 8) _ (by omega)]
      congr 2; omega
end Go.Proofs.YtgipnfbojnllnaaGreatDoor
