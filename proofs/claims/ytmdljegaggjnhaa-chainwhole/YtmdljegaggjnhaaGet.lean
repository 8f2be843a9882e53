import Derived.Test.YtmdljegaggjnhaaV
namespace Go.Proofs.Ytmdljegaggjnhaa
open Go.RowKit

theorem pow8i (z : Int) (i : Nat) (hz : 0 ≤ z) : z * 2 ^ (8 * i) = ((z.toNat * 256 ^ i : Nat) : Int) := by
  have e : (2 : Nat) ^ (8 * i) = 256 ^ i := by rw [Nat.pow_mul]
  have e2 : (2 : Int) ^ (8 * i) = ((256 ^ i : Nat) : Int) := by rw [← e]; simp
  rw [e2, Int.natCast_mul, Int.toNat_of_nonneg hz]

theorem or_byte (a i : Nat) (z : Int) (hz : 0 ≤ z) (hz1 : z ≤ 255) (hi : i ≤ 7) (ha : a < 256 ^ i) :
    bits BinOp.or IntKind.u64 (a : Int) (IntKind.u64.wrap (z * 2 ^ (8 * i))) = ((a + z.toNat * 256 ^ i : Nat) : Int) := by
  have hp : 256 ^ i ≤ 256 ^ 7 := Nat.pow_le_pow_right (by omega) hi
  have hb : z.toNat * 256 ^ i ≤ 255 * 256 ^ i := Nat.mul_le_mul_right _ (by omega)
  have h1 : z * 2 ^ (8 * i) % 18446744073709551616 = z * 2 ^ (8 * i) := by rw [pow8i z i hz]; omega
  rw [IntKind.wrap_u64, h1, pow8i z i hz, u64_or_nat a _ (by omega) (by omega), Nat.or_comm, nat_join (8 * i) _ _ ?_ ?_, Nat.add_comm]
  · rw [Nat.pow_mul]; exact Nat.mul_mod_left _ _
  · rw [Nat.pow_mul]; exact ha

/-- What holds at each round's head of Get. -/
def GetRel (bs : List Int) (w : World) (sx si : Value) (wr : World) : Prop :=
  ∃ (k a : Nat), k ≤ bs.length ∧ si = .int .i64 k ∧ sx = .int .u64 (a : Int) ∧ wr = w ∧ a = le k bs

theorem GetRel.next {bs : List Int} {k a : Nat} {z : Int} {w : World} (hk : k < bs.length) (h8 : bs.length ≤ 8) (hb : Bt bs) (hz : z = bs.getD k 0) (ha : a = le k bs)
    (X' : Int) (hX : X' = bits BinOp.or IntKind.u64 (a : Int) (IntKind.u64.wrap (z * 2 ^ (8 * k)))) (I : Int) (hI : I = (k : Int) + 1) : GetRel bs w (.int .u64 X') (.int .i64 I) w := by
  subst hX hI
  have hz' := hb.getD k
  rw [← hz] at hz'
  have hlt := le_lt k bs hb
  refine ⟨k + 1, le (k + 1) bs, by omega, by go_num, ?_, rfl, rfl⟩
  rw [or_byte a k z hz'.1 hz'.2 (by omega) (by rw [ha]; exact hlt), le_snoc k bs hk, ha, hz]

theorem le_take (k : Nat) : ∀ zs : List Int, le k (zs.take k) = le k zs := by
  induction k with
  | zero => intro zs; rfl
  | succ k ih =>
    intro zs
    cases zs with
    | nil => rfl
    | cons z zs => rw [List.take_succ_cons, le, le, ih]

set_option maxHeartbeats 1000000 in
theorem get_u16_ok (R G : Nat) (zs : List Int) (p : Nat) (w : World) (h : Rd w R G zs p 0) (hbt : Bt zs) (hp : p + 2 ≤ zs.length) :
    Calls Try.prog 52 #[.pointer (some ⟨R, 0, none⟩)] w fun en w' => en = .returned (.int .u16 (le 2 (zs.drop p) : Nat)) ∧ Rd w' R G zs (p + 2) 0 ∧ w.grownBy w' (some R) := by
  have HR : Hid (Rd w R G zs p 0) := h
  clear h
  go_enter Try.func52, Try.ntmps52
  go_wp2_with fail
  refine (width_u16 _).mono ?_
  rintro en w0 ⟨rfl, rfl⟩
  go_wp2_with fail
  refine (bytes_ok R G zs p 2 _ HR.out hp).mono ?_
  rintro en w1 ⟨ao, rfl, hao, hby, hr, hg⟩
  have hao' := hao (by omega)
  subst hao'
  have HR1 : Hid (Rd w1 R G zs (p + 2) 0) := hr
  have HG1 : Hid (w0.grownBy w1 (some R)) := hg
  have HB : Hid (Bt ((zs.drop p).take 2)) := (hbt.drop p).take 2
  have hlen : ((zs.drop p).take 2).length = 2 := by simp; omega
  obtain ⟨bs, hbs⟩ : ∃ bs, bs = (zs.drop p).take 2 := ⟨_, rfl⟩
  rw [← hbs] at hby hlen HB
  have HF : Hid (le 2 (zs.drop p) = le 2 bs) := by rw [hbs]; exact (le_take 2 _).symm
  have HC : Hid (∀ i, i < 2 → w1.cell? ⟨G, p + i, none⟩ = some (.int .u8 (bs.getD i 0))) := by
    obtain ⟨b', off', e, _, hh⟩ := hby.at (by omega)
    simp at e; obtain ⟨rfl, rfl⟩ := e; exact hh
  have HL : Hid (bs.length = 2) := hlen
  clear hao hby hr hg hlen hbs
  go_wp2
  go_loopw [3, 10] (fun sx si wr => GetRel bs w1 sx si wr) (fun _ si _ => 2 - (intOf si).toNat)
  case atStart => exact ⟨0, 0, Nat.zero_le _, rfl, rfl, rfl, rfl⟩
  case round =>
    obtain ⟨k, a, hk, rfl, rfl, rfl, ha⟩ := hrel
    have hk' : k ≤ 2 := by rw [HL.out] at hk; exact hk
    have HA : Hid (a = le k bs) := ha
    clear hk ha
    by_cases hlt : k < 2
    · obtain ⟨z, hz⟩ : ∃ z, z = bs.getD k 0 := ⟨_, rfl⟩
      have hcell : wr.cell? ⟨G, p + k, none⟩ = some (.int .u8 z) := by rw [hz]; exact HC.out k hlt
      have hzb : 0 ≤ z ∧ z ≤ 255 := by rw [hz]; exact HB.out.getD k
      obtain ⟨hz0, hz1⟩ := hzb
      have HZ : Hid (z = bs.getD k 0) := hz
      clear hz
      go_wp2
      go_roundw
      case rel => exact GetRel.next (by rw [HL.out]; exact hlt) (by rw [HL.out]; omega) HB.out HZ.out HA.out _ rfl _ (by first | rfl | omega)
      case measure => simp [intOf]; omega
    · have hkn : k = 2 := by omega
      subst hkn
      have ham : a < 65536 := by rw [HA.out]; exact le_lt 2 bs HB.out
      go_wp2
      go_ret
      rw [HF.out, ← HA.out]
      exact ⟨rfl, HR1.out, HG1.out⟩

set_option maxHeartbeats 400000 in
theorem get_u16_short (R G : Nat) (zs : List Int) (p : Nat) (w : World) (h : Rd w R G zs p 0) (hp : zs.length < p + 2) :
    Calls Try.prog 52 #[.pointer (some ⟨R, 0, none⟩)] w fun en w' => en = .returned (.int .u16 0) ∧ Rd w' R G zs p 10 ∧ w.grownBy w' (some R) := by
  have HR : Hid (Rd w R G zs p 0) := h
  clear h
  go_enter Try.func52, Try.ntmps52
  go_wp2_with fail
  refine (width_u16 _).mono ?_
  rintro en w0 ⟨rfl, rfl⟩
  go_wp2_with fail
  refine (bytes_short R G zs p 2 _ HR.out (by omega)).mono ?_
  rintro en w1 ⟨rfl, hr, hg⟩
  have HR1 : Hid (Rd w1 R G zs p 10) := hr
  have HG1 : Hid (w0.grownBy w1 (some R)) := hg
  clear hr hg
  go_wp2
  refine wp_loop_rounds 1 ?_
  rw [rounds_succ]
  go_wp2
  go_ret
  exact ⟨rfl, HR1.out, HG1.out⟩

set_option maxHeartbeats 400000 in
theorem get_u16_broken (R G : Nat) (zs : List Int) (p : Nat) (e : Int) (w : World) (h : Rd w R G zs p e) (he : (e == 0) = false) :
    Calls Try.prog 52 #[.pointer (some ⟨R, 0, none⟩)] w fun en w' => en = .returned (.int .u16 0) ∧ Rd w' R G zs p e ∧ w.grownBy w' (some R) := by
  have HR : Hid (Rd w R G zs p e) := h
  clear h
  go_enter Try.func52, Try.ntmps52
  go_wp2_with fail
  refine (width_u16 _).mono ?_
  rintro en w0 ⟨rfl, rfl⟩
  go_wp2_with fail
  refine (bytes_broken R G zs p e 2 _ HR.out he).mono ?_
  rintro en w1 ⟨ao, rfl, hr, hg⟩
  have HR1 : Hid (Rd w1 R G zs p e) := hr
  have HG1 : Hid (w0.grownBy w1 (some R)) := hg
  clear hr hg
  go_wp2
  refine wp_loop_rounds 1 ?_
  rw [rounds_succ]
  go_wp2
  go_ret
  exact ⟨rfl, HR1.out, HG1.out⟩

end Go.Proofs.Ytmdljegaggjnhaa
