import Derived.Test.YtlfhonlifgpnhaaRd
namespace Go.Proofs.Ytlfhonlifgpnhaa
open Go.RowKit

theorem pow7i (z : Int) (i : Nat) (hz : 0 ≤ z) : z * 2 ^ (7 * i) = ((z.toNat * 128 ^ i : Nat) : Int) := by
  have e : (2 : Nat) ^ (7 * i) = 128 ^ i := by rw [Nat.pow_mul]
  have e2 : (2 : Int) ^ (7 * i) = ((128 ^ i : Nat) : Int) := by rw [← e]; simp
  rw [e2, Int.natCast_mul, Int.toNat_of_nonneg hz]

theorem or_place (a i : Nat) (z : Int) (hz : 0 ≤ z) (ha : a < 128 ^ i) (hb : z.toNat * 128 ^ i < 18446744073709551616) (ha64 : a < 18446744073709551616) :
    bits BinOp.or IntKind.u64 (a : Int) (z * 2 ^ (7 * i)) = ((a + z.toNat * 128 ^ i : Nat) : Int) := by
  rw [pow7i z i hz, u64_or_nat a _ ha64 hb, Nat.or_comm, nat_join (7 * i) _ _ ?_ ?_, Nat.add_comm]
  · rw [Nat.pow_mul]; exact Nat.mul_mod_left _ _
  · rw [Nat.pow_mul]; exact ha

theorem or_shift (a i : Nat) (z : Int) (hz : 0 ≤ z) (ha : a < 128 ^ i) (hb : z.toNat * 128 ^ i < 18446744073709551616) (ha64 : a < 18446744073709551616) :
    bits BinOp.or IntKind.u64 (a : Int) (IntKind.u64.wrap (z * 2 ^ (7 * i))) = ((a + z.toNat * 128 ^ i : Nat) : Int) := by
  rw [IntKind.wrap_u64]
  have h1 : z * 2 ^ (7 * i) % 18446744073709551616 = z * 2 ^ (7 * i) := by rw [pow7i z i hz]; omega
  rw [h1]; exact or_place a i z hz ha hb ha64

theorem pow_le_9 (i : Nat) (hi : i ≤ 9) : 128 ^ i ≤ 9223372036854775808 := by
  have : 128 ^ i ≤ 128 ^ 9 := Nat.pow_le_pow_right (by omega) hi
  omega
theorem pow_le_8 (i : Nat) (hi : i ≤ 8) : 128 ^ i ≤ 72057594037927936 := by
  have : 128 ^ i ≤ 128 ^ 8 := Nat.pow_le_pow_right (by omega) hi
  omega
theorem mul_small (z : Int) (i : Nat) (hi : i ≤ 8) (hz : z ≤ 127) : z.toNat * 128 ^ i < 18446744073709551616 := by
  have h := pow_le_8 i hi
  have : z.toNat * 128 ^ i ≤ 127 * 128 ^ i := Nat.mul_le_mul_right _ (by omega)
  omega

set_option maxHeartbeats 400000 in
/-- endLeast. -/
theorem endLeast_any (a i : Nat) (z : Int) (w : World) (hz0 : 0 ≤ z) (hz1 : z < 128) (hi : i ≤ 9) (ha : a < 128 ^ i) :
    Calls Try.prog 90 #[.int .u64 a, .int .i64 i, .int .u8 z] w fun en w' => en = .returned (.tuple #[.int .u64 (endL a i z).1, .int .i64 (endL a i z).2.1, .int .i64 (endL a i z).2.2]) ∧ w' = w := by
  have ha64 : a < 18446744073709551616 := by have := pow_le_9 i hi; omega
  have HA : Hid (a < 128 ^ i) := ha
  clear ha
  by_cases h9 : i = 9
  · subst h9
    by_cases hz : 1 < z
    · have e : endL a 9 z = (0, 0, 12) := by rw [endL, if_pos ⟨rfl, hz⟩]
      rw [e]
      clear e
      go_enter Try.func90, Try.ntmps90
      go_wp2
      go_ret3
      exact ⟨rfl, rfl⟩
    · by_cases h0 : z = 0
      · subst h0
        have e : endL a 9 0 = (0, 0, 11) := by rw [endL, if_neg (by omega), if_pos ⟨by omega, rfl⟩]
        rw [e]
        clear e
        go_enter Try.func90, Try.ntmps90
        go_wp2
        go_ret3
        exact ⟨rfl, rfl⟩
      · have hz1 : z = 1 := by omega
        subst hz1
        have e : endL a 9 1 = (a + (1 : Int).toNat * 128 ^ 9, 9 + 1, 0) := by rw [endL, if_neg (by omega), if_neg (by omega)]
        have eo : bits BinOp.or IntKind.u64 (a : Int) 9223372036854775808 = (a : Int) + 9223372036854775808 := by
          have := or_place a 9 1 (by omega) HA.out (by decide) ha64
          simpa using this
        rw [e]
        have HE : Hid (bits BinOp.or IntKind.u64 (a : Int) 9223372036854775808 = (a : Int) + 9223372036854775808) := eo
        clear e eo
        go_enter Try.func90, Try.ntmps90
        go_wp2
        go_ret3
        refine ⟨?_, rfl⟩
        show Ending.returned (.tuple #[.int .u64 (bits BinOp.or IntKind.u64 (a : Int) 9223372036854775808), .int .i64 10, .int .i64 0]) = _
        rw [HE.out]
  · by_cases h0 : 0 < i ∧ z = 0
    · obtain ⟨hi0, rfl⟩ := h0
      have e : endL a i 0 = (0, 0, 11) := by rw [endL, if_neg (by omega), if_pos ⟨by omega, rfl⟩]
      rw [e]
      clear e
      have hb9 : ((i : Int) == 9) = false := by simp; omega
      go_enter Try.func90, Try.ntmps90
      go_wp2
      go_ret3
      exact ⟨rfl, rfl⟩
    · have e : endL a i z = (a + z.toNat * 128 ^ i, i + 1, 0) := by rw [endL, if_neg (by omega), if_neg h0]
      have eo := or_shift a i z hz0 HA.out (mul_small z i (by omega) (by omega)) ha64
      rw [e]
      have HE : Hid (bits BinOp.or IntKind.u64 (a : Int) (IntKind.u64.wrap (z * 2 ^ (7 * i))) = ((a + z.toNat * 128 ^ i : Nat) : Int)) := eo
      clear e eo
      have hb9 : ((i : Int) == 9) = false := by simp; omega
      by_cases hi0 : 0 < i
      · have hz : (z == 0) = false := by simp; intro h; exact h0 ⟨hi0, h⟩
        clear h0
        go_enter Try.func90, Try.ntmps90
        go_wp2
        go_ret3
        refine ⟨?_, rfl⟩
        rw [← HE.out]
        rfl
      · clear h0
        go_enter Try.func90, Try.ntmps90
        go_wp2
        go_ret3
        refine ⟨?_, rfl⟩
        rw [← HE.out]
        rfl

set_option maxHeartbeats 400000 in
/-- readLeast of no bytes. -/
theorem readLeast_none (ao : Option Addr) (c : Nat) (w : World) :
    Calls Try.prog 84 #[.slice ao 0 c] w fun en w' => en = .returned (.tuple #[.int .u64 0, .int .i64 0, .int .i64 10]) ∧ w' = w := by
  go_enter Try.func84, Try.ntmps84
  go_wp2
  refine wp_loop_rounds 1 ?_
  rw [rounds_succ]
  go_wp2
  go_ret3
  exact ⟨rfl, rfl⟩

theorem drop_at {zs : List Int} {k : Nat} (h : k < zs.length) : zs.drop k = zs.getD k 0 :: zs.drop (k + 1) := by
  rw [List.drop_eq_getElem_cons h]
  simp [List.getD, List.getElem?_eq_getElem h]

theorem scan_end {zs : List Int} {k a : Nat} {z : Int} (hk : k < 10) (hl : k < zs.length) (hz : z = zs.getD k 0) (h128 : z < 128) (h : scan (10 - k) k a (zs.drop k) = rv zs) : rv zs = endL a k z := by
  rw [← h, drop_at hl, ← hz, show 10 - k = (9 - k) + 1 by omega, scan, if_pos h128]

theorem scan_more {zs : List Int} {k a : Nat} {z : Int} (hk : k < 10) (hl : k < zs.length) (hz : z = zs.getD k 0) (h128 : ¬ z < 128) (h : scan (10 - k) k a (zs.drop k) = rv zs) :
    scan (10 - (k + 1)) (k + 1) (a + (z - 128).toNat * 128 ^ k) (zs.drop (k + 1)) = rv zs := by
  rw [← h, drop_at hl, ← hz, show 10 - k = (9 - k) + 1 by omega, scan, if_neg h128, show 10 - (k + 1) = 9 - k by omega]

/-- What holds at each round's head of readLeast. -/
def LeastRel (zs : List Int) (M : Nat) (w : World) (sx si : Value) (wr : World) : Prop :=
  ∃ (k : Nat) (X : Int), k ≤ M ∧ si = .int .i64 k ∧ sx = .int .u64 X ∧ wr = w ∧ (k < 10 → ∃ a : Nat, X = (a : Int) ∧ a < 128 ^ k ∧ scan (10 - k) k a (zs.drop k) = rv zs) ∧ (k = 10 → rv zs = (0, 0, 12))

theorem LeastRel.start (zs : List Int) (M : Nat) (w : World) : LeastRel zs M w (.int .u64 0) (.int .i64 0) w :=
  ⟨0, 0, Nat.zero_le _, rfl, rfl, rfl, fun _ => ⟨0, rfl, by simp, rfl⟩, fun h => by omega⟩

theorem LeastRel.next {zs : List Int} {M k a : Nat} {z : Int} {w : World} (hk : k < M) (hM : M ≤ 10) (hl : k < zs.length) (hz : z = zs.getD k 0) (hz1 : z ≤ 255) (h128 : ¬ z < 128) (ha : a < 128 ^ k) (h : scan (10 - k) k a (zs.drop k) = rv zs)
    (X' : Int) (hX : X' = bits BinOp.or IntKind.u64 (a : Int) (IntKind.u64.wrap ((z - 128) * 2 ^ (7 * k)))) (I : Int) (hI : I = (k : Int) + 1) : LeastRel zs M w (.int .u64 X') (.int .i64 I) w := by
  have hm := scan_more (by omega) hl hz h128 h
  have ha64 : a < 18446744073709551616 := by have := pow_le_9 k (by omega); omega
  subst hX hI
  refine ⟨k + 1, _, by omega, by go_num, rfl, rfl, fun hk1 => ⟨a + (z - 128).toNat * 128 ^ k, ?_, ?_, hm⟩, fun hk1 => ?_⟩
  · exact or_shift a k (z - 128) (by omega) ha (mul_small (z - 128) k (by omega) (by omega)) ha64
  · have : (z - 128).toNat * 128 ^ k ≤ 127 * 128 ^ k := Nat.mul_le_mul_right _ (by omega)
    rw [Nat.pow_succ]; omega
  · rw [← hm, hk1]; rfl

set_option maxHeartbeats 400000 in
theorem readLeast_some (b off n c : Nat) (zs : List Int) (w : World) (hc : n ≤ c) (hcm : c ≤ 1099511627776) (hn : 0 < n) (hb : Byt w (some ⟨b, off, none⟩) n c zs) (hbt : Bt zs) :
    Calls Try.prog 84 #[.slice (some ⟨b, off, none⟩) n c] w fun en w' => en = .returned (.tuple #[.int .u64 (rv zs).1, .int .i64 (rv zs).2.1, .int .i64 (rv zs).2.2]) ∧ w' = w := by
  have hcell : ∀ i, i < n → w.cell? ⟨b, off + i, none⟩ = some (.int .u8 (zs.getD i 0)) := by
    obtain ⟨b', off', e, _, h⟩ := hb.at hn
    simp at e; obtain ⟨rfl, rfl⟩ := e; exact h
  have HL : Hid (zs.length = n) := hb.len
  have HBT : Hid (Bt zs) := hbt
  have HC : Hid (∀ i, i < n → w.cell? ⟨b, off + i, none⟩ = some (.int .u8 (zs.getD i 0))) := hcell
  clear hb hbt hcell
  by_cases h10 : n < 10
  · have hn10 : ¬ (10 : Int) < (n : Int) := by omega
    go_enter Try.func84, Try.ntmps84
    go_wp2
    go_loopw [5, 14] (fun sx si wr => LeastRel zs n w sx si wr) (fun _ si _ => n - (intOf si).toNat)
    case atStart => exact LeastRel.start zs n w
    case round =>
      obtain ⟨k, X, hk, rfl, rfl, rfl, h1, h2⟩ := hrel
      have H1 : Hid (k < 10 → ∃ a : Nat, X = (a : Int) ∧ a < 128 ^ k ∧ scan (10 - k) k a (zs.drop k) = rv zs) := h1
      have H2 : Hid (k = 10 → rv zs = (0, 0, 12)) := h2
      clear h1 h2
      by_cases hlt : k < n
      · obtain ⟨a, rfl, ha, hs⟩ := H1.out (by omega)
        have HA : Hid (a < 128 ^ k) := ha
        have HS : Hid (scan (10 - k) k a (zs.drop k) = rv zs) := hs
        obtain ⟨z, hz⟩ : ∃ z, z = zs.getD k 0 := ⟨_, rfl⟩
        have hcell : wr.cell? ⟨b, off + k, none⟩ = some (.int .u8 z) := by rw [hz]; exact HC.out k (by omega)
        have hzb : 0 ≤ z ∧ z ≤ 255 := by rw [hz]; exact HBT.out.getD k
        obtain ⟨hz0, hz1⟩ := hzb
        have HZ : Hid (z = zs.getD k 0) := hz
        clear ha hs hz
        by_cases h128 : z < 128
        · go_wp2_with fail
          refine (endLeast_any a k z _ hz0 h128 (by omega) HA.out).mono ?_
          rintro e w1 ⟨rfl, rfl⟩
          have he := scan_end (by omega) (by rw [HL.out]; omega) HZ.out h128 HS.out
          rw [← he]
          clear he
          go_wp2
          go_ret3
          exact ⟨rfl, rfl⟩
        · go_wp2
          go_roundw
          case rel => exact LeastRel.next hlt (by omega) (by rw [HL.out]; omega) HZ.out hz1 h128 HA.out HS.out _ rfl _ (by first | rfl | omega)
          case measure => simp [intOf]; omega
      · have hkn : k = n := by omega
        obtain ⟨a, _, _, hs⟩ := H1.out (by omega)
        have he : rv zs = (0, 0, 10) := by
          rw [← hs, hkn, List.drop_eq_nil_of_le (by rw [HL.out]; exact Nat.le_refl _), show 10 - n = (9 - n) + 1 by omega]; rfl
        have HE : Hid (rv zs = (0, 0, 10)) := he
        clear he hs
        go_wp2
        go_ret3
        rw [HE.out]
        exact ⟨rfl, rfl⟩
  · by_cases h11 : n = 10
    · subst h11
      have he0 : True := trivial
      go_enter Try.func84, Try.ntmps84
      go_wp2
      go_loopw [5, 14] (fun sx si wr => LeastRel zs 10 w sx si wr) (fun _ si _ => 10 - (intOf si).toNat)
      case atStart => exact LeastRel.start zs 10 w
      case round =>
        obtain ⟨k, X, hk, rfl, rfl, rfl, h1, h2⟩ := hrel
        have H1 : Hid (k < 10 → ∃ a : Nat, X = (a : Int) ∧ a < 128 ^ k ∧ scan (10 - k) k a (zs.drop k) = rv zs) := h1
        have H2 : Hid (k = 10 → rv zs = (0, 0, 12)) := h2
        clear h1 h2
        by_cases hlt : k < 10
        · obtain ⟨a, rfl, ha, hs⟩ := H1.out (by omega)
          have HA : Hid (a < 128 ^ k) := ha
          have HS : Hid (scan (10 - k) k a (zs.drop k) = rv zs) := hs
          obtain ⟨z, hz⟩ : ∃ z, z = zs.getD k 0 := ⟨_, rfl⟩
          have hcell : wr.cell? ⟨b, off + k, none⟩ = some (.int .u8 z) := by rw [hz]; exact HC.out k (by omega)
          have hzb : 0 ≤ z ∧ z ≤ 255 := by rw [hz]; exact HBT.out.getD k
          obtain ⟨hz0, hz1⟩ := hzb
          have HZ : Hid (z = zs.getD k 0) := hz
          clear ha hs hz
          by_cases h128 : z < 128
          · go_wp2_with fail
            refine (endLeast_any a k z _ hz0 h128 (by omega) HA.out).mono ?_
            rintro e w1 ⟨rfl, rfl⟩
            have he := scan_end (by omega) (by rw [HL.out]; omega) HZ.out h128 HS.out
            rw [← he]
            clear he
            go_wp2
            go_ret3
            exact ⟨rfl, rfl⟩
          · go_wp2
            go_roundw
            case rel => exact LeastRel.next hlt (by omega) (by rw [HL.out]; omega) HZ.out hz1 h128 HA.out HS.out _ rfl _ (by first | rfl | omega)
            case measure => simp [intOf]; omega
        · have hkn : k = 10 := by omega
          have he := H2.out hkn
          have HE : Hid (rv zs = (0, 0, 12)) := he
          clear he
          go_wp2
          go_ret3
          rw [HE.out]
          exact ⟨rfl, rfl⟩
    · have hn10 : (10 : Int) < (n : Int) := by omega
      go_enter Try.func84, Try.ntmps84
      go_wp2
      go_loopw [5, 14] (fun sx si wr => LeastRel zs 10 w sx si wr) (fun _ si _ => 10 - (intOf si).toNat)
      case atStart => exact LeastRel.start zs 10 w
      case round =>
        obtain ⟨k, X, hk, rfl, rfl, rfl, h1, h2⟩ := hrel
        have H1 : Hid (k < 10 → ∃ a : Nat, X = (a : Int) ∧ a < 128 ^ k ∧ scan (10 - k) k a (zs.drop k) = rv zs) := h1
        have H2 : Hid (k = 10 → rv zs = (0, 0, 12)) := h2
        clear h1 h2
        by_cases hlt : k < 10
        · obtain ⟨a, rfl, ha, hs⟩ := H1.out (by omega)
          have HA : Hid (a < 128 ^ k) := ha
          have HS : Hid (scan (10 - k) k a (zs.drop k) = rv zs) := hs
          obtain ⟨z, hz⟩ : ∃ z, z = zs.getD k 0 := ⟨_, rfl⟩
          have hcell : wr.cell? ⟨b, off + k, none⟩ = some (.int .u8 z) := by rw [hz]; exact HC.out k (by omega)
          have hzb : 0 ≤ z ∧ z ≤ 255 := by rw [hz]; exact HBT.out.getD k
          obtain ⟨hz0, hz1⟩ := hzb
          have HZ : Hid (z = zs.getD k 0) := hz
          clear ha hs hz
          by_cases h128 : z < 128
          · go_wp2_with fail
            refine (endLeast_any a k z _ hz0 h128 (by omega) HA.out).mono ?_
            rintro e w1 ⟨rfl, rfl⟩
            have he := scan_end (by omega) (by rw [HL.out]; omega) HZ.out h128 HS.out
            rw [← he]
            clear he
            go_wp2
            go_ret3
            exact ⟨rfl, rfl⟩
          · go_wp2
            go_roundw
            case rel => exact LeastRel.next hlt (by omega) (by rw [HL.out]; omega) HZ.out hz1 h128 HA.out HS.out _ rfl _ (by first | rfl | omega)
            case measure => simp [intOf]; omega
        · have hkn : k = 10 := by omega
          have he := H2.out hkn
          have HE : Hid (rv zs = (0, 0, 12)) := he
          clear he
          go_wp2
          go_ret3
          rw [HE.out]
          exact ⟨rfl, rfl⟩

end Go.Proofs.Ytlfhonlifgpnhaa
