import Derived.Test.YthodgddoolbenaaGreatDoorQ19
import Derived.Laws.Concat
namespace Go.Proofs.YthodgddoolbenaaGreatDoor
open Go.RowKit
theorem tstr_app (a b : List UInt8) : tstr a ++ tstr b = tstr (a ++ b) := by
 unfold tstr
 rw [ByteArray.mk_append_mk]
theorem tstr_size (a : List UInt8) : (tstr a).size = a.length := by unfold tstr; rfl
theorem tstr_data (a : List UInt8) : (tstr a).data.toList = a := rfl
theorem digs_cut (q : Nat) (h : q < 16) : (⟨#[48, 49, 50, 51, 52, 53, 54, 55, 56, 57, 97, 98, 99, 100, 101, 102]⟩ : ByteArray).extract q (q + 1) = tstr [dgt q] := by
 have : ∀ q : Fin 16, ((⟨#[48, 49, 50, 51, 52, 53, 54, 55, 56, 57, 97, 98, 99, 100, 101, 102]⟩ : ByteArray).extract q.1 (q.1 + 1)).data = (tstr [dgt q.1]).data := by decide +kernel
 exact ByteArray.ext (this ⟨q, h⟩)
theorem dgt_dec {q : Nat} (h : q < 10) : dgt q = UInt8.ofNat (48 + q) := by unfold dgt; rw [if_pos h]
theorem dec_len : ∀ (k n : Nat), n < 10 ^ (k + 1) → (Lib.decDigits n).length ≤ k + 1
 | 0, n, h => by rw [dec_small (by simpa using h)]; simp
 | k + 1, n, h => by
  by_cases h10 : n < 10
  ·rw [dec_small h10]; simp
  ·rw [dec_big h10, List.length_append]
   have := dec_len k (n / 10) (by rw [Nat.pow_succ] at h; omega)
   simp; omega
set_option maxHeartbeats 1000000 in
set_option maxRecDepth 100000 in
theorem refDecimal_any : ∀ (k n : Nat) (w : World), n < 10 ^ (k + 1) → k < 18 → Calls Tryz.prog 17 #[.int .i64 (n : Nat)] w fun en w' => en = .returned (.string (tstr (Lib.decDigits n))) ∧ ∃ m, w' = w.drewN m := by
 intro k
 induction k with
 | zero =>
  intro n w hn hk
  have h10 : n < 10 := by simpa using hn
  have g1 : (n : Int) < 10 := by omega
  have e1 := digs_cut n (by omega)
  rw [dgt_dec h10, ← dec_small h10] at e1
  have g2 : (0 : Int) ≤ (n : Int) := by omega
  have g3 : (n : Int) + 1 ≤ 16 := by omega
  have g4 : ((n : Int) + 1).toNat = n + 1 := by omega
  have g5 : (n : Int) ≤ (n : Int) + 1 := by omega
  go_enter Tryz.func17, Tryz.ntmps17
  go_wp2
  go_ret
  exact ⟨rfl, 0, rfl⟩
 | succ k ih =>
  intro n w hn hk
  by_cases h10 : n < 10
  ·have g1 : (n : Int) < 10 := by omega
   have e1 := digs_cut n (by omega)
   rw [dgt_dec h10, ← dec_small h10] at e1
   have g2 : (0 : Int) ≤ (n : Int) := by omega
   have g3 : (n : Int) + 1 ≤ 16 := by omega
   have g4 : ((n : Int) + 1).toNat = n + 1 := by omega
   have g5 : (n : Int) ≤ (n : Int) + 1 := by omega
   go_enter Tryz.func17, Tryz.ntmps17
   go_wp2
   go_ret
   exact ⟨rfl, 0, rfl⟩
  ·have hd : n / 10 < 10 ^ (k + 1) := by rw [Nat.pow_succ] at hn; omega
   have hlen := dec_len k (n / 10) hd
   have HI : Hid (∀ w : World, Calls Tryz.prog 17 #[.int .i64 ((n / 10 : Nat) : Int)] w fun en w' => en = .returned (.string (tstr (Lib.decDigits (n / 10)))) ∧ ∃ m, w' = w.drewN m) := fun w => ih (n / 10) w hd (by omega)
   have HR : Hid (tstr (Lib.decDigits (n / 10)) ++ tstr [dgt (n % 10)] = tstr (Lib.decDigits n)) := by
    show _ = _
    rw [tstr_app, dgt_dec (by omega), ← dec_big h10]
   have hb : n < 9000000000000000000 := by
    have h1 : 10 ^ (k + 1 + 1) ≤ 10 ^ 18 := Nat.pow_le_pow_right (by decide) (by omega)
    have h2 : (10 : Nat) ^ 18 = 1000000000000000000 := by decide
    omega
   obtain ⟨q, hq⟩ : ∃ q, n / 10 = q := ⟨_, rfl⟩
   obtain ⟨r, hr⟩ : ∃ r, n % 10 = r := ⟨_, rfl⟩
   rw [hq] at HI HR hlen
   rw [hr] at HR
   have hr10 : r < 10 := by omega
   have e1 := digs_cut r (by omega)
   have g0 : ¬ (n : Int) < 10 := by omega
   have g1 : (n : Int) / 10 = (q : Int) := by omega
   have g1' : (n : Int) % 10 = (r : Int) := by omega
   have g1'' : (n : Int).tdiv 10 = (q : Int) := by rw [Int.tdiv_eq_ediv_of_nonneg (by omega)]; omega
   have g1''' : (n : Int).tmod 10 = (r : Int) := by rw [Int.tmod_eq_emod_of_nonneg (by omega)]; omega
   have w1 : IntKind.i64.wrap (q : Int) = (q : Int) := wrap_small _ (by omega) (by omega)
   have w2 : IntKind.i64.wrap (r : Int) = (r : Int) := wrap_small _ (by omega) (by omega)
   have w3 : IntKind.i64.wrap ((r : Int) + 1) = (r : Int) + 1 := wrap_small _ (by omega) (by omega)
   have g2 : (0 : Int) ≤ (r : Int) := by omega
   have g3 : (r : Int) + 1 ≤ 16 := by omega
   have g4 : ((r : Int) + 1).toNat = r + 1 := by omega
   have g5 : (r : Int) ≤ (r : Int) + 1 := by omega
   have z1 := tstr_size (Lib.decDigits q)
   have z2 : (tstr [dgt r]).size = 1 := rfl
   have z3 : ¬ (9223372036854775807 < (tstr (Lib.decDigits q)).size + 1) := by rw [z1]; omega
   clear ih hn hd hq hr hlen z1
   generalize tstr (Lib.decDigits q) = D at *
   generalize tstr [dgt r] = E at *
   generalize tstr (Lib.decDigits n) = F at *
   go_enter Tryz.func17, Tryz.ntmps17
   go_wp2
   go_quiet ((go_at_call 17; exact Calls.quiet_of (HI.out _)))
   go_wp2
   go_ret
   exact ⟨congrArg (fun z => Ending.returned (Value.string z)) HR.out, _, rfl⟩
end Go.Proofs.YthodgddoolbenaaGreatDoor
