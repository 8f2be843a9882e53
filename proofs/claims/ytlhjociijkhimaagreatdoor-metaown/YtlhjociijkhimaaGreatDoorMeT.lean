import Derived.Test.YtlhjociijkhimaaGreatDoorMe5
import Derived.Test.YtlhjociijkhimaaGreatDoorMeN
import Derived.Test.YtlhjociijkhimaaGreatDoorKeys5
namespace Go.Proofs.YtlhjociijkhimaaGreatDoor
open Go.RowKit

theorem encode_ok (v c r t k f n : Int) (w : World) (hm : may ⟨v, c, r, t, k, f, n⟩ = true) (hk0 : Mk w) :
    Calls Tryz.prog 5 #[.agg #[.int .i64 v, .int .i64 c, .int .i64 r, .int .i64 t, .int .i64 k, .int .i64 f, .int .i64 n]] w fun en w' => ∃ g, en = .returned (.tuple #[.slice (some ⟨g, 0, none⟩) 4092 4092, .int .i64 0]) ∧ Rw w' g (mB ⟨v, c, r, t, k, f, n⟩) ∧ w.heap.size ≤ g ∧ w.grownBy w' none := by
  have b := may_bounds hm
  simp only at b
  obtain ⟨v, rfl⟩ : ∃ x : Nat, v = (x : Int) := ⟨v.toNat, by omega⟩
  obtain ⟨c, rfl⟩ : ∃ x : Nat, c = (x : Int) := ⟨c.toNat, by omega⟩
  obtain ⟨r, rfl⟩ : ∃ x : Nat, r = (x : Int) := ⟨r.toNat, by omega⟩
  obtain ⟨t, rfl⟩ : ∃ x : Nat, t = (x : Int) := ⟨t.toNat, by omega⟩
  obtain ⟨k, rfl⟩ : ∃ x : Nat, k = (x : Int) := ⟨k.toNat, by omega⟩
  obtain ⟨f, rfl⟩ : ∃ x : Nat, f = (x : Int) := ⟨f.toNat, by omega⟩
  obtain ⟨n, rfl⟩ : ∃ x : Nat, n = (x : Int) := ⟨n.toNat, by omega⟩
  exact encode_yes v c r t k f n w hm hk0
/-- Encode, of any head. -/
theorem encode_any (v c r t k f n : Int) (w : World) (hk0 : Mk w) :
    Calls Tryz.prog 5 #[.agg #[.int .i64 v, .int .i64 c, .int .i64 r, .int .i64 t, .int .i64 k, .int .i64 f, .int .i64 n]] w fun en w' => ∃ bo m, en = .returned (.tuple #[.slice bo m m, .int .i64 (eM ⟨v, c, r, t, k, f, n⟩)]) ∧ Byt w' bo m m (oM ⟨v, c, r, t, k, f, n⟩) ∧ (0 < m → ∃ g, bo = some ⟨g, 0, none⟩ ∧ w.heap.size ≤ g ∧ Rw w' g (oM ⟨v, c, r, t, k, f, n⟩)) ∧ w.grownBy w' none := by
  cases hm : may ⟨v, c, r, t, k, f, n⟩ with
  | true =>
    refine (encode_ok v c r t k f n w hm hk0).mono ?_
    rintro en w' ⟨g, rfl, h1, h2, h3⟩
    rw [(o_yes hm).1, (o_yes hm).2]
    exact ⟨_, 4092, rfl, h1.all 4092 4092 (mB_len _).symm, fun _ => ⟨g, rfl, h2, h1⟩, h3⟩
  | false =>
    refine (encode_no v c r t k f n w hm).mono ?_
    rintro en w' ⟨rfl, h3⟩
    rw [(o_no hm).1, (o_no hm).2]
    exact ⟨none, 0, rfl, Byt.empty _, fun h => by omega, h3⟩
/-- Decode, of any bytes. -/
theorem decode_any (ao : Option Addr) (n cap : Nat) (zs : List Int) (w : World) (hb : Byt w ao n cap zs) (hbt : Bt zs) (hk : Mk w) :
    Calls Tryz.prog 8 #[.slice ao n cap] w fun en w' => en = .returned (.tuple #[.agg #[.int .i64 (aH zs).v, .int .i64 (aH zs).c, .int .i64 (aH zs).r, .int .i64 (aH zs).h, .int .i64 (aH zs).k, .int .i64 (aH zs).f, .int .i64 (aH zs).n], .int .i64 (aE zs)]) ∧ w.grownBy w' none := by
  by_cases h : n = 4092
  · subst h
    exact decode_full ao cap zs w hb hbt hk
  · refine (decode_short ao n cap w h).mono ?_
    rintro en w' ⟨rfl, h3⟩
    have hd : dM zs = false := by simp [dM, hb.len, h]
    rw [(a_no hd).1, (a_no hd).2]
    exact ⟨rfl, h3⟩
set_option maxHeartbeats 400000 in
theorem num7_any (n : Int) (w : World) : Calls Tryz.prog 7 #[.int .i64 n] w fun en w' => en = .returned (.int .i64 n) ∧ w' = w := by
  go_enter Tryz.func7, Tryz.ntmps7
  go_wp2
  go_ret
  exact ⟨rfl, rfl⟩

def h1st : Hd := ⟨258, 300, 7, 2, 1000, 299, 3⟩
theorem f_may : may ⟨258, 300, 7, 2, 1000, 299, 3⟩ = true := by decide
theorem f_body : (mB ⟨258, 300, 7, 2, 1000, 299, 3⟩).take 37 = [5, 99, 111, 112, 2, 1, 0, 0, 0, 0, 0, 0, 44, 1, 0, 0, 7, 0, 0, 0, 2, 232, 3, 0, 0, 0, 0, 0, 0, 43, 1, 0, 0, 3, 0, 0, 0] := by
  unfold mB
  rw [← List.append_assoc, List.take_left' (by rw [List.length_append, nb_len]; rfl)]
  decide
theorem f_end : (mB ⟨258, 300, 7, 2, 1000, 299, 3⟩).drop 4087 = [0, 101, 110, 100, 46] := by
  have h := mB_end ⟨258, 300, 7, 2, 1000, 299, 3⟩
  have e := part_eq (mB ⟨258, 300, 7, 2, 1000, 299, 3⟩) 4087 1
  rw [h] at e
  rw [e]
  have e2 : ((mB ⟨258, 300, 7, 2, 1000, 299, 3⟩).drop 4087).take 1 = [0] := by
    have hz : ((mB ⟨258, 300, 7, 2, 1000, 299, 3⟩).drop 37).take 4051 = zr := mB_zero _
    have h3 : (zr.drop 4050).take 1 = [0] := by
      unfold zr
      rw [List.drop_replicate, List.take_replicate]
      rfl
    rw [← hz, List.drop_take, List.drop_drop, List.take_take] at h3
    exact h3
  rw [e2]
  rfl
theorem f_back : aH (mB ⟨258, 300, 7, 2, 1000, 299, 3⟩) = ⟨258, 300, 7, 2, 1000, 299, 3⟩ ∧ aE (mB ⟨258, 300, 7, 2, 1000, 299, 3⟩) = 0 := by
  obtain ⟨h1, h2⟩ := a_yes (dM_mB f_may)
  rw [h1, h2, rH_mB f_may]
  exact ⟨rfl, rfl⟩
theorem f_zero : may ⟨0, 0, 0, 0, 0, 0, 0⟩ = false := by decide
theorem f_newer : nw 4 5 true true = 1 := by decide
end Go.Proofs.YtlhjociijkhimaaGreatDoor
