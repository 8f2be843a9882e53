import Derived.Test.YtcjgmiilfjjbcaaGreatDoorDu9
namespace Go.Proofs.YtcjgmiilfjjbcaaGreatDoor
open Go.RowKit

theorem ixb_cut (x : UInt8) : ∀ t : List UInt8, Lib.indexByte t x = match cutC x t with | none => -1 | some p => (p.1.length : Int)
  | [] => by simp [Lib.indexByte, cutC]
  | c :: t => by
    have ih := ixb_cut x t
    unfold Lib.indexByte
    simp only [cutC]
    by_cases e : c = x
    · subst e
      simp
    · have e1 : (c == x) = false := by rw [beq_eq_false_iff_ne]; exact e
      rw [if_neg e, ih]
      cases cutC x t with
      | none => simp [e1]
      | some p =>
        simp only [Option.map_some]
        have : ¬ ((p.1.length : Int) = -1) := by omega
        simp [e1, this]
theorem ext_take (t : List UInt8) (k : Nat) : (tstr t).extract 0 k = tstr (t.take k) := by
  rw [Lib.extract_eq]; unfold tstr; simp
theorem ext_drop (t : List UInt8) (k : Nat) : (tstr t).extract k (tstr t).size = tstr (t.drop k) := by
  rw [Lib.extract_eq, tstr_size]; unfold tstr; simp
  rw [List.take_of_length_le (by simp)]
theorem ext_mid (t : List UInt8) (i k : Nat) : (tstr t).extract i k = tstr ((t.drop i).take (k - i)) := by
  rw [Lib.extract_eq]; unfold tstr; simp

set_option maxHeartbeats 1000000 in
set_option maxRecDepth 100000 in
theorem liteCut_none (x : UInt8) (t : List UInt8) (w : World) (h : cutC x t = none) :
    Calls Tryz.prog 52 #[.string (tstr t), .string ⟨#[x]⟩] w fun en w' => en = .returned (.tuple #[.string (tstr t), .string ⟨#[]⟩, .bool false]) ∧ w' = w := by
  have hi := ixb_cut x t
  rw [h] at hi
  simp only at hi
  have HC := hid_intro (index_one_call (tstr t) x w)
  rw [tstr_data, hi] at HC
  clear hi h
  generalize tstr t = s at *
  go_enter Tryz.func52, Tryz.ntmps52
  go_wp2_with fail
  refine HC.out.mono ?_
  rintro en w' ⟨rfl, rfl⟩
  go_wp2
  go_ret3
  exact ⟨rfl, rfl⟩
set_option maxHeartbeats 1000000 in
set_option maxRecDepth 100000 in
theorem liteCut_some (x : UInt8) (t a b : List UInt8) (w : World) (h : cutC x t = some (a, b)) (ht : t.length ≤ 2000000000) :
    Calls Tryz.prog 52 #[.string (tstr t), .string ⟨#[x]⟩] w fun en w' => en = .returned (.tuple #[.string (tstr a), .string (tstr b), .bool true]) ∧ Qt w w' := by
  have hi := ixb_cut x t
  rw [h] at hi
  simp only at hi
  obtain ⟨hs, _⟩ := cutC_some h
  have HC := hid_intro (index_one_call (tstr t) x w)
  rw [tstr_data, hi] at HC
  have e1 : (tstr t).extract 0 a.length = tstr a := by rw [ext_take, hs]; simp
  have e2 : (tstr t).extract (a.length + 1) (tstr t).size = tstr b := by rw [ext_drop, hs]; simp
  have hz : (tstr t).size = a.length + b.length + 1 := by rw [tstr_size, hs]; simp; omega
  have hl := tstr_size t
  obtain ⟨k, hk⟩ : ∃ k, a.length = k := ⟨_, rfl⟩
  rw [hk] at HC e1 e2 hz
  clear hi h hs hk
  generalize tstr t = s at *
  generalize tstr a = sa at *
  generalize tstr b = sb at *
  have g0 : (0 : Int) ≤ (k : Int) := by omega
  have g1 : (k : Int) ≤ (s.size : Int) := by omega
  have g2 : (k : Int) + 1 ≤ (s.size : Int) := by omega
  have g3 : (0 : Int) ≤ (k : Int) + 1 := by omega
  have g4 : ((k : Int) + 1).toNat = k + 1 := by omega
  have g5 : IntKind.i64.wrap ((k : Int) + 1) = (k : Int) + 1 := wrap_small _ (by omega) (by omega)
  clear hz hl
  go_enter Tryz.func52, Tryz.ntmps52
  go_wp2_with fail
  refine HC.out.mono ?_
  rintro en w ⟨rfl, rfl⟩
  go_wp2
  go_quiet (fail)
  go_wp2
  go_ret3
  exact ⟨rfl, Qt.drewN _ _⟩
/-- What Cut answers. -/
def cua (x : UInt8) (t : List UInt8) : List UInt8 := match cutC x t with | none => t | some p => p.1
def cub (x : UInt8) (t : List UInt8) : List UInt8 := match cutC x t with | none => [] | some p => p.2
theorem liteCut_any (x : UInt8) (t : List UInt8) (w : World) (ht : t.length ≤ 2000000000) :
    Calls Tryz.prog 52 #[.string (tstr t), .string ⟨#[x]⟩] w fun en w' => en = .returned (.tuple #[.string (tstr (cua x t)), .string (tstr (cub x t)), .bool (cutC x t).isSome]) ∧ Qt w w' := by
  unfold cua cub
  cases h : cutC x t with
  | none =>
    refine (liteCut_none x t w h).mono ?_
    rintro en w' ⟨rfl, rfl⟩
    exact ⟨rfl, Qt.refl _⟩
  | some p => exact liteCut_some x t p.1 p.2 w h ht
set_option maxHeartbeats 1000000 in
set_option maxRecDepth 100000 in
theorem cut_any (x : UInt8) (t : List UInt8) (w : World) (ht : t.length ≤ 2000000000) :
    Calls Tryz.prog 30 #[.string (tstr t), .string ⟨#[x]⟩] w fun en w' => en = .returned (.tuple #[.string (tstr (cua x t)), .string (tstr (cub x t)), .bool (cutC x t).isSome]) ∧ Qt w w' := by
  have HC := hid_intro (liteCut_any x t w ht)
  generalize tstr (cua x t) = sa at *
  generalize tstr (cub x t) = sb at *
  generalize (cutC x t).isSome = f at *
  generalize tstr t = s at *
  go_enter Tryz.func30, Tryz.ntmps30
  go_wp2_with fail
  refine HC.out.mono ?_
  rintro en w' ⟨rfl, hq⟩
  have HQ := hid_intro hq
  clear hq
  go_wp2
  go_ret3
  exact ⟨rfl, HQ.out⟩
end Go.Proofs.YtcjgmiilfjjbcaaGreatDoor
