import Derived.Test.YtnfjeiamnbbceaaDkW
import Derived.Test.YtnfjeiamnbbceaaDkIn
namespace Go.Proofs.Ytnfjeiamnbbceaa
open Go.RowKit Go.MuLone

/-- Armed at k: j Writes and Syncs were asked for since, p writes pend. -/
structure Ar (k j : Nat) (s : Ds) (p : Nat) : Prop where
  cap : s.cap = 50
  len : s.Q.length = p
  done : s.done = min j k
  left : s.left = k - j
  off : s.off = decide (k ≤ j)

theorem Ar.refuse {k j p : Nat} {s : Ds} (h : Ar k j s p) (hk : j < k) : s.refuse ((0 : Nat) : Int) 4096 = 0 := by
  unfold Ds.refuse
  rw [h.off, h.cap, decide_eq_false (by omega)]
  have := Int.natCast_nonneg s.pages
  rw [if_neg (by omega), if_neg (by omega), if_neg (by omega), if_neg (by simp)]
theorem Ar.refuse2 {k j p : Nat} {s : Ds} (h : Ar k j s p) (hk : k ≤ j) : s.refuse 0 4096 = 123 := by
  unfold Ds.refuse
  rw [h.off, h.cap, decide_eq_true hk]
  have := Int.natCast_nonneg s.pages
  rw [if_neg (by omega), if_neg (by omega), if_neg (by omega), if_pos rfl]

theorem Ar.crash {k j p : Nat} {s : Ds} (h : Ar k j s p) : (s.crash []).refuse ((0 : Nat) : Int) 4096 = 0 ∧ (s.crash []).done = min j k ∧ (s.crash []).left = 0 ∧ (s.crash []).Q = [] := by
  refine ⟨?_, h.done, rfl, rfl⟩
  unfold Ds.refuse
  rw [show (s.crash []).cap = 50 from h.cap, show (s.crash []).off = false from rfl]
  have := Int.natCast_nonneg (s.crash []).pages
  rw [if_neg (by omega), if_neg (by omega), if_neg (by omega), if_neg (by simp)]

theorem arm_write {w0 w w1 : World} {B : Nat} {O : Nat → Prop} {s : Ds} {k j p : Nat} (h : Dw w0 w B O s) (ha : Ar k j s p) (hk : k ≤ 40) (hg : w.grownBy w1 none) (z : List Int) (hz : Rw w1 w.heap.size z) (hl : z.length = 4096) (bz : Bt z) :
    Calls Try.prog 18 #[.pointer (some ⟨B, 0, none⟩), .int .i64 0, .slice (some ⟨w.heap.size, 0, none⟩) 4096 4096] w1 fun e w' => e = .returned (.int .i64 (if j + 1 < k then 0 else 123)) ∧ ∃ s', Dw w0 w' B O s' ∧ Ar k (j + 1) s' (if j < k then p + 1 else p) := by
  by_cases hj : j < k
  · refine (dw_write h hg 0 z hz hl bz (ha.refuse hj) (by rw [ha.done]; omega) (by rw [ha.left]; omega)).mono ?_
    rintro e w' ⟨rfl, h1, h2⟩
    refine ⟨?_, _, h1, ha.cap, ?_, ?_, ?_, ?_⟩
    · unfold Ds.ans
      rw [ha.left]
      by_cases e : j + 1 < k
      · rw [if_pos e, if_neg (by omega)]
      · rw [if_neg e, if_pos (by omega)]
    · rw [if_pos hj]; simp [Ds.put, ha.len]
    · simp only [Ds.put, Ds.spend, ha.done]; omega
    · simp only [Ds.put, Ds.spend, ha.left]; omega
    · simp only [Ds.put, Ds.spend, ha.left]
      by_cases e : k ≤ j + 1
      · rw [decide_eq_true e]; simp; omega
      · rw [decide_eq_false e]; simp; omega
  · have hj' : k ≤ j := by omega
    refine (dw_write_no (h.keptN hg) 0 _ 4096 4096 (by rw [ha.refuse2 hj']; decide)).mono ?_
    rintro e w' ⟨rfl, h1, h2⟩
    rw [ha.refuse2 hj', if_neg (by omega), if_neg hj]
    exact ⟨rfl, s, h1, ha.cap, ha.len, by rw [ha.done]; omega, by rw [ha.left]; omega, by rw [ha.off, decide_eq_true hj', decide_eq_true (by omega)]⟩

theorem arm_sync {w0 w : World} {B : Nat} {O : Nat → Prop} {s : Ds} {k j p : Nat} (h : Dw w0 w B O s) (ha : Ar k j s p) (hk : k ≤ 40) :
    Calls Try.prog 27 #[.pointer (some ⟨B, 0, none⟩)] w fun e w' => e = .returned (.int .i64 (if j + 1 < k then 0 else 123)) ∧ ∃ s', Dw w0 w' B O s' ∧ Ar k (j + 1) s' (if j + 1 < k then 0 else p) := by
  by_cases hj : j < k
  · have hoff : s.off = false := by rw [ha.off, decide_eq_false (by omega)]
    by_cases h1 : j + 1 < k
    · refine (dw_sync h hoff (by rw [ha.left]; omega) (by rw [ha.done]; omega) (by rw [ha.left]; omega)).mono ?_
      rintro e w' ⟨rfl, h2, h3⟩
      rw [if_pos h1, if_pos h1]
      refine ⟨rfl, _, h2, ha.cap, rfl, ?_, ?_, ?_⟩
      · simp only [Ds.sync, Ds.spend, ha.done]; omega
      · simp only [Ds.sync, Ds.spend, ha.left]; omega
      · simp only [Ds.sync, Ds.spend, ha.left]
        rw [decide_eq_false (by omega)]; simp; omega
    · refine (dw_sync_fail h hoff (by rw [ha.left]; omega) (by rw [ha.done]; omega)).mono ?_
      rintro e w' ⟨rfl, h2, h3⟩
      rw [if_neg h1, if_neg h1]
      refine ⟨rfl, _, h2, ha.cap, ha.len, ?_, ?_, ?_⟩
      · simp only [Ds.spend, ha.done]; omega
      · simp only [Ds.spend, ha.left]; omega
      · simp only [Ds.spend, ha.left]
        rw [decide_eq_true (by omega)]; simp; omega
  · have hj' : k ≤ j := by omega
    refine (dw_sync_off h (by rw [ha.off, decide_eq_true hj'])).mono ?_
    rintro e w' ⟨rfl, h1, h2⟩
    rw [if_neg (by omega), if_neg (by omega)]
    exact ⟨rfl, s, h1, ha.cap, ha.len, by rw [ha.done]; omega, by rw [ha.left]; omega, by rw [ha.off, decide_eq_true hj', decide_eq_true (by omega)]⟩

set_option maxHeartbeats 8000000 in
set_option maxRecDepth 8000 in
theorem diskArms_walk (c : Int) (ao : Option Addr) (n cap : Nat) (w : World) (hb : Bls w ao n) (_hnc : n ≤ cap) (_hcm : cap ≤ 9223372036854775807) : Calls Try.prog 7 #[.int .i64 c, .slice ao n cap] w fun e w' => e = .returned (.bool true) ∧ w.grownBy w' none := by
  by_cases hc : c < 1 ∨ 40 < c
  · have hc' : ¬ (1 ≤ c ∧ c ≤ 40) := by omega
    go_enter Try.func7, Try.ntmps7
    go_wp2_with fail
    refine (first12_any w).mono ?_
    rintro e w1 ⟨rfl, hg1⟩
    have G1 := hid_intro hg1
    clear hg1
    go_wp2_with fail
    refine (dw_new w w1 50 G1.out (by omega) (by omega)).mono ?_
    rintro e w2 ⟨B, rfl, hz2⟩
    have Z2 := hid_intro hz2
    clear hz2
    by_cases hc1 : c < 1
    · go_wp2
      go_ret
      exact ⟨rfl, Z2.out.grown⟩
    · have hc2 : 1 ≤ c := by omega
      have hc3 : 40 < c := by omega
      go_wp2
      go_ret
      exact ⟨rfl, Z2.out.grown⟩
  · have h2 : 1 ≤ c := by omega
    have h3 : c ≤ 40 := by omega
    obtain ⟨k, rfl⟩ : ∃ k : Nat, c = k := ⟨c.toNat, by omega⟩
    clear hc
    have hk1 : 1 ≤ k := by omega
    have hk2 : k ≤ 40 := by omega
    go_enter Try.func7, Try.ntmps7
    go_wp2_with fail
    refine (first12_any w).mono ?_
    rintro e w1 ⟨rfl, hg1⟩
    have G1 := hid_intro hg1
    clear hg1
    go_wp2_with fail
    refine (dw_new w w1 50 G1.out (by omega) (by omega)).mono ?_
    rintro e w2 ⟨B, rfl, hz2⟩
    have Z2 := hid_intro hz2
    clear hz2 G1
    go_wp2_with fail
    refine (dw_arm Z2.out (k : Int)).mono ?_
    rintro e w3 ⟨rfl, hz3, -⟩
    rw [show Ds.arm ⟨50, 0, false, 0, 0, [], []⟩ (k : Int) = 0 by unfold Ds.arm; rw [if_neg (by omega)]; rfl]
    have A3 : Ar k 0 (Ds.armed ⟨50, 0, false, 0, 0, [], []⟩ (k : Int)) 0 := by
      unfold Ds.armed
      rw [if_neg (by omega)]
      exact ⟨rfl, rfl, by simp, by simp, by simp; omega⟩
    have Z3 := hid_intro (hz3.sub (O' := fun _ => False) (fun k h => h.elim))
    clear hz3 Z2
    go_wp2_with (go_at_call 13; refine (num_12 _ _ (by omega)).mono ?_; rintro e w4 ⟨rfl, rfl⟩)
    go_loopw [8, 9] (fun sp si wr => ∃ j p s, j ≤ n ∧ j ≤ 40 ∧ p ≤ j ∧ sp = .int .i64 (p : Nat) ∧ si = .int .i64 ((j + 1 : Nat) : Int) ∧ Dw w wr B (fun _ => False) s ∧ Ar k j s p) (fun _ si _ => 42 - (intOf si).toNat)
    case atStart => exact ⟨0, 0, _, Nat.zero_le _, Nat.zero_le _, Nat.le_refl _, rfl, rfl, Z3.out, A3⟩
    case round =>
      obtain ⟨j, p, s, hjn, hj40, hpj, rfl, rfl, hz, ha⟩ := hrel
      have hg := hz.grown
      by_cases hlt : j < n ∧ j < 40
      · obtain ⟨hl1, hl2⟩ := hlt
        have hl1' : ((j + 1 : Nat) : Int) ≤ (n : Int) := by omega
        have hl2' : ((j + 1 : Nat) : Int) ≤ 40 := by omega
        obtain ⟨b, off, v, rfl, hbl, hcell⟩ := (hb.kept hg (by simp)).row j hl1
        have Z := hid_intro hz
        clear hz hg
        cases v with
        | true =>
          go_wp2_with fail
          refine (full_any _ _).mono ?_
          rintro e w4 ⟨rfl, hr4, hg4⟩
          have R4 := hid_intro hr4
          have G4 := hid_intro hg4
          clear hr4 hg4
          go_wp2_with fail
          refine (arm_write Z.out ha hk2 G4.out _ R4.out (fp_len _) (fp_bt (by omega))).mono ?_
          rintro e w5 ⟨rfl, s5, hz5, ha5⟩
          have Z5 := hid_intro hz5
          clear hz5 Z G4 R4
          rcases Nat.lt_trichotomy (j + 1) k with hx | hx | hx
          · have f1 : ((j : Int) + 1) < (k : Int) := by omega
            have f2 : ((j : Int) + 1) ≤ (k : Int) := by omega
            rw [if_pos hx]
            rw [if_pos (show j < k by omega)] at ha5
            have hoff : s5.off = false := by rw [ha5.off]; simp; omega
            have hdone : s5.done = j + 1 := by rw [ha5.done]; omega
            have hlen := ha5.len
            go_wp2_with (go_at_call 13; refine (num_12 _ _ (by omega)).mono ?_; rintro e w6 ⟨rfl, rfl⟩)
            refine (dw_pending Z5.out (by rw [hdone]; omega)).mono ?_
            rintro e w6 ⟨g6, ql6, rfl, -, -, hz6, -⟩
            rw [hlen]
            have Z6 := hid_intro hz6
            clear hz6 Z5
            go_wp2_with fail
            refine (dw_power Z6.out).mono ?_
            rintro e w7 ⟨rfl, hz7, -⟩
            rw [hoff]
            have Z7 := hid_intro hz7
            clear hz7 Z6
            go_wp2_with fail
            refine (dw_done Z7.out).mono ?_
            rintro e w8 ⟨rfl, hz8, -⟩
            rw [hdone]
            have Z8 := hid_intro hz8
            clear hz8 Z7
            go_wp2
            go_roundw
            case rel => exact ⟨j + 1, p + 1, s5, by omega, by omega, by omega, by go_num, by go_num, Z8.out, ha5⟩
            case measure => simp [intOf]; omega
          · have f1 : ((j : Int) + 1) = (k : Int) := by omega
            have f2 : ¬ ((j : Int) + 1) < (k : Int) := by omega
            have f3 : ((j : Int) + 1) ≤ (k : Int) := by omega
            have f4 : (k : Int) ≤ ((j : Int) + 1) := by omega
            rw [if_neg (show ¬ j + 1 < k by omega)]
            rw [if_pos (show j < k by omega)] at ha5
            have hoff : s5.off = true := by rw [ha5.off]; simp; omega
            have hdone : s5.done = j + 1 := by rw [ha5.done]; omega
            have hlen := ha5.len
            go_wp2_with (go_at_call 13; refine (num_12 _ _ (by omega)).mono ?_; rintro e w6 ⟨rfl, rfl⟩)
            refine (dw_pending Z5.out (by rw [hdone]; omega)).mono ?_
            rintro e w6 ⟨g6, ql6, rfl, -, -, hz6, -⟩
            rw [hlen]
            have Z6 := hid_intro hz6
            clear hz6 Z5
            go_wp2_with fail
            refine (dw_power Z6.out).mono ?_
            rintro e w7 ⟨rfl, hz7, -⟩
            rw [hoff]
            have Z7 := hid_intro hz7
            clear hz7 Z6
            go_wp2_with fail
            refine (dw_done Z7.out).mono ?_
            rintro e w8 ⟨rfl, hz8, -⟩
            rw [hdone]
            have Z8 := hid_intro hz8
            clear hz8 Z7
            go_wp2
            go_roundw
            case rel => exact ⟨j + 1, p + 1, s5, by omega, by omega, by omega, by go_num, by go_num, Z8.out, ha5⟩
            case measure => simp [intOf]; omega
          · have f1 : (k : Int) < ((j : Int) + 1) := by omega
            have f2 : (k : Int) ≤ ((j : Int) + 1) := by omega
            rw [if_neg (show ¬ j + 1 < k by omega)]
            rw [if_neg (show ¬ j < k by omega)] at ha5
            have hoff : s5.off = true := by rw [ha5.off]; simp; omega
            have hdone : s5.done = k := by rw [ha5.done]; omega
            have hlen := ha5.len
            go_wp2_with (go_at_call 13; refine (num_12 _ _ (by omega)).mono ?_; rintro e w6 ⟨rfl, rfl⟩)
            refine (dw_pending Z5.out (by rw [hdone]; omega)).mono ?_
            rintro e w6 ⟨g6, ql6, rfl, -, -, hz6, -⟩
            rw [hlen]
            have Z6 := hid_intro hz6
            clear hz6 Z5
            go_wp2_with fail
            refine (dw_power Z6.out).mono ?_
            rintro e w7 ⟨rfl, hz7, -⟩
            rw [hoff]
            have Z7 := hid_intro hz7
            clear hz7 Z6
            go_wp2_with fail
            refine (dw_done Z7.out).mono ?_
            rintro e w8 ⟨rfl, hz8, -⟩
            rw [hdone]
            have Z8 := hid_intro hz8
            clear hz8 Z7
            go_wp2
            go_roundw
            case rel => exact ⟨j + 1, p, s5, by omega, by omega, by omega, by go_num, by go_num, Z8.out, ha5⟩
            case measure => simp [intOf]; omega
        | false =>
          go_wp2_with fail
          refine (arm_sync Z.out ha hk2).mono ?_
          rintro e w5 ⟨rfl, s5, hz5, ha5⟩
          have Z5 := hid_intro hz5
          clear hz5 Z
          rcases Nat.lt_trichotomy (j + 1) k with hx | hx | hx
          · have f1 : ((j : Int) + 1) < (k : Int) := by omega
            have f2 : ((j : Int) + 1) ≤ (k : Int) := by omega
            rw [if_pos hx]
            rw [if_pos hx] at ha5
            have hoff : s5.off = false := by rw [ha5.off]; simp; omega
            have hdone : s5.done = j + 1 := by rw [ha5.done]; omega
            have hlen := ha5.len
            go_wp2_with (go_at_call 13; refine (num_12 _ _ (by omega)).mono ?_; rintro e w6 ⟨rfl, rfl⟩)
            refine (dw_pending Z5.out (by rw [hdone]; omega)).mono ?_
            rintro e w6 ⟨g6, ql6, rfl, -, -, hz6, -⟩
            rw [hlen]
            have Z6 := hid_intro hz6
            clear hz6 Z5
            go_wp2_with fail
            refine (dw_power Z6.out).mono ?_
            rintro e w7 ⟨rfl, hz7, -⟩
            rw [hoff]
            have Z7 := hid_intro hz7
            clear hz7 Z6
            go_wp2_with fail
            refine (dw_done Z7.out).mono ?_
            rintro e w8 ⟨rfl, hz8, -⟩
            rw [hdone]
            have Z8 := hid_intro hz8
            clear hz8 Z7
            go_wp2
            go_roundw
            case rel => exact ⟨j + 1, 0, s5, by omega, by omega, by omega, by go_num, by go_num, Z8.out, ha5⟩
            case measure => simp [intOf]; omega
          · have f1 : ((j : Int) + 1) = (k : Int) := by omega
            have f2 : ¬ ((j : Int) + 1) < (k : Int) := by omega
            have f3 : ((j : Int) + 1) ≤ (k : Int) := by omega
            have f4 : (k : Int) ≤ ((j : Int) + 1) := by omega
            rw [if_neg (show ¬ j + 1 < k by omega)]
            rw [if_neg (show ¬ j + 1 < k by omega)] at ha5
            have hoff : s5.off = true := by rw [ha5.off]; simp; omega
            have hdone : s5.done = j + 1 := by rw [ha5.done]; omega
            have hlen := ha5.len
            go_wp2_with (go_at_call 13; refine (num_12 _ _ (by omega)).mono ?_; rintro e w6 ⟨rfl, rfl⟩)
            refine (dw_pending Z5.out (by rw [hdone]; omega)).mono ?_
            rintro e w6 ⟨g6, ql6, rfl, -, -, hz6, -⟩
            rw [hlen]
            have Z6 := hid_intro hz6
            clear hz6 Z5
            go_wp2_with fail
            refine (dw_power Z6.out).mono ?_
            rintro e w7 ⟨rfl, hz7, -⟩
            rw [hoff]
            have Z7 := hid_intro hz7
            clear hz7 Z6
            go_wp2_with fail
            refine (dw_done Z7.out).mono ?_
            rintro e w8 ⟨rfl, hz8, -⟩
            rw [hdone]
            have Z8 := hid_intro hz8
            clear hz8 Z7
            go_wp2
            go_roundw
            case rel => exact ⟨j + 1, p, s5, by omega, by omega, by omega, by go_num, by go_num, Z8.out, ha5⟩
            case measure => simp [intOf]; omega
          · have f1 : (k : Int) < ((j : Int) + 1) := by omega
            have f2 : (k : Int) ≤ ((j : Int) + 1) := by omega
            rw [if_neg (show ¬ j + 1 < k by omega)]
            rw [if_neg (show ¬ j + 1 < k by omega)] at ha5
            have hoff : s5.off = true := by rw [ha5.off]; simp; omega
            have hdone : s5.done = k := by rw [ha5.done]; omega
            have hlen := ha5.len
            go_wp2_with (go_at_call 13; refine (num_12 _ _ (by omega)).mono ?_; rintro e w6 ⟨rfl, rfl⟩)
            refine (dw_pending Z5.out (by rw [hdone]; omega)).mono ?_
            rintro e w6 ⟨g6, ql6, rfl, -, -, hz6, -⟩
            rw [hlen]
            have Z6 := hid_intro hz6
            clear hz6 Z5
            go_wp2_with fail
            refine (dw_power Z6.out).mono ?_
            rintro e w7 ⟨rfl, hz7, -⟩
            rw [hoff]
            have Z7 := hid_intro hz7
            clear hz7 Z6
            go_wp2_with fail
            refine (dw_done Z7.out).mono ?_
            rintro e w8 ⟨rfl, hz8, -⟩
            rw [hdone]
            have Z8 := hid_intro hz8
            clear hz8 Z7
            go_wp2
            go_roundw
            case rel => exact ⟨j + 1, p, s5, by omega, by omega, by omega, by go_num, by go_num, Z8.out, ha5⟩
            case measure => simp [intOf]; omega
      · have hend : ¬ (((j + 1 : Nat) : Int) ≤ (n : Int) ∧ ((j + 1 : Nat) : Int) ≤ 40) := by omega
        have Z := hid_intro hz
        clear hz hg
        by_cases hn1 : j < n
        · have hn2 : ¬ (((j + 1 : Nat) : Int) ≤ 40) := by omega
          have hn3 : ((j + 1 : Nat) : Int) ≤ (n : Int) := by omega
          go_wp2_with fail
          refine (dw_crash Z.out none 0 0 [] ⟨fun i f h => by simp at h⟩ rfl (Nat.le_refl _) (by omega) (fun b off e => by cases e) (by rw [ha.done]; omega)).mono ?_
          rintro e w5 ⟨rfl, hz5, -⟩
          have hc5 := ha.crash
          revert hc5 hz5
          generalize s.crash [] = s5
          intro hz5 hc5
          have Z5 := hid_intro hz5
          clear hz5 Z
          go_wp2_with fail
          refine (full_any _ _).mono ?_
          rintro e w6 ⟨rfl, hr6, hg6⟩
          have R6 := hid_intro hr6
          have G6 := hid_intro hg6
          clear hr6 hg6
          go_wp2_with fail
          refine (dw_write Z5.out G6.out 0 _ R6.out (fp_len _) (fp_bt (by omega)) hc5.1 (by rw [hc5.2.1]; omega) (by rw [hc5.2.2.1]; omega)).mono ?_
          rintro e w7 ⟨rfl, hz7, -⟩
          rw [show s5.ans = 0 by unfold Ds.ans; rw [hc5.2.2.1]; rfl]
          have hp1 : (s5.put 0 (fp 1)).off = false := by simp [Ds.put, Ds.spend, hc5.2.2.1]
          have hp2 : (s5.put 0 (fp 1)).Q.length = 1 := by simp [Ds.put, hc5.2.2.2]
          have hp3 : (s5.put 0 (fp 1)).done < 1099511627776 := by simp only [Ds.put, Ds.spend, hc5.2.1]; omega
          revert hp1 hp2 hp3 hz7
          generalize s5.put 0 (fp 1) = s7
          intro hz7 hp1 hp2 hp3
          have Z7 := hid_intro hz7
          clear hz7 Z5 R6 G6
          go_wp2_with (go_at_call 13; refine (num_12 _ _ (by omega)).mono ?_; rintro e w8 ⟨rfl, rfl⟩)
          refine (dw_power Z7.out).mono ?_
          rintro e w9 ⟨rfl, hz9, -⟩
          rw [hp1]
          have Z9 := hid_intro hz9
          clear hz9 Z7
          go_wp2_with fail
          refine (dw_pending Z9.out hp3).mono ?_
          rintro e w10 ⟨g10, ql10, rfl, -, -, hz10, -⟩
          rw [hp2]
          have Z10 := hid_intro hz10
          clear hz10 Z9
          go_wp2
          go_ret
          exact ⟨rfl, Z10.out.grown⟩
        · have hn3 : ¬ ((j + 1 : Nat) : Int) ≤ (n : Int) := by omega
          go_wp2_with fail
          refine (dw_crash Z.out none 0 0 [] ⟨fun i f h => by simp at h⟩ rfl (Nat.le_refl _) (by omega) (fun b off e => by cases e) (by rw [ha.done]; omega)).mono ?_
          rintro e w5 ⟨rfl, hz5, -⟩
          have hc5 := ha.crash
          revert hc5 hz5
          generalize s.crash [] = s5
          intro hz5 hc5
          have Z5 := hid_intro hz5
          clear hz5 Z
          go_wp2_with fail
          refine (full_any _ _).mono ?_
          rintro e w6 ⟨rfl, hr6, hg6⟩
          have R6 := hid_intro hr6
          have G6 := hid_intro hg6
          clear hr6 hg6
          go_wp2_with fail
          refine (dw_write Z5.out G6.out 0 _ R6.out (fp_len _) (fp_bt (by omega)) hc5.1 (by rw [hc5.2.1]; omega) (by rw [hc5.2.2.1]; omega)).mono ?_
          rintro e w7 ⟨rfl, hz7, -⟩
          rw [show s5.ans = 0 by unfold Ds.ans; rw [hc5.2.2.1]; rfl]
          have hp1 : (s5.put 0 (fp 1)).off = false := by simp [Ds.put, Ds.spend, hc5.2.2.1]
          have hp2 : (s5.put 0 (fp 1)).Q.length = 1 := by simp [Ds.put, hc5.2.2.2]
          have hp3 : (s5.put 0 (fp 1)).done < 1099511627776 := by simp only [Ds.put, Ds.spend, hc5.2.1]; omega
          revert hp1 hp2 hp3 hz7
          generalize s5.put 0 (fp 1) = s7
          intro hz7 hp1 hp2 hp3
          have Z7 := hid_intro hz7
          clear hz7 Z5 R6 G6
          go_wp2_with (go_at_call 13; refine (num_12 _ _ (by omega)).mono ?_; rintro e w8 ⟨rfl, rfl⟩)
          refine (dw_power Z7.out).mono ?_
          rintro e w9 ⟨rfl, hz9, -⟩
          rw [hp1]
          have Z9 := hid_intro hz9
          clear hz9 Z7
          go_wp2_with fail
          refine (dw_pending Z9.out hp3).mono ?_
          rintro e w10 ⟨g10, ql10, rfl, -, -, hz10, -⟩
          rw [hp2]
          have Z10 := hid_intro hz10
          clear hz10 Z9
          go_wp2
          go_ret
          exact ⟨rfl, Z10.out.grown⟩
end Go.Proofs.Ytnfjeiamnbbceaa
