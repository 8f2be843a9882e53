import Derived.Test.YtnghkgnpbcadaabDoorCrc8
import Derived.Test.YtnghkgnpbcadaabDoorCrcB
namespace Go.Proofs.YtnghkgnpbcadaabDoor
open Go.RowKit

theorem Bts.getD {zs : List Int} (h : Bts zs) (i : Nat) : 0 ≤ zs.getD i 0 ∧ zs.getD i 0 ≤ 255 := Bt.getD h i
theorem Rw.set {w : World} {g : Nat} {zs : List Int} (h : Rw w g zs) (j : Nat) (z : Int) : Rw (w.setCell ⟨g, j, none⟩ (.int .u8 z)) g (zs.set j z) := by
  unfold Rw
  rw [heap_setCell_same w g j _ _ _ h]
  simp [List.map_set]
theorem grown_setC (w : World) (g j : Nat) (v : Value) : w.grownBy (w.setCell ⟨g, j, none⟩ v) (some g) :=
  ⟨rfl, rfl, rfl, by simp, fun k _ hk => heap_setCell_other w ⟨g, j, none⟩ k _ (fun e => hk (by simp [e]))⟩
theorem Rw.free {w : World} {g : Nat} {zs : List Int} (h : Rw w g zs) (i : Nat) : w.frozen? ⟨g, i, none⟩ = false := frozen_of_row w g i _ _ h

set_option maxHeartbeats 2000000 in
theorem turned_any (ao : Option Addr) (n cap a p : Nat) (zs : List Int) (w : World) (hb : Byt w ao n cap zs) (bt : Bt zs) (hn : n ≤ 70000) (ha : a < 8 * n) (_hp : p < 4294967296) :
    Calls Tryd.prog 14 #[.slice ao n cap, .int .i64 a, .int .u32 p] w fun e w' =>
      e = .returned (.tuple #[.slice (some ⟨w.heap.size, 0, none⟩) n n, .bool (decide (part p (8 * n - a) 32 ≠ 0))]) ∧
      (∃ ys, Rw w' w.heap.size ys ∧ Turned zs ys (8 * n - a) (part p (8 * n - a) 32)) ∧ w.grownBy w' none := by
  have HL := hid_intro hb.len
  go_enter Tryd.func14, Tryd.ntmps14
  go_wp2_with fail
  refine (refBytes_any ao n cap zs w hb (by omega)).mono ?_
  rintro e w1 ⟨rfl, hown1, hg1, hs1⟩
  have R1 := hid_intro (Rw.of_owns hown1)
  have G1 := hid_intro hg1
  have T1 := hid_intro (Turned.start (bts bt) (8 * n - a))
  clear hb hown1 hg1
  go_wp2
  go_loopw [9, 10] (fun ss sk wr => ∃ (k : Nat) (ys : List Int), k ≤ 32 ∧ sk = .int .i64 k ∧ ss = .bool (decide (part p (8 * n - a) k ≠ 0)) ∧ Rw wr w.heap.size ys ∧ Turned zs ys (8 * n - a) (part p (8 * n - a) k) ∧ w.grownBy wr none) (fun _ sk _ => 32 - (intOf sk).toNat)
  case atStart => exact ⟨0, zs, by omega, rfl, by rw [part_zero]; rfl, R1.out, by rw [part_zero]; exact T1.out, G1.out⟩
  case round =>
    obtain ⟨k, ys, hk, rfl, rfl, hr, hT, hg⟩ := hrel
    have R := hid_intro hr
    have T := hid_intro hT
    have G := hid_intro hg
    clear hr hT hg R1 G1 T1
    by_cases hk32 : k < 32
    · have hdiv : ((p : Int) / 2 ^ k).tmod 2 = ((p / 2 ^ k % 2 : Nat) : Int) := by
        have e0 : ((p : Int) / 2 ^ k) = ((p / 2 ^ k : Nat) : Int) := by simp
        rw [e0, Int.tmod_eq_emod_of_nonneg (Int.natCast_nonneg _)]
        simp
      by_cases hc : p / 2 ^ k % 2 = 1 ∧ k < 8 * n - a
      · have h1 : ((p : Int) / 2 ^ k).tmod 2 = 1 := by rw [hdiv, hc.1]; rfl
        have h2 : (a : Int) + (k : Int) < 8 * (n : Int) := by omega
        have hyl : ys.length = n := T.out.len.trans HL.out
        have hcell := R.out.cell ((a + k) / 8) (by omega)
        have hfree := R.out.free ((a + k) / 8)
        have hzb := T.out.bts.getD ((a + k) / 8)
        obtain ⟨z, hz⟩ : ∃ z : Nat, ys.getD ((a + k) / 8) 0 = (z : Int) := ⟨(ys.getD ((a + k) / 8) 0).toNat, by omega⟩
        have hz2 : z < 256 := by omega
        have hset := flip_set ys (a + k) (by omega)
        rw [hz, Int.toNat_natCast] at hset
        rw [hz] at hcell
        have HSET := hid_intro hset
        have TF := hid_intro (T.out.flip (i := a + k) (k := k) (by rw [HL.out]; omega) (by rw [HL.out]; omega) (by omega))
        have HP := hid_intro (part_yes hc.1 hc.2)
        have HN := hid_intro (part_ne hc.1 hc.2)
        have hpw : 2 ^ ((a + k) % 8) ≤ 128 := by
          have : 2 ^ ((a + k) % 8) ≤ 2 ^ 7 := Nat.pow_le_pow_right (by decide) (by omega)
          simpa using this
        clear hset hz hzb hdiv
        have hx8 : bits .xor .u8 (z : Int) (2 ^ ((a + k) % 8) % 256) = ((z ^^^ 2 ^ ((a + k) % 8) : Nat) : Int) := by
          have h9 := u8_xor_nat z (2 ^ ((a + k) % 8)) hz2 (by omega)
          rw [← h9]
          congr 1
          have h10 : (2 : Int) ^ ((a + k) % 8) = ((2 ^ ((a + k) % 8) : Nat) : Int) := by simp
          rw [h10]
          generalize 2 ^ ((a + k) % 8) = e at hpw ⊢
          omega
        have HX8 := hid_intro hx8
        clear hx8
        go_wp2
        go_roundw
        case rel =>
          refine ⟨k + 1, flip ys (a + k), by omega, by go_num, by rw [decide_eq_true HN.out], ?_, by rw [HP.out]; exact TF.out, ?_⟩
          · rw [HX8.out, HSET.out]; exact R.out.set _ _
          · exact grown_new G.out (grown_setC wr w.heap.size _ _) (Nat.le_refl _)
        case measure => simp [intOf]; omega
      · have HN := hid_intro (part_no hc)
        by_cases hb1 : p / 2 ^ k % 2 = 1
        · have h1 : ((p : Int) / 2 ^ k).tmod 2 = 1 := by rw [hdiv, hb1]; rfl
          have h2 : ¬ (a : Int) + (k : Int) < 8 * (n : Int) := by omega
          clear hdiv hc
          go_wp2
          go_roundw
          case rel => exact ⟨k + 1, ys, by omega, by go_num, by first | (rw [HN.out]; done) | (rw [HN.out]; simp), R.out, by rw [HN.out]; exact T.out, G.out⟩
          case measure => simp [intOf]; omega
        · have h1 : ¬ ((p : Int) / 2 ^ k).tmod 2 = 1 := by rw [hdiv]; omega
          clear hdiv hc
          go_wp2
          go_roundw
          case rel => exact ⟨k + 1, ys, by omega, by go_num, by first | (rw [HN.out]; done) | (rw [HN.out]; simp), R.out, by rw [HN.out]; exact T.out, G.out⟩
          case measure => simp [intOf]; omega
    · have hk2 : k = 32 := by omega
      subst hk2
      go_wp2
      go_ret2
      exact ⟨rfl, ⟨ys, R.out, T.out⟩, G.out⟩

/-- Open of a page of which it is known whether it opens. -/
theorem open_told (ao : Option Addr) (cap : Nat) (zs : List Int) (w : World) (q : Nat) (hb : Byt w ao 4096 cap zs) (bt : Bt zs) (ht : Tab w) (hcap : 4096 ≤ cap) (h : zs.drop 4092 = low4 (upd 0 (zs.take 4092)) ↔ q = 0) :
    Calls Tryd.prog 12 #[.slice ao 4096 cap] w fun e w' => ∃ (f : Int) (v : Value), e = .returned (.tuple #[v, .int .i64 f]) ∧ (f == 22) = decide (q ≠ 0) ∧ w.grownBy w' none := by
  by_cases hx : zs.drop 4092 = low4 (upd 0 (zs.take 4092))
  · refine (open_yes ao cap zs w hb bt ht hcap hx).mono ?_
    rintro e w' ⟨g, rfl, _, _, hg⟩
    exact ⟨0, _, rfl, by rw [h.1 hx]; rfl, hg⟩
  · refine (open_no ao cap zs w hb bt ht hcap hx).mono ?_
    rintro e w' ⟨rfl, hg⟩
    exact ⟨22, _, rfl, by rw [decide_eq_true (show q ≠ 0 from fun e => hx (h.2 e))]; rfl, hg⟩

/-- Where '(at%n + n) % n' lies. -/
theorem place (x : Int) (n : Nat) (h0 : 0 < n) (hn : n ≤ 600000) : ∃ k : Nat, k < n ∧ Int.tmod (Int.tmod x n + n) n = (k : Int) ∧ 0 ≤ Int.tmod x n + n ∧ Int.tmod x n + n ≤ 1200000 := by
  have h1 := Int.tmod_lt_of_pos x (show (0 : Int) < n by omega)
  have h2 := Int.lt_tmod_of_pos x (show (0 : Int) < n by omega)
  rw [Int.tmod_eq_emod_of_nonneg (by omega)]
  have h4 := Int.emod_nonneg (Int.tmod x n + n) (show (n : Int) ≠ 0 by omega)
  have h5 := Int.emod_lt_of_pos (Int.tmod x n + n) (show (0 : Int) < n by omega)
  exact ⟨((Int.tmod x n + n) % n).toNat, by omega, by omega, by omega, by omega⟩
end Go.Proofs.YtnghkgnpbcadaabDoor
