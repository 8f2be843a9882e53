import Derived.Test.YtkiopabcnemgnaaGreatDoorK7
set_option maxRecDepth 100000
set_option maxHeartbeats 2000000
namespace Go.Proofs.YtkiopabcnemgnaaGreatDoor
open Go.RowKit
theorem dv_drop (ys : List Int) (j : Nat) : dv (ys.drop j) ≤ dv ys := by
 induction j with
 | zero => simp
 | succ j ih =>
  by_cases h : j < ys.length
  ·have := dv_at ys j h; omega
  ·rw [List.drop_eq_nil_of_le (by omega)]; simp [dv]
theorem refV_ok (R G : Nat) (zs : List Int) (p x n : Nat) (w : World) (h : Rr w R G zs p 0) (hbt : Bt zs) (hv : rv (zs.drop p) = (x, n, 0)) :
  Calls Tryz.prog 63 #[.pointer (some ⟨R, 0, none⟩)] w fun en w' => en = .returned (.int .u64 x) ∧ Rr w' R G zs (p + n) 0 ∧ w.grownBy w' (some R) := by
 have HR : Hid (Rr w R G zs p 0) := h;obtain ⟨c0, c1, c2, f1, f2⟩ := h.cells;have h1 := h.le;have h2 := h.max;have hp : (p : Int) ≤ (zs.length : Int) := by omega
 have HBY : Hid (∀ i, p ≤ i → i < zs.length → w.cell? ⟨G, i, none⟩ = some (.int .u8 (zs.getD i 0))) := h.bytes;have HB : Hid (Bt zs) := hbt;obtain ⟨hx64, hnv, htk, hn1, hnl⟩ := rv_back (zs.drop p) x n (hbt.drop p) hv;have hdv : dv ((zs.drop p).take n) = x := by rw [htk]; exact dv_lf 10 x (by omega)
 have HD := hJ hdv;obtain ⟨k0, hk10, hkl, hhi, hcase⟩ := rv_shape (zs.drop p);rw [List.length_drop] at hkl hcase hnl
 have hfin : k0 < 10 ∧ n = k0 + 1 ∧ (zs.drop p).getD k0 0 < 128 ∧ ¬ (k0 = 9 ∧ 1 < (zs.drop p).getD k0 0) ∧ ¬ (0 < k0 ∧ (zs.drop p).getD k0 0 = 0) := by
  rcases hcase with ⟨_, hr⟩ | ⟨_, _, hr⟩ | ⟨hk, _, hz, a, hr⟩
  ·rw [hr] at hv; simp at hv
  ·rw [hr] at hv; simp at hv
  ·rw [hr, endL] at hv
   by_cases h9 : k0 = 9 ∧ 1 < (zs.drop p).getD k0 0
   ·rw [if_pos h9] at hv; simp at hv
   ·rw [if_neg h9] at hv
    by_cases h0 : 0 < k0 ∧ (zs.drop p).getD k0 0 = 0
    ·rw [if_pos h0] at hv; simp at hv
    ·rw [if_neg h0] at hv
     simp only [Prod.mk.injEq, and_true] at hv;exact ⟨hk, hv.2.symm, hz, h9, h0⟩
 obtain ⟨hk9, rfl, hz, hn9, hn0⟩ := hfin;have hzd : (zs.drop p).getD k0 0 = zs.getD (p + k0) 0 := by simp [List.getD]
 rw [hzd] at hz hn9 hn0;have HHI : Hid (∀ i, i < k0 → 128 ≤ (zs.drop p).getD i 0) := hhi;have HZ := hJ hz;have HN9 := hJ hn9;have HN0 := hJ hn0;clear h hbt hhi hcase hv hdv hnv htk hzd hz hn9 hn0 hn1 hk10 hkl;go_enter Tryz.func63, Tryz.ntmps63;go_wp2
 go_quiet (fail)
 go_wp2;go_loopw [4] (fun sn wr => ∃ k : Nat, k ≤ k0 ∧ sn = .int .i64 k ∧ ∃ m, wr = w.drewN m) (fun sn _ => k0 - (intOf sn).toNat)
 case atStart => exact ⟨0, Nat.zero_le _, rfl, _, rfl⟩
 case round =>
  obtain ⟨k, hk, rfl, m, rfl⟩ := hrel;obtain ⟨z, hz⟩ : ∃ z, z = zs.getD (p + k) 0 := ⟨_, rfl⟩;have hcell : w.cell? ⟨G, p + k, none⟩ = some (.int .u8 z) := by rw [hz]; exact HBY.out (p + k) (by omega) (by omega)
  obtain ⟨hz0, hz255⟩ : 0 ≤ z ∧ z ≤ 255 := by rw [hz]; exact HB.out.getD _
  have hd1 : decide ((k : Int) < (zs.length : Int) - (p : Int)) = true := by simp; omega
  have hd2 : decide ((k : Int) < 10) = true := by simp; omega
  by_cases hlt : k < k0
  ·have hz1 : 128 ≤ z := by have := HHI.out k hlt; rw [hz]; simpa [List.getD] using this
   clear hz;go_wp2
   go_quiet (fail)
   go_wp2;go_roundw
   case rel => exact ⟨k + 1, by omega, by go_num, _, rfl⟩
   case measure => simp [intOf]; omega
  ·have hkn : k = k0 := by omega
   subst hkn;have hz1 : z < 128 := by rw [hz]; exact HZ.out
   have hz9 : ¬ (k = 9 ∧ 1 < z) := by rw [hz]; exact HN9.out
   have hzz : ¬ (0 < k ∧ z = 0) := by rw [hz]; exact HN0.out
   have hb1 : ((k : Int) == 10) = false := by simp; omega
   have hb2 : ((k : Int) == (zs.length : Int) - (p : Int)) = false := by simp; omega
   clear hz;go_wp2
   go_quiet (fail)
   have hcs : (k = 9 ∧ z ≤ 1 ∧ 0 < z) ∨ (k ≠ 9 ∧ 0 < k ∧ 0 < z) ∨ (k = 0) := by omega
   rcases hcs with ⟨q1, q2, q3⟩ | ⟨q1, q2, q3⟩ | q1
   ·have hb3 : ((k : Int) == 9) = true := by simp; omega
    have hb5 : (z == 0) = false := by simp; omega
    have hb4 : (0 : Int) < k := by omega
    clear q1;clear hz9 hzz;go_wp2
    go_quiet (fail)
    go_wp2;go_loopw [6, 7] (fun sx si wr => ∃ j X : Nat, j ≤ k + 1 ∧ si = .int .i64 ((j : Int) - 1) ∧ sx = .int .u64 (X : Nat) ∧ X = dv (((zs.drop p).take (k + 1)).drop j) ∧ ∃ m, wr = w.drewN m) (fun _ si _ => (intOf si + 1).toNat)
    case atStart => exact ⟨k + 1, 0, Nat.le_refl _, by go_num, rfl, by rw [List.drop_eq_nil_of_le (by simp; omega)]; rfl, _, rfl⟩
    case round =>
     obtain ⟨j, X0, hj, rfl, rfl, hX, m', rfl⟩ := hrel;have HX := hJ hX;clear hX;rcases j with _ | j
     ·go_wp2
      go_ret;obtain ⟨r1, r2⟩ := (HR.out.qt (Qt.drewN w m')).setPlace (p + (k + 1)) ((p : Int) + (k : Int) + 1) (by omega) (by omega) (by omega);have e : X0 = x := by rw [HX.out, ← HD.out]; rfl
      rw [← e];exact ⟨rfl, r1, gQ ((Qt.drewN _ _).grown _) r2⟩
     ·obtain ⟨y, hy⟩ : ∃ y, y = zs.getD (p + j) 0 := ⟨_, rfl⟩
      have hycell : w.cell? ⟨G, p + j, none⟩ = some (.int .u8 y) := by rw [hy]; exact HBY.out (p + j) (by omega) (by omega)
      obtain ⟨hy0, hy1⟩ : 0 ≤ y ∧ y ≤ 255 := by rw [hy]; exact HB.out.getD _
      have hstep : dv (((zs.drop p).take (k + 1)).drop j) = (y % 128).toNat + 128 * X0 := by
       rw [HX.out, dv_at _ j (by simp; omega), hy]
       congr 3
       simp [List.getD, show j < k + 1 by omega]
      have hX57 : X0 < 144115188075855872 := by
       have h3 := dv_drop ((zs.drop p).take (k + 1)) j;rw [HD.out] at h3;omega
      have HS := hJ hstep;clear hstep hy
      have hor : bits BinOp.or IntKind.u64 ((X0 : Int) * 128) (y % 128) = ((X0 * 128 + (y % 128).toNat : Nat) : Int) := by
       have := or_low X0 (y % 128).toNat 7 (by omega) (by omega) (by omega);rw [Int.toNat_of_nonneg (by omega)] at this;exact this
      have HOR := hJ hor;clear hor;rw [show ((j + 1 : Nat) : Int) - 1 = (j : Int) by omega];go_wp2
      go_quiet (fail)
      go_wp2;go_roundw
      case rel =>
       refine ⟨j, X0 * 128 + (y % 128).toNat, by omega, by go_num, by rw [← HOR.out], ?_, _, rfl⟩;rw [HS.out]; omega
      case measure => simp [intOf]
   ·have hb3 : ((k : Int) == 9) = false := by simp; omega
    have hb5 : (z == 0) = false := by simp; omega
    have hb4 : (0 : Int) < k := by omega
    clear q1;clear hz9 hzz;go_wp2
    go_quiet (fail)
    go_wp2;go_loopw [6, 7] (fun sx si wr => ∃ j X : Nat, j ≤ k + 1 ∧ si = .int .i64 ((j : Int) - 1) ∧ sx = .int .u64 (X : Nat) ∧ X = dv (((zs.drop p).take (k + 1)).drop j) ∧ ∃ m, wr = w.drewN m) (fun _ si _ => (intOf si + 1).toNat)
    case atStart => exact ⟨k + 1, 0, Nat.le_refl _, by go_num, rfl, by rw [List.drop_eq_nil_of_le (by simp; omega)]; rfl, _, rfl⟩
    case round =>
     obtain ⟨j, X0, hj, rfl, rfl, hX, m', rfl⟩ := hrel;have HX := hJ hX;clear hX;rcases j with _ | j
     ·go_wp2
      go_ret;obtain ⟨r1, r2⟩ := (HR.out.qt (Qt.drewN w m')).setPlace (p + (k + 1)) ((p : Int) + (k : Int) + 1) (by omega) (by omega) (by omega);have e : X0 = x := by rw [HX.out, ← HD.out]; rfl
      rw [← e];exact ⟨rfl, r1, gQ ((Qt.drewN _ _).grown _) r2⟩
     ·obtain ⟨y, hy⟩ : ∃ y, y = zs.getD (p + j) 0 := ⟨_, rfl⟩
      have hycell : w.cell? ⟨G, p + j, none⟩ = some (.int .u8 y) := by rw [hy]; exact HBY.out (p + j) (by omega) (by omega)
      obtain ⟨hy0, hy1⟩ : 0 ≤ y ∧ y ≤ 255 := by rw [hy]; exact HB.out.getD _
      have hstep : dv (((zs.drop p).take (k + 1)).drop j) = (y % 128).toNat + 128 * X0 := by
       rw [HX.out, dv_at _ j (by simp; omega), hy]
       congr 3
       simp [List.getD, show j < k + 1 by omega]
      have hX57 : X0 < 144115188075855872 := by
       have h3 := dv_drop ((zs.drop p).take (k + 1)) j;rw [HD.out] at h3;omega
      have HS := hJ hstep;clear hstep hy
      have hor : bits BinOp.or IntKind.u64 ((X0 : Int) * 128) (y % 128) = ((X0 * 128 + (y % 128).toNat : Nat) : Int) := by
       have := or_low X0 (y % 128).toNat 7 (by omega) (by omega) (by omega);rw [Int.toNat_of_nonneg (by omega)] at this;exact this
      have HOR := hJ hor;clear hor;rw [show ((j + 1 : Nat) : Int) - 1 = (j : Int) by omega];go_wp2
      go_quiet (fail)
      go_wp2;go_roundw
      case rel =>
       refine ⟨j, X0 * 128 + (y % 128).toNat, by omega, by go_num, by rw [← HOR.out], ?_, _, rfl⟩;rw [HS.out]; omega
      case measure => simp [intOf]
   ·have hb3 : ((k : Int) == 9) = false := by simp; omega
    have hb4 : ¬ (0 : Int) < k := by omega
    clear q1;clear hz9 hzz;go_wp2
    go_quiet (fail)
    go_wp2;go_loopw [6, 7] (fun sx si wr => ∃ j X : Nat, j ≤ k + 1 ∧ si = .int .i64 ((j : Int) - 1) ∧ sx = .int .u64 (X : Nat) ∧ X = dv (((zs.drop p).take (k + 1)).drop j) ∧ ∃ m, wr = w.drewN m) (fun _ si _ => (intOf si + 1).toNat)
    case atStart => exact ⟨k + 1, 0, Nat.le_refl _, by go_num, rfl, by rw [List.drop_eq_nil_of_le (by simp; omega)]; rfl, _, rfl⟩
    case round =>
     obtain ⟨j, X0, hj, rfl, rfl, hX, m', rfl⟩ := hrel;have HX := hJ hX;clear hX;rcases j with _ | j
     ·go_wp2
      go_ret;obtain ⟨r1, r2⟩ := (HR.out.qt (Qt.drewN w m')).setPlace (p + (k + 1)) ((p : Int) + (k : Int) + 1) (by omega) (by omega) (by omega);have e : X0 = x := by rw [HX.out, ← HD.out]; rfl
      rw [← e];exact ⟨rfl, r1, gQ ((Qt.drewN _ _).grown _) r2⟩
     ·obtain ⟨y, hy⟩ : ∃ y, y = zs.getD (p + j) 0 := ⟨_, rfl⟩
      have hycell : w.cell? ⟨G, p + j, none⟩ = some (.int .u8 y) := by rw [hy]; exact HBY.out (p + j) (by omega) (by omega)
      obtain ⟨hy0, hy1⟩ : 0 ≤ y ∧ y ≤ 255 := by rw [hy]; exact HB.out.getD _
      have hstep : dv (((zs.drop p).take (k + 1)).drop j) = (y % 128).toNat + 128 * X0 := by
       rw [HX.out, dv_at _ j (by simp; omega), hy]
       congr 3
       simp [List.getD, show j < k + 1 by omega]
      have hX57 : X0 < 144115188075855872 := by
       have h3 := dv_drop ((zs.drop p).take (k + 1)) j;rw [HD.out] at h3;omega
      have HS := hJ hstep;clear hstep hy
      have hor : bits BinOp.or IntKind.u64 ((X0 : Int) * 128) (y % 128) = ((X0 * 128 + (y % 128).toNat : Nat) : Int) := by
       have := or_low X0 (y % 128).toNat 7 (by omega) (by omega) (by omega);rw [Int.toNat_of_nonneg (by omega)] at this;exact this
      have HOR := hJ hor;clear hor;rw [show ((j + 1 : Nat) : Int) - 1 = (j : Int) by omega];go_wp2
      go_quiet (fail)
      go_wp2;go_roundw
      case rel =>
       refine ⟨j, X0 * 128 + (y % 128).toNat, by omega, by go_num, by rw [← HOR.out], ?_, _, rfl⟩;rw [HS.out]; omega
      case measure => simp [intOf]
end Go.Proofs.YtkiopabcnemgnaaGreatDoor
