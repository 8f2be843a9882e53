import Derived.Test.YthodgddoolbenaaGreatDoorQ5
import Derived.Great.Walk
namespace Go.Proofs.YthodgddoolbenaaGreatDoor
open Go.RowKit
theorem kid0_le {K : Nat → Kn} : ∀ {i j : Nat}, i ≤ j → kid0 K i ≤ kid0 K j
 | i, 0, h => by
  have e : i = 0 := by omega
  rw [e]
  exact Nat.le_refl _
 | i, j + 1, h => by
  by_cases e : i = j + 1
  ·subst e; exact Nat.le_refl _
  ·have := kid0_le (K := K) (show i ≤ j by omega)
   show kid0 K i ≤ kid0 K j + (K j).n
   omega
theorem Gw.turn {B base : Nat} {K : Nat → Kn} {I : World → Prop} {t : Nat} {w : World} {S : Nat → Nat → Prop} (h : Gw B base K I 13 t w S) : Gw B base K I 0 (t + 1) w S :=
 ⟨h.inv, h.c0, h.sz, fun i hi => by omega, fun i _ h2 => h.a i h2, h.sb, h.di⟩
structure Bc (w : World) (B : Nat) : Prop where
 c0 : w.cell? ⟨B, 0, none⟩ = some (.int .i64 0)
 c1 : ∃ u, w.cell? ⟨B, 1, none⟩ = some u
 f1 : w.frozen? ⟨B, 1, none⟩ = false
theorem Bc.kept {w w' : World} {B : Nat} {row : Option Nat} (h : Bc w B) (hg : w.grownBy w' row) (hne : some B ≠ row) : Bc w' B := by
 obtain ⟨u, hu⟩ := h.c1
 exact ⟨hg.cell h.c0 hne, ⟨u, hg.cell hu hne⟩, (World.frozen?_of_block (hg.block B (World.block_lt_of_cell? w _ h.c0) hne)).trans h.f1⟩
theorem Bc.set {w : World} {B : Nat} (h : Bc w B) (v : Value) : Bc (w.setCell ⟨B, 1, none⟩ v) B := by
 obtain ⟨u, hu⟩ := h.c1
 exact ⟨by rw [World.cell?_setCell_other _ _ _ _ (off_ne (by decide))]; exact h.c0, ⟨v, World.cell?_setCell_same _ _ _ hu⟩, by simpa using h.f1⟩
set_option maxHeartbeats 4000000 in
set_option maxRecDepth 100000 in
theorem kn_untouched {B base : Nat} {K : Nat → Kn} (hK : ∀ j, j < 13 → KnOk B base (K j) j) (w : World) (h : ∀ j, j < 13 → (K j).Z w) :
  Calls Tryz.prog 26 #[.pointer (some ⟨B, 0, none⟩)] w fun en w' => en = .returned (.bool true) ∧ w.grownBy w' none ∧ ∀ j, j < 13 → (K j).Z w' := by
 have HG := hid_intro ((Qt.refl w).grown none)
 have HZ := hid_intro h
 have HK := hid_intro hK
 clear h hK
 obtain ⟨w0, hw0⟩ : ∃ w0, w0 = w := ⟨_, rfl⟩
 have HG : Hid (w0.grownBy w none) := by rw [hw0]; exact HG
 rw [← hw0]
 have E0 : Hid (w0 = w) := hw0
 clear hw0
 rw [E0.out]
 go_enter Tryz.func26, Tryz.ntmps26
 go_wp2_with fail
 refine ((HK.out 0 (by omega)).untouched _ (HZ.out 0 (by omega))).mono ?_
 rintro en w1 ⟨rfl, hg⟩
 have HG := hid_intro (grown_trans HG.out hg)
 have HZ : Hid (∀ j, j < 13 → (K j).Z w1) := fun j hj => (HK.out j hj).zKept _ _ (HZ.out j hj) hg
 clear hg
 go_wp2_with fail
 refine ((HK.out 1 (by omega)).untouched _ (HZ.out 1 (by omega))).mono ?_
 rintro en w1 ⟨rfl, hg⟩
 have HG := hid_intro (grown_trans HG.out hg)
 have HZ : Hid (∀ j, j < 13 → (K j).Z w1) := fun j hj => (HK.out j hj).zKept _ _ (HZ.out j hj) hg
 clear hg
 go_wp2_with fail
 refine ((HK.out 2 (by omega)).untouched _ (HZ.out 2 (by omega))).mono ?_
 rintro en w1 ⟨rfl, hg⟩
 have HG := hid_intro (grown_trans HG.out hg)
 have HZ : Hid (∀ j, j < 13 → (K j).Z w1) := fun j hj => (HK.out j hj).zKept _ _ (HZ.out j hj) hg
 clear hg
 go_wp2_with fail
 refine ((HK.out 3 (by omega)).untouched _ (HZ.out 3 (by omega))).mono ?_
 rintro en w1 ⟨rfl, hg⟩
 have HG := hid_intro (grown_trans HG.out hg)
 have HZ : Hid (∀ j, j < 13 → (K j).Z w1) := fun j hj => (HK.out j hj).zKept _ _ (HZ.out j hj) hg
 clear hg
 go_wp2_with fail
 refine ((HK.out 4 (by omega)).untouched _ (HZ.out 4 (by omega))).mono ?_
 rintro en w1 ⟨rfl, hg⟩
 have HG := hid_intro (grown_trans HG.out hg)
 have HZ : Hid (∀ j, j < 13 → (K j).Z w1) := fun j hj => (HK.out j hj).zKept _ _ (HZ.out j hj) hg
 clear hg
 go_wp2_with fail
 refine ((HK.out 5 (by omega)).untouched _ (HZ.out 5 (by omega))).mono ?_
 rintro en w1 ⟨rfl, hg⟩
 have HG := hid_intro (grown_trans HG.out hg)
 have HZ : Hid (∀ j, j < 13 → (K j).Z w1) := fun j hj => (HK.out j hj).zKept _ _ (HZ.out j hj) hg
 clear hg
 go_wp2_with fail
 refine ((HK.out 6 (by omega)).untouched _ (HZ.out 6 (by omega))).mono ?_
 rintro en w1 ⟨rfl, hg⟩
 have HG := hid_intro (grown_trans HG.out hg)
 have HZ : Hid (∀ j, j < 13 → (K j).Z w1) := fun j hj => (HK.out j hj).zKept _ _ (HZ.out j hj) hg
 clear hg
 go_wp2_with fail
 refine ((HK.out 7 (by omega)).untouched _ (HZ.out 7 (by omega))).mono ?_
 rintro en w1 ⟨rfl, hg⟩
 have HG := hid_intro (grown_trans HG.out hg)
 have HZ : Hid (∀ j, j < 13 → (K j).Z w1) := fun j hj => (HK.out j hj).zKept _ _ (HZ.out j hj) hg
 clear hg
 go_wp2_with fail
 refine ((HK.out 8 (by omega)).untouched _ (HZ.out 8 (by omega))).mono ?_
 rintro en w1 ⟨rfl, hg⟩
 have HG := hid_intro (grown_trans HG.out hg)
 have HZ : Hid (∀ j, j < 13 → (K j).Z w1) := fun j hj => (HK.out j hj).zKept _ _ (HZ.out j hj) hg
 clear hg
 go_wp2_with fail
 refine ((HK.out 9 (by omega)).untouched _ (HZ.out 9 (by omega))).mono ?_
 rintro en w1 ⟨rfl, hg⟩
 have HG := hid_intro (grown_trans HG.out hg)
 have HZ : Hid (∀ j, j < 13 → (K j).Z w1) := fun j hj => (HK.out j hj).zKept _ _ (HZ.out j hj) hg
 clear hg
 go_wp2_with fail
 refine ((HK.out 10 (by omega)).untouched _ (HZ.out 10 (by omega))).mono ?_
 rintro en w1 ⟨rfl, hg⟩
 have HG := hid_intro (grown_trans HG.out hg)
 have HZ : Hid (∀ j, j < 13 → (K j).Z w1) := fun j hj => (HK.out j hj).zKept _ _ (HZ.out j hj) hg
 clear hg
 go_wp2_with fail
 refine ((HK.out 11 (by omega)).untouched _ (HZ.out 11 (by omega))).mono ?_
 rintro en w1 ⟨rfl, hg⟩
 have HG := hid_intro (grown_trans HG.out hg)
 have HZ : Hid (∀ j, j < 13 → (K j).Z w1) := fun j hj => (HK.out j hj).zKept _ _ (HZ.out j hj) hg
 clear hg
 go_wp2_with fail
 refine ((HK.out 12 (by omega)).untouched _ (HZ.out 12 (by omega))).mono ?_
 rintro en w1 ⟨rfl, hg⟩
 have HG := hid_intro (grown_trans HG.out hg)
 have HZ : Hid (∀ j, j < 13 → (K j).Z w1) := fun j hj => (HK.out j hj).zKept _ _ (HZ.out j hj) hg
 clear hg
 go_wp2
 go_ret
 exact ⟨rfl, by rw [← E0.out]; exact HG.out, HZ.out⟩
set_option maxHeartbeats 4000000 in
set_option maxRecDepth 100000 in
theorem kn_write {B base : Nat} {K : Nat → Kn} {I : World → Prop} (hK : ∀ j, j < 13 → KnOk B base (K j) j) (hX : Cross K) (hI : ∀ v v' row, I v → v.grownBy v' row → (∀ i, row = some i → ∃ j, j < 13 ∧ (K j).own i) → I v') (hn : kid0 K 13 ≤ 1000000) (p : Int) (hp : 0 ≤ p ∧ p ≤ 1) (w : World) {S : Nat → Nat → Prop} (h : Ws B base K I 0 p w S) (c0 : w.cell? ⟨B, 0, none⟩ = some (.int .i64 0)) :
  Calls Tryz.prog 27 #[.pointer (some ⟨B, 0, none⟩)] w fun en w' => en = .returned (.tuple #[]) ∧ ∃ S, Ws B base K I 13 p w' S := by
 have HK := hid_intro hK
 have HX := hid_intro hX
 have HI := hid_intro hI
 have HW := hid_intro h
 have hle : ∀ j, j ≤ 13 → kid0 K j ≤ 1000000 := fun j hj => Nat.le_trans (kid0_le hj) hn
 have HL := hid_intro hle
 clear h hK hX hI hle hn
 go_enter Tryz.func27, Tryz.ntmps27
 go_wp2_with fail
 refine (ws_write HK.out HX.out HI.out 0 (by omega) p hp _ _ rfl (HL.out 0 (by omega)) HW.out).mono ?_
 clear HW
 rintro en w1 ⟨rfl, S1, hw1⟩
 have HW := hid_intro hw1
 clear hw1
 clear c0
 go_wp2_with fail
 refine (ws_write HK.out HX.out HI.out 1 (by omega) p hp _ _ rfl (HL.out 1 (by omega)) HW.out).mono ?_
 clear HW
 rintro en w1 ⟨rfl, S1, hw1⟩
 have HW := hid_intro hw1
 clear hw1
 go_wp2_with fail
 refine (ws_write HK.out HX.out HI.out 2 (by omega) p hp _ _ rfl (HL.out 2 (by omega)) HW.out).mono ?_
 clear HW
 rintro en w1 ⟨rfl, S1, hw1⟩
 have HW := hid_intro hw1
 clear hw1
 go_wp2_with fail
 refine (ws_write HK.out HX.out HI.out 3 (by omega) p hp _ _ rfl (HL.out 3 (by omega)) HW.out).mono ?_
 clear HW
 rintro en w1 ⟨rfl, S1, hw1⟩
 have HW := hid_intro hw1
 clear hw1
 go_wp2_with fail
 refine (ws_write HK.out HX.out HI.out 4 (by omega) p hp _ _ rfl (HL.out 4 (by omega)) HW.out).mono ?_
 clear HW
 rintro en w1 ⟨rfl, S1, hw1⟩
 have HW := hid_intro hw1
 clear hw1
 go_wp2_with fail
 refine (ws_write HK.out HX.out HI.out 5 (by omega) p hp _ _ rfl (HL.out 5 (by omega)) HW.out).mono ?_
 clear HW
 rintro en w1 ⟨rfl, S1, hw1⟩
 have HW := hid_intro hw1
 clear hw1
 go_wp2_with fail
 refine (ws_write HK.out HX.out HI.out 6 (by omega) p hp _ _ rfl (HL.out 6 (by omega)) HW.out).mono ?_
 clear HW
 rintro en w1 ⟨rfl, S1, hw1⟩
 have HW := hid_intro hw1
 clear hw1
 go_wp2_with fail
 refine (ws_write HK.out HX.out HI.out 7 (by omega) p hp _ _ rfl (HL.out 7 (by omega)) HW.out).mono ?_
 clear HW
 rintro en w1 ⟨rfl, S1, hw1⟩
 have HW := hid_intro hw1
 clear hw1
 go_wp2_with fail
 refine (ws_write HK.out HX.out HI.out 8 (by omega) p hp _ _ rfl (HL.out 8 (by omega)) HW.out).mono ?_
 clear HW
 rintro en w1 ⟨rfl, S1, hw1⟩
 have HW := hid_intro hw1
 clear hw1
 go_wp2_with fail
 refine (ws_write HK.out HX.out HI.out 9 (by omega) p hp _ _ rfl (HL.out 9 (by omega)) HW.out).mono ?_
 clear HW
 rintro en w1 ⟨rfl, S1, hw1⟩
 have HW := hid_intro hw1
 clear hw1
 go_wp2_with fail
 refine (ws_write HK.out HX.out HI.out 10 (by omega) p hp _ _ rfl (HL.out 10 (by omega)) HW.out).mono ?_
 clear HW
 rintro en w1 ⟨rfl, S1, hw1⟩
 have HW := hid_intro hw1
 clear hw1
 go_wp2_with fail
 refine (ws_write HK.out HX.out HI.out 11 (by omega) p hp _ _ rfl (HL.out 11 (by omega)) HW.out).mono ?_
 clear HW
 rintro en w1 ⟨rfl, S1, hw1⟩
 have HW := hid_intro hw1
 clear hw1
 go_wp2_with fail
 refine (ws_write HK.out HX.out HI.out 12 (by omega) p hp _ _ rfl (HL.out 12 (by omega)) HW.out).mono ?_
 clear HW
 rintro en w1 ⟨rfl, S1, hw1⟩
 have HW := hid_intro hw1
 clear hw1
 go_wp2
 refine Go.Great.bodyPost_end0 rfl rfl ?_
 exact ⟨rfl, _, HW.out⟩
set_option maxHeartbeats 4000000 in
set_option maxRecDepth 100000 in
theorem kn_holds {B base : Nat} {K : Nat → Kn} (hK : ∀ j, j < 13 → KnOk B base (K j) j) (hn : kid0 K 13 ≤ 1000000) (S : Nat → Nat → Prop) (p : Int) (hp : 0 ≤ p ∧ p ≤ 1) (w : World) (h : ∀ j, j < 13 → (K j).M (S j) p (kid0 K j) w) (c0 : w.cell? ⟨B, 0, none⟩ = some (.int .i64 0)) :
  Calls Tryz.prog 28 #[.pointer (some ⟨B, 0, none⟩)] w fun en w' => en = .returned (.bool true) ∧ w.grownBy w' none := by
 have HZ := hid_intro h
 have HK := hid_intro hK
 have hle : ∀ j, j ≤ 13 → kid0 K j ≤ 1000000 := fun j hj => Nat.le_trans (kid0_le hj) hn
 have HL := hid_intro hle
 clear h hK hle hn
 obtain ⟨w0, hw0⟩ : ∃ w0, w0 = w := ⟨_, rfl⟩
 have HG : Hid (w0.grownBy w none) := by rw [hw0]; exact (Qt.refl w).grown none
 have E0 : Hid (w0 = w) := hw0
 clear hw0
 go_enter Tryz.func28, Tryz.ntmps28
 go_wp2_with fail
 refine ((HK.out 0 (by omega)).hold (S 0) p (kid0 K 0) _ _ hp rfl (HL.out 0 (by omega)) (HZ.out 0 (by omega))).mono ?_
 rintro en w1 ⟨rfl, hg⟩
 have HG := hid_intro (grown_trans HG.out hg)
 have HZ : Hid (∀ j, j < 13 → (K j).M (S j) p (kid0 K j) w1) := fun j hj => (HK.out j hj).mKept _ _ _ _ _ _ (HZ.out j hj) hg (by simp)
 clear hg
 clear c0
 go_wp2_with fail
 refine ((HK.out 1 (by omega)).hold (S 1) p (kid0 K 1) _ _ hp rfl (HL.out 1 (by omega)) (HZ.out 1 (by omega))).mono ?_
 rintro en w1 ⟨rfl, hg⟩
 have HG := hid_intro (grown_trans HG.out hg)
 have HZ : Hid (∀ j, j < 13 → (K j).M (S j) p (kid0 K j) w1) := fun j hj => (HK.out j hj).mKept _ _ _ _ _ _ (HZ.out j hj) hg (by simp)
 clear hg
 go_wp2_with fail
 refine ((HK.out 2 (by omega)).hold (S 2) p (kid0 K 2) _ _ hp rfl (HL.out 2 (by omega)) (HZ.out 2 (by omega))).mono ?_
 rintro en w1 ⟨rfl, hg⟩
 have HG := hid_intro (grown_trans HG.out hg)
 have HZ : Hid (∀ j, j < 13 → (K j).M (S j) p (kid0 K j) w1) := fun j hj => (HK.out j hj).mKept _ _ _ _ _ _ (HZ.out j hj) hg (by simp)
 clear hg
 go_wp2_with fail
 refine ((HK.out 3 (by omega)).hold (S 3) p (kid0 K 3) _ _ hp rfl (HL.out 3 (by omega)) (HZ.out 3 (by omega))).mono ?_
 rintro en w1 ⟨rfl, hg⟩
 have HG := hid_intro (grown_trans HG.out hg)
 have HZ : Hid (∀ j, j < 13 → (K j).M (S j) p (kid0 K j) w1) := fun j hj => (HK.out j hj).mKept _ _ _ _ _ _ (HZ.out j hj) hg (by simp)
 clear hg
 go_wp2_with fail
 refine ((HK.out 4 (by omega)).hold (S 4) p (kid0 K 4) _ _ hp rfl (HL.out 4 (by omega)) (HZ.out 4 (by omega))).mono ?_
 rintro en w1 ⟨rfl, hg⟩
 have HG := hid_intro (grown_trans HG.out hg)
 have HZ : Hid (∀ j, j < 13 → (K j).M (S j) p (kid0 K j) w1) := fun j hj => (HK.out j hj).mKept _ _ _ _ _ _ (HZ.out j hj) hg (by simp)
 clear hg
 go_wp2_with fail
 refine ((HK.out 5 (by omega)).hold (S 5) p (kid0 K 5) _ _ hp rfl (HL.out 5 (by omega)) (HZ.out 5 (by omega))).mono ?_
 rintro en w1 ⟨rfl, hg⟩
 have HG := hid_intro (grown_trans HG.out hg)
 have HZ : Hid (∀ j, j < 13 → (K j).M (S j) p (kid0 K j) w1) := fun j hj => (HK.out j hj).mKept _ _ _ _ _ _ (HZ.out j hj) hg (by simp)
 clear hg
 go_wp2_with fail
 refine ((HK.out 6 (by omega)).hold (S 6) p (kid0 K 6) _ _ hp rfl (HL.out 6 (by omega)) (HZ.out 6 (by omega))).mono ?_
 rintro en w1 ⟨rfl, hg⟩
 have HG := hid_intro (grown_trans HG.out hg)
 have HZ : Hid (∀ j, j < 13 → (K j).M (S j) p (kid0 K j) w1) := fun j hj => (HK.out j hj).mKept _ _ _ _ _ _ (HZ.out j hj) hg (by simp)
 clear hg
 go_wp2_with fail
 refine ((HK.out 7 (by omega)).hold (S 7) p (kid0 K 7) _ _ hp rfl (HL.out 7 (by omega)) (HZ.out 7 (by omega))).mono ?_
 rintro en w1 ⟨rfl, hg⟩
 have HG := hid_intro (grown_trans HG.out hg)
 have HZ : Hid (∀ j, j < 13 → (K j).M (S j) p (kid0 K j) w1) := fun j hj => (HK.out j hj).mKept _ _ _ _ _ _ (HZ.out j hj) hg (by simp)
 clear hg
 go_wp2_with fail
 refine ((HK.out 8 (by omega)).hold (S 8) p (kid0 K 8) _ _ hp rfl (HL.out 8 (by omega)) (HZ.out 8 (by omega))).mono ?_
 rintro en w1 ⟨rfl, hg⟩
 have HG := hid_intro (grown_trans HG.out hg)
 have HZ : Hid (∀ j, j < 13 → (K j).M (S j) p (kid0 K j) w1) := fun j hj => (HK.out j hj).mKept _ _ _ _ _ _ (HZ.out j hj) hg (by simp)
 clear hg
 go_wp2_with fail
 refine ((HK.out 9 (by omega)).hold (S 9) p (kid0 K 9) _ _ hp rfl (HL.out 9 (by omega)) (HZ.out 9 (by omega))).mono ?_
 rintro en w1 ⟨rfl, hg⟩
 have HG := hid_intro (grown_trans HG.out hg)
 have HZ : Hid (∀ j, j < 13 → (K j).M (S j) p (kid0 K j) w1) := fun j hj => (HK.out j hj).mKept _ _ _ _ _ _ (HZ.out j hj) hg (by simp)
 clear hg
 go_wp2_with fail
 refine ((HK.out 10 (by omega)).hold (S 10) p (kid0 K 10) _ _ hp rfl (HL.out 10 (by omega)) (HZ.out 10 (by omega))).mono ?_
 rintro en w1 ⟨rfl, hg⟩
 have HG := hid_intro (grown_trans HG.out hg)
 have HZ : Hid (∀ j, j < 13 → (K j).M (S j) p (kid0 K j) w1) := fun j hj => (HK.out j hj).mKept _ _ _ _ _ _ (HZ.out j hj) hg (by simp)
 clear hg
 go_wp2_with fail
 refine ((HK.out 11 (by omega)).hold (S 11) p (kid0 K 11) _ _ hp rfl (HL.out 11 (by omega)) (HZ.out 11 (by omega))).mono ?_
 rintro en w1 ⟨rfl, hg⟩
 have HG := hid_intro (grown_trans HG.out hg)
 have HZ : Hid (∀ j, j < 13 → (K j).M (S j) p (kid0 K j) w1) := fun j hj => (HK.out j hj).mKept _ _ _ _ _ _ (HZ.out j hj) hg (by simp)
 clear hg
 go_wp2_with fail
 refine ((HK.out 12 (by omega)).hold (S 12) p (kid0 K 12) _ _ hp rfl (HL.out 12 (by omega)) (HZ.out 12 (by omega))).mono ?_
 rintro en w1 ⟨rfl, hg⟩
 have HG := hid_intro (grown_trans HG.out hg)
 have HZ : Hid (∀ j, j < 13 → (K j).M (S j) p (kid0 K j) w1) := fun j hj => (HK.out j hj).mKept _ _ _ _ _ _ (HZ.out j hj) hg (by simp)
 clear hg
 go_wp2
 go_ret
 exact ⟨rfl, by rw [← E0.out]; exact HG.out⟩
set_option maxHeartbeats 4000000 in
set_option maxRecDepth 100000 in
theorem kn_holdsG {B base : Nat} {K : Nat → Kn} (hK : ∀ j, j < 13 → KnOk B base (K j) j) (hn : kid0 K 13 ≤ 1000000) (S : Nat → Nat → Prop) (w : World) (h : ∀ j, j < 13 → (K j).G (S j) 70 (kid0 K j) w) (c0 : w.cell? ⟨B, 0, none⟩ = some (.int .i64 0)) :
  Calls Tryz.prog 28 #[.pointer (some ⟨B, 0, none⟩)] w fun en w' => en = .returned (.bool true) ∧ w.grownBy w' none := by
 have HZ := hid_intro h
 have HK := hid_intro hK
 have hle : ∀ j, j ≤ 13 → kid0 K j ≤ 1000000 := fun j hj => Nat.le_trans (kid0_le hj) hn
 have HL := hid_intro hle
 clear h hK hle hn
 obtain ⟨w0, hw0⟩ : ∃ w0, w0 = w := ⟨_, rfl⟩
 have HG : Hid (w0.grownBy w none) := by rw [hw0]; exact (Qt.refl w).grown none
 have E0 : Hid (w0 = w) := hw0
 clear hw0
 go_enter Tryz.func28, Tryz.ntmps28
 go_wp2_with fail
 refine ((HK.out 0 (by omega)).holdG (S 0) (kid0 K 0) _ _ rfl (HL.out 0 (by omega)) (HZ.out 0 (by omega))).mono ?_
 rintro en w1 ⟨rfl, hg⟩
 have HG := hid_intro (grown_trans HG.out hg)
 have HZ : Hid (∀ j, j < 13 → (K j).G (S j) 70 (kid0 K j) w1) := fun j hj => (HK.out j hj).gKept _ _ _ _ _ _ (HZ.out j hj) hg (by simp)
 clear hg
 clear c0
 go_wp2_with fail
 refine ((HK.out 1 (by omega)).holdG (S 1) (kid0 K 1) _ _ rfl (HL.out 1 (by omega)) (HZ.out 1 (by omega))).mono ?_
 rintro en w1 ⟨rfl, hg⟩
 have HG := hid_intro (grown_trans HG.out hg)
 have HZ : Hid (∀ j, j < 13 → (K j).G (S j) 70 (kid0 K j) w1) := fun j hj => (HK.out j hj).gKept _ _ _ _ _ _ (HZ.out j hj) hg (by simp)
 clear hg
 go_wp2_with fail
 refine ((HK.out 2 (by omega)).holdG (S 2) (kid0 K 2) _ _ rfl (HL.out 2 (by omega)) (HZ.out 2 (by omega))).mono ?_
 rintro en w1 ⟨rfl, hg⟩
 have HG := hid_intro (grown_trans HG.out hg)
 have HZ : Hid (∀ j, j < 13 → (K j).G (S j) 70 (kid0 K j) w1) := fun j hj => (HK.out j hj).gKept _ _ _ _ _ _ (HZ.out j hj) hg (by simp)
 clear hg
 go_wp2_with fail
 refine ((HK.out 3 (by omega)).holdG (S 3) (kid0 K 3) _ _ rfl (HL.out 3 (by omega)) (HZ.out 3 (by omega))).mono ?_
 rintro en w1 ⟨rfl, hg⟩
 have HG := hid_intro (grown_trans HG.out hg)
 have HZ : Hid (∀ j, j < 13 → (K j).G (S j) 70 (kid0 K j) w1) := fun j hj => (HK.out j hj).gKept _ _ _ _ _ _ (HZ.out j hj) hg (by simp)
 clear hg
 go_wp2_with fail
 refine ((HK.out 4 (by omega)).holdG (S 4) (kid0 K 4) _ _ rfl (HL.out 4 (by omega)) (HZ.out 4 (by omega))).mono ?_
 rintro en w1 ⟨rfl, hg⟩
 have HG := hid_intro (grown_trans HG.out hg)
 have HZ : Hid (∀ j, j < 13 → (K j).G (S j) 70 (kid0 K j) w1) := fun j hj => (HK.out j hj).gKept _ _ _ _ _ _ (HZ.out j hj) hg (by simp)
 clear hg
 go_wp2_with fail
 refine ((HK.out 5 (by omega)).holdG (S 5) (kid0 K 5) _ _ rfl (HL.out 5 (by omega)) (HZ.out 5 (by omega))).mono ?_
 rintro en w1 ⟨rfl, hg⟩
 have HG := hid_intro (grown_trans HG.out hg)
 have HZ : Hid (∀ j, j < 13 → (K j).G (S j) 70 (kid0 K j) w1) := fun j hj => (HK.out j hj).gKept _ _ _ _ _ _ (HZ.out j hj) hg (by simp)
 clear hg
 go_wp2_with fail
 refine ((HK.out 6 (by omega)).holdG (S 6) (kid0 K 6) _ _ rfl (HL.out 6 (by omega)) (HZ.out 6 (by omega))).mono ?_
 rintro en w1 ⟨rfl, hg⟩
 have HG := hid_intro (grown_trans HG.out hg)
 have HZ : Hid (∀ j, j < 13 → (K j).G (S j) 70 (kid0 K j) w1) := fun j hj => (HK.out j hj).gKept _ _ _ _ _ _ (HZ.out j hj) hg (by simp)
 clear hg
 go_wp2_with fail
 refine ((HK.out 7 (by omega)).holdG (S 7) (kid0 K 7) _ _ rfl (HL.out 7 (by omega)) (HZ.out 7 (by omega))).mono ?_
 rintro en w1 ⟨rfl, hg⟩
 have HG := hid_intro (grown_trans HG.out hg)
 have HZ : Hid (∀ j, j < 13 → (K j).G (S j) 70 (kid0 K j) w1) := fun j hj => (HK.out j hj).gKept _ _ _ _ _ _ (HZ.out j hj) hg (by simp)
 clear hg
 go_wp2_with fail
 refine ((HK.out 8 (by omega)).holdG (S 8) (kid0 K 8) _ _ rfl (HL.out 8 (by omega)) (HZ.out 8 (by omega))).mono ?_
 rintro en w1 ⟨rfl, hg⟩
 have HG := hid_intro (grown_trans HG.out hg)
 have HZ : Hid (∀ j, j < 13 → (K j).G (S j) 70 (kid0 K j) w1) := fun j hj => (HK.out j hj).gKept _ _ _ _ _ _ (HZ.out j hj) hg (by simp)
 clear hg
 go_wp2_with fail
 refine ((HK.out 9 (by omega)).holdG (S 9) (kid0 K 9) _ _ rfl (HL.out 9 (by omega)) (HZ.out 9 (by omega))).mono ?_
 rintro en w1 ⟨rfl, hg⟩
 have HG := hid_intro (grown_trans HG.out hg)
 have HZ : Hid (∀ j, j < 13 → (K j).G (S j) 70 (kid0 K j) w1) := fun j hj => (HK.out j hj).gKept _ _ _ _ _ _ (HZ.out j hj) hg (by simp)
 clear hg
 go_wp2_with fail
 refine ((HK.out 10 (by omega)).holdG (S 10) (kid0 K 10) _ _ rfl (HL.out 10 (by omega)) (HZ.out 10 (by omega))).mono ?_
 rintro en w1 ⟨rfl, hg⟩
 have HG := hid_intro (grown_trans HG.out hg)
 have HZ : Hid (∀ j, j < 13 → (K j).G (S j) 70 (kid0 K j) w1) := fun j hj => (HK.out j hj).gKept _ _ _ _ _ _ (HZ.out j hj) hg (by simp)
 clear hg
 go_wp2_with fail
 refine ((HK.out 11 (by omega)).holdG (S 11) (kid0 K 11) _ _ rfl (HL.out 11 (by omega)) (HZ.out 11 (by omega))).mono ?_
 rintro en w1 ⟨rfl, hg⟩
 have HG := hid_intro (grown_trans HG.out hg)
 have HZ : Hid (∀ j, j < 13 → (K j).G (S j) 70 (kid0 K j) w1) := fun j hj => (HK.out j hj).gKept _ _ _ _ _ _ (HZ.out j hj) hg (by simp)
 clear hg
 go_wp2_with fail
 refine ((HK.out 12 (by omega)).holdG (S 12) (kid0 K 12) _ _ rfl (HL.out 12 (by omega)) (HZ.out 12 (by omega))).mono ?_
 rintro en w1 ⟨rfl, hg⟩
 have HG := hid_intro (grown_trans HG.out hg)
 have HZ : Hid (∀ j, j < 13 → (K j).G (S j) 70 (kid0 K j) w1) := fun j hj => (HK.out j hj).gKept _ _ _ _ _ _ (HZ.out j hj) hg (by simp)
 clear hg
 go_wp2
 go_ret
 exact ⟨rfl, by rw [← E0.out]; exact HG.out⟩
set_option maxHeartbeats 8000000 in
set_option maxRecDepth 100000 in
theorem kn_grow {B base : Nat} {K : Nat → Kn} {I : World → Prop} (hBb : B < base) (hK : ∀ j, j < 13 → KnOk B base (K j) j) (hX : Cross K) (hI : ∀ v v' row, I v → v.grownBy v' row → (∀ i, row = some i → (∃ j, j < 13 ∧ (K j).own i) ∨ base ≤ i) → I v') (hIb : ∀ v i u, I v → I (v.setCell ⟨B, i, none⟩ u)) (hn : kid0 K 13 ≤ 1000000) (w : World) {S : Nat → Nat → Prop} (h : Gw B base K I 0 0 w S) :
  Calls Tryz.prog 29 #[.pointer (some ⟨B, 0, none⟩)] w fun en w' => en = .returned (.tuple #[]) ∧ ∃ S, Gw B base K I 0 70 w' S := by
 have HK := hid_intro hK
 have HX := hid_intro hX
 have HI := hid_intro hI
 have HIB := hid_intro hIb
 have HW : Hid (∃ S, Gw B base K I 0 0 w S) := ⟨S, h⟩
 have hle : ∀ j, j ≤ 13 → kid0 K j ≤ 1000000 := fun j hj => Nat.le_trans (kid0_le hj) hn
 have HL := hid_intro hle
 clear h hK hX hI hIb hle hn
 go_enter Tryz.func29, Tryz.ntmps29
 go_wp2
 go_loopw [2] (fun st wr => ∃ t : Nat, t ≤ 70 ∧ st = .int .i64 t ∧ ∃ S, Gw B base K I 0 t wr S) (fun st _ => 70 - (intOf st).toNat)
 case atStart => exact ⟨0, by omega, rfl, HW.out⟩
 case round =>
  obtain ⟨t, ht, rfl, S, hw⟩ := hrel
  have HW := hid_intro hw
  have k0 := hw.c0
  clear hw
  by_cases hlt : t < 70
  ·go_wp2_with fail
   refine (gw_grow hBb HK.out HX.out HI.out HIB.out 0 (by omega) t hlt _ _ _ rfl rfl (HL.out 0 (by omega)) HW.out).mono ?_
   clear HW
   rintro en w1 ⟨rfl, S1, hw1⟩
   have HW := hid_intro hw1
   clear hw1
   clear k0
   go_wp2_with fail
   refine (gw_grow hBb HK.out HX.out HI.out HIB.out 1 (by omega) t hlt _ _ _ rfl rfl (HL.out 1 (by omega)) HW.out).mono ?_
   clear HW
   rintro en w1 ⟨rfl, S1, hw1⟩
   have HW := hid_intro hw1
   clear hw1
   go_wp2_with fail
   refine (gw_grow hBb HK.out HX.out HI.out HIB.out 2 (by omega) t hlt _ _ _ rfl rfl (HL.out 2 (by omega)) HW.out).mono ?_
   clear HW
   rintro en w1 ⟨rfl, S1, hw1⟩
   have HW := hid_intro hw1
   clear hw1
   go_wp2_with fail
   refine (gw_grow hBb HK.out HX.out HI.out HIB.out 3 (by omega) t hlt _ _ _ rfl rfl (HL.out 3 (by omega)) HW.out).mono ?_
   clear HW
   rintro en w1 ⟨rfl, S1, hw1⟩
   have HW := hid_intro hw1
   clear hw1
   go_wp2_with fail
   refine (gw_grow hBb HK.out HX.out HI.out HIB.out 4 (by omega) t hlt _ _ _ rfl rfl (HL.out 4 (by omega)) HW.out).mono ?_
   clear HW
   rintro en w1 ⟨rfl, S1, hw1⟩
   have HW := hid_intro hw1
   clear hw1
   go_wp2_with fail
   refine (gw_grow hBb HK.out HX.out HI.out HIB.out 5 (by omega) t hlt _ _ _ rfl rfl (HL.out 5 (by omega)) HW.out).mono ?_
   clear HW
   rintro en w1 ⟨rfl, S1, hw1⟩
   have HW := hid_intro hw1
   clear hw1
   go_wp2_with fail
   refine (gw_grow hBb HK.out HX.out HI.out HIB.out 6 (by omega) t hlt _ _ _ rfl rfl (HL.out 6 (by omega)) HW.out).mono ?_
   clear HW
   rintro en w1 ⟨rfl, S1, hw1⟩
   have HW := hid_intro hw1
   clear hw1
   go_wp2_with fail
   refine (gw_grow hBb HK.out HX.out HI.out HIB.out 7 (by omega) t hlt _ _ _ rfl rfl (HL.out 7 (by omega)) HW.out).mono ?_
   clear HW
   rintro en w1 ⟨rfl, S1, hw1⟩
   have HW := hid_intro hw1
   clear hw1
   go_wp2_with fail
   refine (gw_grow hBb HK.out HX.out HI.out HIB.out 8 (by omega) t hlt _ _ _ rfl rfl (HL.out 8 (by omega)) HW.out).mono ?_
   clear HW
   rintro en w1 ⟨rfl, S1, hw1⟩
   have HW := hid_intro hw1
   clear hw1
   go_wp2_with fail
   refine (gw_grow hBb HK.out HX.out HI.out HIB.out 9 (by omega) t hlt _ _ _ rfl rfl (HL.out 9 (by omega)) HW.out).mono ?_
   clear HW
   rintro en w1 ⟨rfl, S1, hw1⟩
   have HW := hid_intro hw1
   clear hw1
   go_wp2_with fail
   refine (gw_grow hBb HK.out HX.out HI.out HIB.out 10 (by omega) t hlt _ _ _ rfl rfl (HL.out 10 (by omega)) HW.out).mono ?_
   clear HW
   rintro en w1 ⟨rfl, S1, hw1⟩
   have HW := hid_intro hw1
   clear hw1
   go_wp2_with fail
   refine (gw_grow hBb HK.out HX.out HI.out HIB.out 11 (by omega) t hlt _ _ _ rfl rfl (HL.out 11 (by omega)) HW.out).mono ?_
   clear HW
   rintro en w1 ⟨rfl, S1, hw1⟩
   have HW := hid_intro hw1
   clear hw1
   go_wp2_with fail
   refine (gw_grow hBb HK.out HX.out HI.out HIB.out 12 (by omega) t hlt _ _ _ rfl rfl (HL.out 12 (by omega)) HW.out).mono ?_
   clear HW
   rintro en w1 ⟨rfl, S1, hw1⟩
   have HW := hid_intro hw1
   clear hw1
   go_wp2
   go_roundw
   case rel => exact ⟨t + 1, by omega, by go_num, _, HW.out.turn⟩
   case measure => simp [intOf]; omega
  ·have ht70 : t = 70 := by omega
   have HT := hid_intro ht70
   clear ht70
   go_wp2
   refine Go.Great.bodyPost_end0 rfl rfl ?_
   have e := HT.out
   subst e
   exact ⟨rfl, _, HW.out⟩
set_option maxHeartbeats 4000000 in
set_option maxRecDepth 100000 in
theorem kn_finish {B base : Nat} {K : Nat → Kn} {I : World → Prop} (hBb : B < base) (hK : ∀ j, j < 13 → KnOk B base (K j) j) (hX : Cross K) (hI : ∀ v v' row, I v → v.grownBy v' row → (∀ i, row = some i → (∃ j, j < 13 ∧ (K j).own i) ∨ base ≤ i) → I v') (hIb : ∀ v i u, I v → I (v.setCell ⟨B, i, none⟩ u)) (hn : kid0 K 13 ≤ 1000000) (w : World) (hb : base ≤ w.heap.size) (hz : ∀ j, j < 13 → (K j).Z w) (c0 : w.cell? ⟨B, 0, none⟩ = some (.int .i64 0)) (c1 : w.cell? ⟨B, 1, none⟩ = some (.int .i64 0)) (f1 : w.frozen? ⟨B, 1, none⟩ = false) (hi : I w) :
  Calls Tryz.prog 14 #[.pointer (some ⟨B, 0, none⟩)] w fun en w' => en = .returned (.bool true) ∧ I w' := by
 have hI1 : ∀ v v' row, (I v ∧ Bc v B) → v.grownBy v' row → (∀ i, row = some i → ∃ j, j < 13 ∧ (K j).own i) → (I v' ∧ Bc v' B) := fun v v' row h hg hr =>
  ⟨hI v v' row h.1 hg (fun i e => Or.inl (hr i e)), h.2.kept hg (fun e => by obtain ⟨j, hj, ho⟩ := hr B e.symm; exact (hK j hj).nB B ((hK j hj).sub B ho) rfl)⟩
 have HQ : Hid (∀ v v', v.grownBy v' none → I v → I v') := fun v v' g h => hI v v' none h g (by simp)
 have HK := hid_intro hK
 have HX := hid_intro hX
 have HI := hid_intro hI
 have HI1 := hid_intro hI1
 have HIB := hid_intro hIb
 have HZ := hid_intro hz
 have H0 := hid_intro hi
 have HC : Hid (Bc w B) := ⟨c0, ⟨_, c1⟩, f1⟩
 clear hK hX hI hIb hz hi hI1 c0 c1 f1
 go_enter Tryz.func14, Tryz.ntmps14
 go_wp2_with fail
 refine (kn_untouched HK.out w HZ.out).mono ?_
 rintro en w1 ⟨rfl, hg1, hz1⟩
 have W1 : Hid (Ws B base K (fun v => I v ∧ Bc v B) 0 0 w1 (fun _ _ => False)) := ⟨⟨HQ.out _ _ hg1 H0.out, HC.out.kept hg1 (by simp)⟩, Nat.le_trans hb hg1.size, fun i hi => by omega, fun i _ h2 => (HK.out i h2).zt _ (hz1 i h2), fun i hi => by omega, fun i i' hi => by omega⟩
 clear hg1 hz1 HZ H0 HC
 go_wp2_with fail
 refine (kn_write HK.out HX.out HI1.out hn 0 (by omega) w1 W1.out W1.out.inv.2.c0).mono ?_
 clear W1
 rintro en w2 ⟨rfl, S2, hw2⟩
 have W2 := hid_intro hw2
 clear hw2
 go_wp2_with fail
 refine (kn_holds HK.out hn S2 0 (by omega) w2 (fun j hj => W2.out.m j hj) W2.out.inv.2.c0).mono ?_
 rintro en w3 ⟨rfl, hg3⟩
 have W3 := hid_intro (W2.out.keptN HK.out (Nat.le_refl _) hg3 ⟨HQ.out _ _ hg3 W2.out.inv.1, W2.out.inv.2.kept hg3 (by simp)⟩)
 clear hg3 W2
 obtain ⟨u1, k1⟩ := W3.out.inv.2.c1
 have f1 := W3.out.inv.2.f1
 have W4 : Hid (Ws B base K (fun v => I v ∧ Bc v B) 0 1 (w3.setCell ⟨B, 1, none⟩ (.int .i64 1)) (fun _ _ => False)) := ⟨⟨HIB.out _ 1 _ W3.out.inv.1, W3.out.inv.2.set _⟩, by have := W3.out.sz; simpa using this, fun i hi => by omega, fun i _ h2 => (HK.out i h2).tPass _ _ _ ((HK.out i h2).mt _ _ _ _ (W3.out.m i h2)), fun i hi => by omega, fun i i' hi => by omega⟩
 clear W3
 go_wp2_with fail
 refine (kn_write HK.out HX.out HI1.out hn 1 (by omega) _ W4.out W4.out.inv.2.c0).mono ?_
 clear W4 k1 f1
 rintro en w5 ⟨rfl, S5, hw5⟩
 have W5 := hid_intro hw5
 clear hw5
 go_wp2_with fail
 refine (kn_holds HK.out hn S5 1 (by omega) w5 (fun j hj => W5.out.m j hj) W5.out.inv.2.c0).mono ?_
 rintro en w6 ⟨rfl, hg6⟩
 have W6 := hid_intro (W5.out.keptN HK.out (Nat.le_refl _) hg6 ⟨HQ.out _ _ hg6 W5.out.inv.1, W5.out.inv.2.kept hg6 (by simp)⟩)
 have G6 : Hid (Gw B base K I 0 0 w6 S5) := ⟨W6.out.inv.1, W6.out.inv.2.c0, W6.out.sz, fun i hi => by omega, fun i _ h2 => (HK.out i h2).mg _ _ _ (W6.out.m i h2) W6.out.sz (W6.out.sb i h2), fun i h2 => W6.out.sb i h2, fun i i' h2 h3 => W6.out.di i i' h2 h3⟩
 clear hg6 W5 W6
 go_wp2_with fail
 refine (kn_grow hBb HK.out HX.out HI.out HIB.out hn w6 G6.out).mono ?_
 clear G6
 rintro en w7 ⟨rfl, S7, hw7⟩
 have W7 := hid_intro hw7
 clear hw7
 go_wp2_with fail
 refine (kn_holdsG HK.out hn S7 w7 (fun j hj => W7.out.b j (Nat.zero_le _) hj) W7.out.c0).mono ?_
 rintro en w8 ⟨rfl, hg8⟩
 have I8 := hid_intro (HQ.out _ _ hg8 W7.out.inv)
 clear hg8 W7
 go_wp2
 go_ret
 exact ⟨rfl, I8.out⟩
end Go.Proofs.YthodgddoolbenaaGreatDoor
