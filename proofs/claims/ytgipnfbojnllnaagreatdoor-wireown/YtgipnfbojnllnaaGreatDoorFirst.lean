import Derived.Test.YtgipnfbojnllnaaGreatDoorPut2
import Derived.Test.YtgipnfbojnllnaaGreatDoorGet
import Derived.Test.YtgipnfbojnllnaaGreatDoorSame
namespace Go.Proofs.YtgipnfbojnllnaaGreatDoor
open Go.RowKit

theorem ret_true {b : Bool} (h : b = true) : Ending.returned (.bool b) = .returned (.bool true) := by rw [h]

theorem lb_258 : ([7] : List Int) ++ lb 2 258 = [7, 2, 1] := by decide
theorem vf_1201 : vform 1201 = [177, 9] := by decide
theorem rv_first : rv (([2, 1, 177, 9, 3, 4, 5] : List Int).drop (0 + 2)) = (1201, 2, 0) := by decide
theorem le_first : le 2 (([2, 1, 177, 9, 3, 4, 5] : List Int).drop 0) = 258 := by decide
theorem bt_first : Bt [2, 1, 177, 9, 3, 4, 5] := by intro z h; simp at h; omega

theorem grown_new {a b c : World} {R : Nat} (h : a.grownBy b none) (k : b.grownBy c (some R)) (hR : a.heap.size ≤ R) : a.grownBy c none :=
  ⟨k.os.trans h.os, k.tape.trans h.tape, k.output.trans h.output, Nat.le_trans h.size k.size,
    fun i hi _ => (k.block i (Nat.lt_of_lt_of_le hi h.size) (by intro e; have := Option.some.inj e; omega)).trans (h.block i hi (by simp))⟩

set_option maxHeartbeats 2000000 in
set_option maxRecDepth 100000 in
/-- The fixed numbers: true; nothing old is written on. -/
theorem first_any (w : World) : Calls Tryz.prog 5 #[] w fun en w' => en = .returned (.bool true) ∧ w.grownBy w' none := by
  go_enter Tryz.func5, Tryz.ntmps5
  go_wp2_with fail
  refine (put_u16 _ 1 1 [7] 258 _ (Byt.lit w 5 _ [7] 1 rfl rfl) (by omega) (by omega)).mono ?_
  rintro en w1 ⟨rfl, hown1, hg1, hs1⟩
  rw [lb_258] at hown1
  have G1 : Hid (w.grownBy w1 none) := grown_trans (World.grownBy_alloc w _ none) hg1
  have B1 : Hid (Byt w1 (some ⟨w.heap.size + 1, 0, none⟩) 3 3 [7, 2, 1]) := Byt.of_owns (by simpa using hown1)
  have S1 : w.heap.size + 1 < w1.heap.size := by simpa using hs1
  clear hown1 hg1 hs1
  go_wp2_with fail
  go_fit (putV_any (some ⟨w.heap.size + 1, 0, none⟩) 3 3 [7, 2, 1] 1201 w1 B1.out (by omega) (by omega))
  rintro en w2 ⟨rfl, hown2, hg2, hs2⟩
  rw [vf_1201] at hown2
  rw [vf_1201]
  have G2 : Hid (w.grownBy w2 none) := grown_trans G1.out hg2
  have B2 : Hid (Byt w2 (some ⟨w1.heap.size, 0, none⟩) 5 5 [7, 2, 1, 177, 9]) := Byt.of_owns (by simpa using hown2)
  clear hown2 hg2
  go_wp2_with fail
  refine (same_yes _ _ 5 5 5 5 [7, 2, 1, 177, 9] [7, 2, 1, 177, 9] _ (B2.out.keptN (World.grownBy_alloc w2 _ none)) (Byt.lit w2 5 _ [7, 2, 1, 177, 9] 5 rfl rfl) rfl).mono ?_
  rintro en w3 ⟨rfl, hw3⟩
  have G3 : Hid (w.grownBy w3 none) := by rw [hw3]; exact grown_trans G2.out (World.grownBy_alloc w2 _ none)
  have S3 : w2.heap.size < w3.heap.size := by rw [hw3]; simp
  clear hw3 B2
  go_wp2_with fail
  refine (newReader_any _ 7 7 [2, 1, 177, 9, 3, 4, 5] _ (Byt.lit w3 5 _ [2, 1, 177, 9, 3, 4, 5] 7 rfl rfl) (by omega)).mono ?_
  rintro en w4 ⟨R, rfl, hr4, hg4, hR⟩
  have G4 : Hid (w.grownBy w4 none) := grown_trans (grown_trans G3.out (World.grownBy_alloc w3 _ none)) hg4
  have R4 : Hid (Rd w4 R (w3.heap.size + 1) [2, 1, 177, 9, 3, 4, 5] 0 0) := by show Rd _ _ _ _ _ _; simpa using hr4
  have HR : w3.heap.size + 1 < R := by simpa using hR
  have HWR : Hid (w.heap.size ≤ R) := by have := G3.out.size; show w.heap.size ≤ R; omega
  clear hr4 hg4 hR
  go_wp2_with fail
  refine (vlen_calls 1201 _ (by omega)).mono ?_
  rintro en w5 ⟨rfl, rfl⟩
  rw [vf_1201]
  go_wp2_with fail
  refine (get_u16_ok R _ _ 0 _ R4.out bt_first (by decide)).mono ?_
  rintro en w6 ⟨rfl, hr6, hg6⟩
  rw [le_first]
  have G6 : Hid (w.grownBy w6 none) := grown_new G4.out hg6 HWR.out
  have R6 : Hid (Rd w6 R (w3.heap.size + 1) [2, 1, 177, 9, 3, 4, 5] (0 + 2) 0) := hr6
  clear hr6 hg6
  go_wp2_with fail
  refine (v_ok R _ _ (0 + 2) 1201 2 _ R6.out bt_first rv_first).mono ?_
  rintro en w7 ⟨rfl, hr7, hg7⟩
  have G7 : Hid (w.grownBy w7 none) := grown_new G6.out hg7 HWR.out
  have R7 : Hid (Rd w7 R (w3.heap.size + 1) [2, 1, 177, 9, 3, 4, 5] 4 0) := hr7
  clear hr7 hg7
  go_wp2_with fail
  refine (bytes_ok R _ _ 4 2 _ R7.out (by decide)).mono ?_
  rintro en w8 ⟨ao, rfl, hao, hby, hr8, hg8⟩
  obtain rfl := hao (by omega)
  have G8 : Hid (w.grownBy w8 none) := grown_new G7.out hg8 HWR.out
  have R8 : Hid (Rd w8 R (w3.heap.size + 1) [2, 1, 177, 9, 3, 4, 5] 6 0) := hr8
  have B8 : Hid (Byt w8 (some ⟨w3.heap.size + 1, 4, none⟩) 2 2 [3, 4]) := hby
  clear hao hby hr8 hg8
  go_wp2_with fail
  refine (left_whole R _ _ 6 _ R8.out).mono ?_
  rintro en w9 ⟨rfl, hq9⟩
  have G9 : Hid (w.grownBy w9 none) := grown_trans G8.out (hq9.grown none)
  have R9 : Hid (Rd w9 R (w3.heap.size + 1) [2, 1, 177, 9, 3, 4, 5] 6 0) := R8.out.qt hq9
  have B9 : Hid (Byt w9 (some ⟨w3.heap.size + 1, 4, none⟩) 2 2 [3, 4]) := B8.out.keptN (hq9.grown none)
  clear hq9
  go_wp2_with fail
  refine (get_u16_short R _ _ 6 _ R9.out (by decide)).mono ?_
  rintro en w10 ⟨rfl, hr10, hg10⟩
  have G10 : Hid (w.grownBy w10 none) := grown_new G9.out hg10 HWR.out
  have R10 : Hid (Rd w10 R (w3.heap.size + 1) [2, 1, 177, 9, 3, 4, 5] 6 10) := hr10
  have B10 : Hid (Byt w10 (some ⟨w3.heap.size + 1, 4, none⟩) 2 2 [3, 4]) := B9.out.kept hg10 (by intro ad had _ e; obtain rfl := Option.some.inj had; have := Option.some.inj e; simp at this; omega)
  clear hr10 hg10
  go_wp2_with fail
  refine (err_any R _ _ 6 10 _ R10.out).mono ?_
  rintro en w11 ⟨rfl, hq11⟩
  have G11 : Hid (w.grownBy w11 none) := grown_trans G10.out (hq11.grown none)
  have R11 : Hid (Rd w11 R (w3.heap.size + 1) [2, 1, 177, 9, 3, 4, 5] 6 10) := R10.out.qt hq11
  have B11 : Hid (Byt w11 (some ⟨w3.heap.size + 1, 4, none⟩) 2 2 [3, 4]) := B10.out.keptN (hq11.grown none)
  clear hq11
  have c0 : w11.cell? ⟨w3.heap.size + 1, 4, none⟩ = some (.int .u8 3) := by
    obtain ⟨b', off', e, _, hh⟩ := B11.out.at (by omega)
    simp at e; obtain ⟨rfl, rfl⟩ := e; exact hh 0 (by omega)
  have c1 : w11.cell? ⟨w3.heap.size + 1, 5, none⟩ = some (.int .u8 4) := by
    obtain ⟨b', off', e, _, hh⟩ := B11.out.at (by omega)
    simp at e; obtain ⟨rfl, rfl⟩ := e; exact hh 1 (by omega)
  go_wp2_with fail
  refine (num_any 10 _).mono ?_
  rintro en w12 ⟨rfl, rfl⟩
  go_wp2_with fail
  refine (left_broken R _ _ 6 10 _ R11.out rfl).mono ?_
  rintro en w13 ⟨rfl, hq13⟩
  have G13 : Hid (w.grownBy w13 none) := grown_trans G11.out (hq13.grown none)
  clear hq13
  go_wp2
  go_ret
  exact ⟨rfl, G13.out⟩
end Go.Proofs.YtgipnfbojnllnaaGreatDoor
