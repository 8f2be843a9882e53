import Derived.Test.YtmbbflfknldaoaaGreatDoorQ13
import Derived.Test.YtmbbflfknldaoaaGreatDoorQ40
namespace Go.Proofs.YtmbbflfknldaoaaGreatDoor
open Go.RowKit
def abc : List Int := [97, 98, 99]
def l25 : List Int := [2, 5, 300]
theorem f_e1 : eD 0 3 = 0 := by decide
theorem f_e2 : eL 0 l25 = 0 := by decide
theorem f_d : oD 0 abc = dB 0 abc := oD_yes f_e1
theorem f_l : oL 0 l25 = lB 0 l25 := oL_yes f_e2
theorem f_dt : (dB 0 abc).take 11 = [3, 0, 0, 0, 0, 3, 0, 97, 98, 99, 0] := by
 unfold dB
 rw [← List.append_assoc, List.take_append, List.take_of_length_le (by decide), List.take_replicate]
 decide
theorem f_lt : (lB 0 l25).take 19 = [4, 0, 0, 0, 0, 3, 0, 2, 0, 0, 0, 5, 0, 0, 0, 44, 1, 0, 0] := by
 unfold lB
 rw [← List.append_assoc, List.take_append, List.take_of_length_le (by decide)]
 decide
theorem f6_back : vN (dB 0 abc) = 0 ∧ vD (dB 0 abc) = abc ∧ vE (dB 0 abc) = 0 := by
 obtain ⟨h1, h2, h3⟩ := dD_dB (x := 0) (zs := abc) f_e1
 obtain ⟨k1, k2, k3⟩ := v_yes h1
 exact ⟨by rw [k1, h2]; rfl, by rw [k2, h3], k3⟩
theorem f_bt : Bt abc := btl _ rfl
theorem f_dl : (dB 0 abc).length = 4092 := dB_len (by decide)
theorem f_ll : (lB 0 l25).length = 4092 := lB_len (by decide)
theorem f_p1 : pgI 513 = 1 := by decide
theorem f_p2 : pgI 512 = 0 := by decide
theorem Nt.lit (w : World) (e : TypeId) (cs : Array Value) (xs : List Int) (h : cs = (xs.map (Value.int .i64)).toArray) : Nt (w.alloc (.cells cs e)) (some ⟨w.heap.size, 0, none⟩) xs := by
 subst h
 refine ⟨fun i hi => ⟨_, 0, rfl, ?_⟩⟩
 rw [Nat.zero_add, cell_of_row (w.alloc (.cells (xs.map (Value.int .i64)).toArray e)) w.heap.size i _ e (0, 0) (heap_alloc_new w _)]
 simp [List.getD, List.getElem?_eq_getElem hi]
set_option maxHeartbeats 2000000 in
set_option maxRecDepth 100000 in
theorem first6_any (w : World) : Calls Tryz.prog 4 #[] w fun en w' => en = .returned (.bool true) ∧ w.grownBy w' none := by
 have v1 := fun (W : World) (C : Array Value) (n c : Nat) => conv_at W C n c _ rfl
 go_enter Tryz.func4, Tryz.ntmps4
 go_wp2_with fail
 have B0 := hid_intro (Byt.litK w 5 #[.int .u8 97, .int .u8 98, .int .u8 99] (3, 4) abc 3 w.heap.size rfl rfl rfl)
 have G0 := hid_intro (World.grownBy_alloc w (.cells #[.int .u8 97, .int .u8 98, .int .u8 99] 5 (3, 4)) none)
 generalize w.alloc (.cells #[.int .u8 97, .int .u8 98, .int .u8 99] 5 (3, 4)) = w0 at *
 refine (encodeData_any 0 _ 3 3 abc _ B0.out (by omega)).mono ?_
 rintro en w1 ⟨bo, m, rfl, hb1, hr1, hg1⟩
 rw [f_d] at hb1 hr1
 obtain rfl : m = 4092 := by rw [← hb1.len]; exact f_dl
 obtain ⟨g, rfl, hx1, hr1⟩ := hr1 (by omega)
 clear hx1
 rw [f_e1]
 have R1 := hid_intro hr1
 have G1 := hid_intro (grown_trans G0.out hg1)
 clear hb1 hr1 hg1 B0 G0
 go_wp2_with fail
 refine (decodeData_any _ 4092 4092 (dB 0 abc) _ (R1.out.all 4092 4092 f_dl.symm) (dB_bt f_bt)).mono ?_
 rw [f6_back.1, f6_back.2.1, f6_back.2.2]
 rintro en w2 ⟨bo, m, rfl, hb2, hx2, hg2⟩
 clear hx2
 obtain rfl : m = 3 := by rw [← hb2.len]; rfl
 have R2 := hid_intro (R1.out.keptN hg2)
 have G2 := hid_intro (grown_trans G1.out hg2)
 have B2 := hid_intro hb2
 clear hb2 hg2 R1 G1
 go_wp2_with fail
 have B3 := hid_intro (Byt.litK w2 5 #[.int .u8 97, .int .u8 98, .int .u8 99] (3, 4) abc 3 w2.heap.size rfl rfl rfl)
 have gg := World.grownBy_alloc w2 (.cells #[.int .u8 97, .int .u8 98, .int .u8 99] 5 (3, 4)) none
 have G3 := hid_intro (grown_trans G2.out gg)
 have R3 := hid_intro (R2.out.keptN gg)
 have C3 := hid_intro (B2.out.keptN gg)
 clear gg R2 G2 B2
 generalize w2.alloc (.cells #[.int .u8 97, .int .u8 98, .int .u8 99] 5 (3, 4)) = w3 at *
 refine (same_yes _ _ 3 3 3 3 abc abc _ C3.out B3.out rfl).mono ?_
 rintro en w3 ⟨rfl, rfl⟩
 clear C3 B3
 go_wp2_with fail
 have N4 := hid_intro (Nt.lit w3 3 #[.int .i64 2, .int .i64 5, .int .i64 300] l25 rfl)
 have gg := World.grownBy_alloc w3 (.cells #[.int .i64 2, .int .i64 5, .int .i64 300] 3) none
 have G4 := hid_intro (grown_trans G3.out gg)
 have R4 := hid_intro (R3.out.keptN gg)
 clear gg R3 G3
 generalize w3.alloc (.cells #[.int .i64 2, .int .i64 5, .int .i64 300] 3) = w4 at *
 refine (encodeList_any 0 _ 3 3 l25 _ N4.out rfl (by omega)).mono ?_
 rintro en w5 ⟨bo2, m, rfl, hb5, hr5, hg5⟩
 rw [f_l] at hb5 hr5
 obtain rfl : m = 4092 := by rw [← hb5.len]; exact f_ll
 obtain ⟨g2, rfl, hx5, hr5⟩ := hr5 (by omega)
 clear hx5
 rw [f_e2]
 have S5 := hid_intro hr5
 have R5 := hid_intro (R4.out.keptN hg5)
 have G5 := hid_intro (grown_trans G4.out hg5)
 clear hb5 hr5 hg5 R4 G4 N4
 go_wp2_with fail
 refine (num6_any _ _).mono ?_
 rintro en w5 ⟨rfl, rfl⟩
 go_wp2_with fail
 refine (num6_any _ _).mono ?_
 rintro en w5 ⟨rfl, rfl⟩
 go_wp2_with fail
 refine (num6_any _ _).mono ?_
 rintro en w5 ⟨rfl, rfl⟩
 go_wp2_with fail
 have B6 := hid_intro (Byt.lit w5 5 #[.int .u8 3, .int .u8 0, .int .u8 0, .int .u8 0, .int .u8 0, .int .u8 3, .int .u8 0, .int .u8 97, .int .u8 98, .int .u8 99, .int .u8 0] [3, 0, 0, 0, 0, 3, 0, 97, 98, 99, 0] 11 rfl rfl)
 have gg := World.grownBy_alloc w5 (.cells #[.int .u8 3, .int .u8 0, .int .u8 0, .int .u8 0, .int .u8 0, .int .u8 3, .int .u8 0, .int .u8 97, .int .u8 98, .int .u8 99, .int .u8 0] 5) none
 have G6 := hid_intro (grown_trans G5.out gg)
 have S6 := hid_intro (S5.out.keptN gg)
 have X6 : Hid (Byt (w5.alloc (.cells #[.int .u8 3, .int .u8 0, .int .u8 0, .int .u8 0, .int .u8 0, .int .u8 3, .int .u8 0, .int .u8 97, .int .u8 98, .int .u8 99, .int .u8 0] 5)) (some ⟨g, 0, none⟩) 11 4092 [3, 0, 0, 0, 0, 3, 0, 97, 98, 99, 0]) := by
  have := (R5.out.keptN gg).byt 0 11 4092 (by rw [f_dl]; omega)
  rw [List.drop_zero, f_dt] at this
  exact this
 clear gg R5 S5 G5
 generalize w5.alloc (.cells #[.int .u8 3, .int .u8 0, .int .u8 0, .int .u8 0, .int .u8 0, .int .u8 3, .int .u8 0, .int .u8 97, .int .u8 98, .int .u8 99, .int .u8 0] 5) = w6 at *
 refine (same_yes _ _ 11 11 4092 11 _ _ _ X6.out B6.out rfl).mono ?_
 rintro en w6 ⟨rfl, rfl⟩
 clear X6 B6
 go_wp2_with fail
 have B7 := hid_intro (Byt.lit w6 5 #[.int .u8 4, .int .u8 0, .int .u8 0, .int .u8 0, .int .u8 0, .int .u8 3, .int .u8 0, .int .u8 2, .int .u8 0, .int .u8 0, .int .u8 0, .int .u8 5, .int .u8 0, .int .u8 0, .int .u8 0, .int .u8 44, .int .u8 1, .int .u8 0, .int .u8 0] [4, 0, 0, 0, 0, 3, 0, 2, 0, 0, 0, 5, 0, 0, 0, 44, 1, 0, 0] 19 rfl rfl)
 have gg := World.grownBy_alloc w6 (.cells #[.int .u8 4, .int .u8 0, .int .u8 0, .int .u8 0, .int .u8 0, .int .u8 3, .int .u8 0, .int .u8 2, .int .u8 0, .int .u8 0, .int .u8 0, .int .u8 5, .int .u8 0, .int .u8 0, .int .u8 0, .int .u8 44, .int .u8 1, .int .u8 0, .int .u8 0] 5) none
 have G7 := hid_intro (grown_trans G6.out gg)
 have X7 : Hid (Byt (w6.alloc (.cells #[.int .u8 4, .int .u8 0, .int .u8 0, .int .u8 0, .int .u8 0, .int .u8 3, .int .u8 0, .int .u8 2, .int .u8 0, .int .u8 0, .int .u8 0, .int .u8 5, .int .u8 0, .int .u8 0, .int .u8 0, .int .u8 44, .int .u8 1, .int .u8 0, .int .u8 0] 5)) (some ⟨g2, 0, none⟩) 19 4092 [4, 0, 0, 0, 0, 3, 0, 2, 0, 0, 0, 5, 0, 0, 0, 44, 1, 0, 0]) := by
  have := (S6.out.keptN gg).byt 0 19 4092 (by rw [f_ll]; omega)
  rw [List.drop_zero, f_lt] at this
  exact this
 clear gg S6 G6
 generalize w6.alloc (.cells #[.int .u8 4, .int .u8 0, .int .u8 0, .int .u8 0, .int .u8 0, .int .u8 3, .int .u8 0, .int .u8 2, .int .u8 0, .int .u8 0, .int .u8 0, .int .u8 5, .int .u8 0, .int .u8 0, .int .u8 0, .int .u8 44, .int .u8 1, .int .u8 0, .int .u8 0] 5) = w7 at *
 refine (same_yes _ _ 19 19 4092 19 _ _ _ X7.out B7.out rfl).mono ?_
 rintro en w7 ⟨rfl, rfl⟩
 clear X7 B7
 go_wp2_with fail
 refine (pages_any 513 _).mono ?_
 rintro en w7 ⟨rfl, rfl⟩
 rw [f_p1]
 go_wp2_with fail
 refine (pages_any 512 _).mono ?_
 rintro en w7 ⟨rfl, rfl⟩
 rw [f_p2]
 go_wp2
 go_ret
 exact ⟨rfl, G7.out⟩
end Go.Proofs.YtmbbflfknldaoaaGreatDoor
