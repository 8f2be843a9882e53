import Derived.Test.YtlhjociijkhimaaGreatDoorMeT
namespace Go.Proofs.YtlhjociijkhimaaGreatDoor
open Go.RowKit

set_option maxHeartbeats 4000000 in
set_option maxRecDepth 100000 in
theorem first7_any (w : World) (hk : Mk w) : Calls Tryz.prog 4 #[] w fun en w' => en = .returned (.bool true) ∧ w.grownBy w' none := by
  have HK := hid_intro hk
  clear hk
  obtain ⟨M, hM⟩ : ∃ M, M = mB ⟨258, 300, 7, 2, 1000, 299, 3⟩ := ⟨_, rfl⟩
  have HM := hid_intro hM
  have ML : Hid (M.length = 4092) := by show _ = _; rw [hM]; exact mB_len _
  have MT : Hid (M.take 37 = [5, 99, 111, 112, 2, 1, 0, 0, 0, 0, 0, 0, 44, 1, 0, 0, 7, 0, 0, 0, 2, 232, 3, 0, 0, 0, 0, 0, 0, 43, 1, 0, 0, 3, 0, 0, 0]) := by show _ = _; rw [hM]; exact f_body
  have MD : Hid (M.drop 4087 = [0, 101, 110, 100, 46]) := by show _ = _; rw [hM]; exact f_end
  have MB : Hid (aH M = ⟨258, 300, 7, 2, 1000, 299, 3⟩ ∧ aE M = 0) := by show _ ∧ _; rw [hM]; exact f_back
  have MBT : Hid (Bt M) := by show Bt M; rw [hM]; exact mB_bt _
  clear hM
  go_enter Tryz.func4, Tryz.ntmps4
  go_upto_region 2 with fail
  have X1 := hid_intro (Hx.new w 258 300 7 2 1000 299 3)
  have G1 := hid_intro (World.grownBy_alloc w (.cells #[.int .i64 258, .int .i64 300, .int .i64 7, .int .i64 2, .int .i64 1000, .int .i64 299, .int .i64 3] 23) none)
  generalize w.alloc (.cells #[.int .i64 258, .int .i64 300, .int .i64 7, .int .i64 2, .int .i64 1000, .int .i64 299, .int .i64 3] 23) = w1 at *
  obtain ⟨c0, c1, c2, c3, c4, c5, c6⟩ := X1.out.cells
  go_wp2_with fail
  refine (encode_ok 258 300 7 2 1000 299 3 _ f_may (HK.out.keptN G1.out)).mono ?_
  rw [← HM.out]
  rintro en w2 ⟨g, rfl, hr2, hs2, hg2⟩
  have R2 := hid_intro hr2
  have X2 := hid_intro (X1.out.keptN hg2)
  have G2 := hid_intro (grown_trans G1.out hg2)
  clear hr2 hs2 hg2 X1 G1 c0 c1 c2 c3 c4 c5 c6
  go_upto_region 4 with fail
  have B3 := hid_intro (Byt.lit w2 5 #[.int .u8 5, .int .u8 99, .int .u8 111, .int .u8 112, .int .u8 2, .int .u8 1, .int .u8 0, .int .u8 0, .int .u8 0, .int .u8 0, .int .u8 0, .int .u8 0, .int .u8 44, .int .u8 1, .int .u8 0, .int .u8 0, .int .u8 7, .int .u8 0, .int .u8 0, .int .u8 0, .int .u8 2, .int .u8 232, .int .u8 3, .int .u8 0, .int .u8 0, .int .u8 0, .int .u8 0, .int .u8 0, .int .u8 0, .int .u8 43, .int .u8 1, .int .u8 0, .int .u8 0, .int .u8 3, .int .u8 0, .int .u8 0, .int .u8 0] [5, 99, 111, 112, 2, 1, 0, 0, 0, 0, 0, 0, 44, 1, 0, 0, 7, 0, 0, 0, 2, 232, 3, 0, 0, 0, 0, 0, 0, 43, 1, 0, 0, 3, 0, 0, 0] 37 rfl rfl)
  have gg := World.grownBy_alloc w2 (.cells #[.int .u8 5, .int .u8 99, .int .u8 111, .int .u8 112, .int .u8 2, .int .u8 1, .int .u8 0, .int .u8 0, .int .u8 0, .int .u8 0, .int .u8 0, .int .u8 0, .int .u8 44, .int .u8 1, .int .u8 0, .int .u8 0, .int .u8 7, .int .u8 0, .int .u8 0, .int .u8 0, .int .u8 2, .int .u8 232, .int .u8 3, .int .u8 0, .int .u8 0, .int .u8 0, .int .u8 0, .int .u8 0, .int .u8 0, .int .u8 43, .int .u8 1, .int .u8 0, .int .u8 0, .int .u8 3, .int .u8 0, .int .u8 0, .int .u8 0] 5) none
  have R3 := hid_intro (R2.out.keptN gg)
  have X3 := hid_intro (X2.out.keptN gg)
  have G3 := hid_intro (grown_trans G2.out gg)
  have P3 : Hid (Byt (w2.alloc (.cells #[.int .u8 5, .int .u8 99, .int .u8 111, .int .u8 112, .int .u8 2, .int .u8 1, .int .u8 0, .int .u8 0, .int .u8 0, .int .u8 0, .int .u8 0, .int .u8 0, .int .u8 44, .int .u8 1, .int .u8 0, .int .u8 0, .int .u8 7, .int .u8 0, .int .u8 0, .int .u8 0, .int .u8 2, .int .u8 232, .int .u8 3, .int .u8 0, .int .u8 0, .int .u8 0, .int .u8 0, .int .u8 0, .int .u8 0, .int .u8 43, .int .u8 1, .int .u8 0, .int .u8 0, .int .u8 3, .int .u8 0, .int .u8 0, .int .u8 0] 5)) (some ⟨g, 0, none⟩) 37 4092 [5, 99, 111, 112, 2, 1, 0, 0, 0, 0, 0, 0, 44, 1, 0, 0, 7, 0, 0, 0, 2, 232, 3, 0, 0, 0, 0, 0, 0, 43, 1, 0, 0, 3, 0, 0, 0]) := by
    have := (R2.out.keptN gg).byt 0 37 4092 (by rw [ML.out]; omega)
    rw [List.drop_zero, MT.out] at this
    exact this
  clear gg R2 X2 G2
  generalize w2.alloc (.cells #[.int .u8 5, .int .u8 99, .int .u8 111, .int .u8 112, .int .u8 2, .int .u8 1, .int .u8 0, .int .u8 0, .int .u8 0, .int .u8 0, .int .u8 0, .int .u8 0, .int .u8 44, .int .u8 1, .int .u8 0, .int .u8 0, .int .u8 7, .int .u8 0, .int .u8 0, .int .u8 0, .int .u8 2, .int .u8 232, .int .u8 3, .int .u8 0, .int .u8 0, .int .u8 0, .int .u8 0, .int .u8 0, .int .u8 0, .int .u8 43, .int .u8 1, .int .u8 0, .int .u8 0, .int .u8 3, .int .u8 0, .int .u8 0, .int .u8 0] 5) = w3 at *
  generalize w2.heap.size = l3 at *
  go_wp2_with fail
  refine (num7_any _ _).mono ?_
  rintro en w3 ⟨rfl, rfl⟩
  go_wp2_with fail
  refine (same_yes _ _ 37 37 4092 37 _ _ _ P3.out B3.out rfl).mono ?_
  rintro en w3 ⟨rfl, rfl⟩
  clear P3 B3
  go_wp2_with fail
  have B4 := hid_intro (Byt.lit w3 5 #[.int .u8 0, .int .u8 101, .int .u8 110, .int .u8 100, .int .u8 46] [0, 101, 110, 100, 46] 5 rfl rfl)
  have gg := World.grownBy_alloc w3 (.cells #[.int .u8 0, .int .u8 101, .int .u8 110, .int .u8 100, .int .u8 46] 5) none
  have R4 := hid_intro (R3.out.keptN gg)
  have X4 := hid_intro (X3.out.keptN gg)
  have G4 := hid_intro (grown_trans G3.out gg)
  have P4 : Hid (Byt (w3.alloc (.cells #[.int .u8 0, .int .u8 101, .int .u8 110, .int .u8 100, .int .u8 46] 5)) (some ⟨g, 4087, none⟩) 5 5 [0, 101, 110, 100, 46]) := by
    have := (R3.out.keptN gg).byt 4087 5 5 (by rw [ML.out]; omega)
    rw [MD.out] at this
    exact this
  clear gg R3 X3 G3
  generalize w3.alloc (.cells #[.int .u8 0, .int .u8 101, .int .u8 110, .int .u8 100, .int .u8 46] 5) = w4 at *
  generalize w3.heap.size = l4 at *
  refine (same_yes _ _ 5 5 5 5 _ _ _ P4.out B4.out rfl).mono ?_
  rintro en w4 ⟨rfl, rfl⟩
  clear P4 B4
  go_wp2_with fail
  refine (decode_any _ 4092 4092 M _ (R4.out.all 4092 4092 ML.out.symm) MBT.out (HK.out.keptN G4.out)).mono ?_
  rw [MB.out.1, MB.out.2]
  rintro en w5 ⟨rfl, hg5⟩
  have X5 := hid_intro (X4.out.keptN hg5)
  have G5 := hid_intro (grown_trans G4.out hg5)
  clear hg5 X4 G4 R4
  go_upto_region 9 with fail
  have Y6 := hid_intro (Hx.new w5 258 300 7 2 1000 299 3)
  have gg := World.grownBy_alloc w5 (.cells #[.int .i64 258, .int .i64 300, .int .i64 7, .int .i64 2, .int .i64 1000, .int .i64 299, .int .i64 3] 23) none
  have X6 := hid_intro (X5.out.keptN gg)
  have G6 := hid_intro (grown_trans G5.out gg)
  clear gg X5 G5
  generalize w5.alloc (.cells #[.int .i64 258, .int .i64 300, .int .i64 7, .int .i64 2, .int .i64 1000, .int .i64 299, .int .i64 3] 23) = w6 at *
  generalize w5.heap.size = l6 at *
  obtain ⟨c0, c1, c2, c3, c4, c5, c6⟩ := X6.out.cells
  obtain ⟨d0, d1, d2, d3, d4, d5, d6⟩ := Y6.out.cells
  go_wp2_with fail
  refine (sameHead_yes 258 300 7 2 1000 299 3 _).mono ?_
  rintro en w7 ⟨rfl, hg7⟩
  have G7 := hid_intro (grown_trans G6.out hg7)
  clear hg7 X6 Y6 G6 c0 c1 c2 c3 c4 c5 c6 d0 d1 d2 d3 d4 d5 d6
  go_wp2_with fail
  refine (encode_no 0 0 0 0 0 0 0 _ f_zero).mono ?_
  rintro en w8 ⟨rfl, hg8⟩
  have G8 := hid_intro (grown_trans G7.out hg8)
  clear hg8 G7
  go_wp2_with fail
  refine (num7_any _ _).mono ?_
  rintro en w8 ⟨rfl, rfl⟩
  go_wp2_with fail
  refine (num7_any _ _).mono ?_
  rintro en w8 ⟨rfl, rfl⟩
  go_wp2_with fail
  refine (newer_any 4 0 0 0 0 0 0 5 0 0 0 0 0 0 true true _).mono ?_
  rw [f_newer]
  rintro en w9 ⟨rfl, hg9⟩
  have G9 := hid_intro (grown_trans G8.out hg9)
  clear hg9 G8
  go_wp2
  go_ret
  exact ⟨rfl, G9.out⟩
end Go.Proofs.YtlhjociijkhimaaGreatDoor
