import Derived.Test.YtgipnfbojnllnaaGreatDoorCrc3
import Derived.Test.YtgipnfbojnllnaaGreatDoorCrcT
import Derived.Lib.SlBytesConst
namespace Go.Proofs.YtgipnfbojnllnaaGreatDoor
open Go.RowKit

set_option maxHeartbeats 400000 in
theorem num2_any (n : Int) (w : World) : Calls Tryz.prog 18 #[.int .i64 n] w fun en w' => en = .returned (.int .i64 n) ∧ w' = w := by
  go_enter Tryz.func18, Tryz.ntmps18
  go_wp2
  go_ret
  exact ⟨rfl, rfl⟩

theorem bt_zeros (n : Nat) : Bt (List.replicate n 0) := by
  intro z hz
  rw [List.mem_replicate] at hz
  omega
theorem bt_digits : Bt [49, 50, 51, 52, 53, 54, 55, 56, 57] := by intro z hz; simp at hz; omega
theorem bt_wood : Bt [32, 119, 111, 111, 100] := by intro z hz; simp at hz; omega
theorem bt_low4 (s : Nat) : Bt (low4 s) := low4_bts s

/-- A literal slice of bytes, marked. -/
theorem Byt.litF (w : World) (e : TypeId) (cs : Array Value) (fr : Nat × Nat) (zs : List Int) (n : Nat) (hn : n = zs.length) (h : cs = (zs.map (Value.int .u8)).toArray) : Byt (w.alloc (.cells cs e fr)) (some ⟨w.heap.size, 0, none⟩) n n zs := by
  subst h hn
  refine Byt.of_cells rfl fun i hi => ?_
  rw [Nat.zero_add]
  have := cell_of_row (w.alloc (.cells (zs.map (Value.int .u8)).toArray e fr)) w.heap.size i _ e fr (heap_alloc_new w _)
  rw [this]
  simp [List.getD, List.getElem?_eq_getElem hi]

set_option maxHeartbeats 2000000 in
set_option maxRecDepth 100000 in
/-- The fixed sums and page: true; nothing old is written on. -/
theorem first2_any (w : World) (ht : Tab w) : Calls Tryz.prog 15 #[] w fun en w' => en = .returned (.bool true) ∧ w.grownBy w' none := by
  obtain ⟨i0, hi, hz0, hz1, hz2⟩ := info_parts info_u8
  have HT := hid_intro ht
  clear ht
  have hconv := fun (W : World) (C : Array Value) (n c : Nat) => Lib.run_convert_bytes_const (P := Tryz.prog) W 22 5 C n c Tryz.underlying22 Tryz.underlying5
  go_enter Tryz.func15, Tryz.ntmps15
  go_wp2_with fail
  refine (sum_any _ 9 9 [49, 50, 51, 52, 53, 54, 55, 56, 57] _ (Byt.litF w 5 _ _ _ 9 rfl rfl) bt_digits (HT.out.keptN (World.grownBy_alloc w _ none)) (by omega)).mono ?_
  rintro en w1 ⟨rfl, hw1⟩
  rw [sum_digits]
  have G1 : Hid (w.grownBy w1 none) := by rw [hw1]; exact World.grownBy_alloc w _ none
  clear hw1
  go_wp2_with fail
  refine (update_any 2020813254 _ 5 5 [32, 119, 111, 111, 100] _ (by decide) (Byt.litF w1 5 _ _ _ 5 rfl rfl) bt_wood (HT.out.keptN (grown_trans G1.out (World.grownBy_alloc w1 _ none))) (by omega)).mono ?_
  rintro en w2 ⟨rfl, hw2⟩
  rw [sum_wood]
  have G2 : Hid (w.grownBy w2 none) := by rw [hw2]; exact grown_trans G1.out (World.grownBy_alloc w1 _ none)
  clear hw2 G1
  go_wp2_with (at_make; refine wpList_make_full _ rfl _ _ 22 rfl w2.heap.size 5 i0 (.int .u8 0) 1 Tryz.underlying22 hi hz0 hz1 _ _ _ _ 4092 rfl rfl rfl rfl (by rw [hz2]; omega) (by unfold maxLen; omega) (Nat.le_refl _) ?_)
  intro w3 hown3 hg3
  have R3 : Hid (Rw w3 w2.heap.size (List.replicate 4092 0)) := by rw [made] at hown3; exact Rw.of_owns hown3
  have G3 := hid_intro (grown_trans G2.out hg3)
  clear hown3 hg3 G2
  go_wp2_with fail
  refine (seal_ok _ 4092 (List.replicate 4092 0) _ (R3.out.all 4092 4092 List.length_replicate.symm) (bt_zeros _) (HT.out.keptN G3.out)).mono ?_
  rintro en w4 ⟨rfl, hr4, hg4⟩
  rw [sum_zeros, low_zeros] at hr4
  have R4 := hid_intro hr4
  have G4 := hid_intro (grown_trans G3.out hg4)
  clear hr4 hg4 R3
  go_wp2_with fail
  refine (num2_any _ _).mono ?_
  rintro en w5 ⟨rfl, rfl⟩
  go_wp2_with fail
  have hl4 : (List.replicate 4092 (0 : Int) ++ [137, 4, 59, 96]).length = 4096 := by rw [List.length_append, List.length_replicate]; rfl
  have hd4 : (List.replicate 4092 (0 : Int) ++ [137, 4, 59, 96]).drop 4092 = [137, 4, 59, 96] := List.drop_left' List.length_replicate
  have ht4 : (List.replicate 4092 (0 : Int) ++ [137, 4, 59, 96]).take 4092 = List.replicate 4092 0 := List.take_left' List.length_replicate
  have hb4 : Bt (List.replicate 4092 (0 : Int) ++ [137, 4, 59, 96]) := (bt_zeros _).app (by intro z hz; simp at hz; omega)
  generalize hZ : List.replicate 4092 (0 : Int) ++ [137, 4, 59, 96] = zs at *
  refine (same_yes _ _ 4 4 4 4 [137, 4, 59, 96] [137, 4, 59, 96] _ (by have := (R4.out.byt 4092 4 4 (by omega)).keptN (World.grownBy_alloc w5 (.cells #[.int .u8 137, .int .u8 4, .int .u8 59, .int .u8 96] 5 (0, 0)) none); rw [hd4] at this; exact this) (Byt.lit w5 5 _ [137, 4, 59, 96] 4 rfl rfl) rfl).mono ?_
  rintro en w6 ⟨rfl, hw6⟩
  have G6 : Hid (w.grownBy w6 none) := by rw [hw6]; exact grown_trans G4.out (World.grownBy_alloc w5 _ none)
  have R6 : Hid (Rw w6 w3.heap.size zs) := by rw [hw6]; exact R4.out.keptN (World.grownBy_alloc w5 _ none)
  clear hw6 R4 G4
  go_wp2_with fail
  refine (open_yes _ 4096 zs _ (R6.out.all 4096 4096 hl4.symm) hb4 (HT.out.keptN G6.out) (by omega) (by rw [hd4, ht4, sum_zeros, low_zeros])).mono ?_
  rintro en w7 ⟨g7, rfl, hr7, hs7, hg7⟩
  have G7 := hid_intro (grown_trans G6.out hg7)
  clear hr7 hg7 R6 G6
  go_wp2_with (at_make; refine wpList_make_full _ rfl _ _ 22 rfl w7.heap.size 5 i0 (.int .u8 0) 1 Tryz.underlying22 hi hz0 hz1 _ _ _ _ 4096 rfl rfl rfl rfl (by rw [hz2]; omega) (by unfold maxLen; omega) (Nat.le_refl _) ?_)
  intro w8 hown8 hg8
  have R8 : Hid (Rw w8 w7.heap.size (List.replicate 4096 0)) := by rw [made] at hown8; exact Rw.of_owns hown8
  have G8 := hid_intro (grown_trans G7.out hg8)
  clear hown8 hg8 G7
  go_wp2_with fail
  refine (open_no _ 4096 (List.replicate 4096 0) _ (R8.out.all 4096 4096 List.length_replicate.symm) (bt_zeros _) (HT.out.keptN G8.out) (by omega) (by rw [List.take_replicate, List.drop_replicate, show min 4092 4096 = 4092 by decide, sum_zeros, low_zeros]; decide)).mono ?_
  rintro en w9 ⟨rfl, hg9⟩
  have G9 := hid_intro (grown_trans G8.out hg9)
  clear hg9 G8 R8
  go_wp2_with fail
  refine (num2_any _ _).mono ?_
  rintro en w10 ⟨rfl, rfl⟩
  go_wp2_with fail
  refine (num2_any _ _).mono ?_
  rintro en w11 ⟨rfl, rfl⟩
  go_wp2
  go_ret
  exact ⟨rfl, G9.out⟩
end Go.Proofs.YtgipnfbojnllnaaGreatDoor
