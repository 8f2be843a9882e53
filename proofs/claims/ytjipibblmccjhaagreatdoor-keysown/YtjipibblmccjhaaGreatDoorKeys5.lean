import Derived.Test.YtjipibblmccjhaaGreatDoorKeys4
import Derived.Lib.SlBytesConst
import Derived.Below
namespace Go.Proofs.YtjipibblmccjhaaGreatDoor
open Go.RowKit

/-- A literal slice of bytes, marked. -/
theorem Byt.litK (w : World) (e : TypeId) (cs : Array Value) (fr : Nat × Nat) (zs : List Int) (n k : Nat) (hn : n = zs.length) (h : cs = (zs.map (Value.int .u8)).toArray) (hk : k = w.heap.size) : Byt (w.alloc (.cells cs e fr)) (some ⟨k, 0, none⟩) n n zs := by
  subst h hn hk
  refine Byt.of_cells rfl fun i hi => ?_
  rw [Nat.zero_add]
  have := cell_of_row (w.alloc (.cells (zs.map (Value.int .u8)).toArray e fr)) w.heap.size i _ e fr (heap_alloc_new w _)
  rw [this]
  simp [List.getD, List.getElem?_eq_getElem hi]
theorem size_alloc (w : World) (o : Obj) : (w.alloc o).heap.size = w.heap.size + 1 := by simp
/-- One more literal behind it. -/
theorem Byt.on {w : World} {ao : Option Addr} {n cap : Nat} {zs : List Int} (h : Byt w ao n cap zs) (o : Obj) : Byt (w.alloc o) ao n cap zs := h.keptN (World.grownBy_alloc w o none)

theorem btl (zs : List Int) (h : (zs.all fun z => decide (0 ≤ z) && decide (z ≤ 255)) = true) : Bt zs := by
  intro z hz
  have := List.all_eq_true.1 h z hz
  simpa using this

/-- A literal list of strings. -/
theorem Lz.lit (w : World) (e : TypeId) (vs : Array Value) (L : List (List Int)) (k : Nat) (hk : k = w.heap.size) (h : ∀ i, i < L.length → ∃ ao n c, vs[i]? = some (.slice ao n c) ∧ Byt w ao n c (L.getD i []) ∧ n ≤ c ∧ c ≤ 9223372036854775807) : Lz (w.alloc (.cells vs e)) (some ⟨k, 0, none⟩) L := by
  subst hk
  refine ⟨fun i hi => ?_⟩
  obtain ⟨ao, n, c, h1, h2, h3, h4⟩ := h i hi
  exact ⟨_, _, ao, n, c, rfl, by rw [Nat.zero_add, cell_of_row (w.alloc (.cells vs e)) w.heap.size i _ e (0, 0) (heap_alloc_new w _)]; exact h1, h2.on _, h3, h4⟩
theorem Lz.lit3 (w : World) (e : TypeId) (a b c : Option Addr) (n m r x y z : Nat) (za zb zc : List Int) (k : Nat) (hk : k = w.heap.size) (ha : Byt w a n x za) (hb : Byt w b m y zb) (hc : Byt w c r z zc) (h1 : n ≤ x) (h2 : m ≤ y) (h3 : r ≤ z) (k1 : x ≤ 9223372036854775807) (k2 : y ≤ 9223372036854775807) (k3 : z ≤ 9223372036854775807) :
    Lz (w.alloc (.cells #[.slice a n x, .slice b m y, .slice c r z] e)) (some ⟨k, 0, none⟩) [za, zb, zc] := by
  refine Lz.lit w e _ _ k hk fun i hi => ?_
  match i, hi with
  | 0, _ => exact ⟨_, _, _, rfl, ha, h1, k1⟩
  | 1, _ => exact ⟨_, _, _, rfl, hb, h2, k2⟩
  | 2, _ => exact ⟨_, _, _, rfl, hc, h3, k3⟩
  | i + 3, h => exact absurd h (by simp)
theorem Lz.lit2 (w : World) (e : TypeId) (a b : Option Addr) (n m x y : Nat) (za zb : List Int) (k : Nat) (hk : k = w.heap.size) (ha : Byt w a n x za) (hb : Byt w b m y zb) (h1 : n ≤ x) (h2 : m ≤ y) (k1 : x ≤ 9223372036854775807) (k2 : y ≤ 9223372036854775807) :
    Lz (w.alloc (.cells #[.slice a n x, .slice b m y] e)) (some ⟨k, 0, none⟩) [za, zb] := by
  refine Lz.lit w e _ _ k hk fun i hi => ?_
  match i, hi with
  | 0, _ => exact ⟨_, _, _, rfl, ha, h1, k1⟩
  | 1, _ => exact ⟨_, _, _, rfl, hb, h2, k2⟩
  | i + 2, h => exact absurd h (by simp)

theorem conv_at (W : World) (C : Array Value) (n c k : Nat) (hk : k = W.heap.size) :
    (convert 40 40 (.slice (some ⟨k, 0, none⟩) n c)).run Tryz.prog (W.alloc (.cells C 5)) = .ok (.slice (some ⟨k, 0, none⟩) n c) (W.alloc (.cells C 5 (C.size, C.size + 1))) := by
  subst hk
  exact Lib.run_convert_bytes_const (P := Tryz.prog) W 40 5 C n c Tryz.underlying40 Tryz.underlying5

set_option maxHeartbeats 10000000 in
set_option maxRecDepth 100000 in
/-- The chapter's examples: true; nothing old is written on. -/
theorem first3_pos (w : World) : Calls Tryz.prog 4 #[] w fun en w' => en = .returned (.bool true) ∧ w.grownBy w' none ∧ 0 < w'.heap.size := by
  have v1 := fun (W : World) (C : Array Value) (n c : Nat) => conv_at W C n c _ rfl
  have v2 := fun (W : World) (o : Obj) (C : Array Value) (n c : Nat) => conv_at (W.alloc o) C n c (W.heap.size + 1) (size_alloc W o).symm
  have v3 := fun (W : World) (o p : Obj) (C : Array Value) (n c : Nat) => conv_at ((W.alloc o).alloc p) C n c (W.heap.size + 2) (by rw [size_alloc, size_alloc])
  go_enter Tryz.func4, Tryz.ntmps4
  go_wp2_with fail
  refine (compare_any _ _ 2 3 2 3 [97, 98] [97, 98, 99] _ ((Byt.litK w 5 _ _ _ 2 _ rfl rfl rfl).on _) (Byt.litK _ 5 _ _ _ 3 _ rfl rfl (size_alloc w _).symm) (btl _ rfl) (btl _ rfl)).mono ?_
  rintro en w1 ⟨rfl, hw1⟩
  have G1 : Hid (w.grownBy w1 none) := by rw [hw1]; exact grown_trans (World.grownBy_alloc w _ none) (World.grownBy_alloc _ _ none)
  rw [show cmpZ [97, 98] [97, 98, 99] = -1 by decide]
  clear hw1
  go_wp2_with fail
  refine (compare_any _ _ 1 3 1 3 [98] [97, 98, 99] _ ((Byt.litK w1 5 _ _ _ 1 _ rfl rfl rfl).on _) (Byt.litK _ 5 _ _ _ 3 _ rfl rfl (size_alloc w1 _).symm) (btl _ rfl) (btl _ rfl)).mono ?_
  rintro en w2 ⟨rfl, hw2⟩
  have G2 : Hid (w.grownBy w2 none) := by rw [hw2]; exact grown_trans G1.out (grown_trans (World.grownBy_alloc w1 _ none) (World.grownBy_alloc _ _ none))
  rw [show cmpZ [98] [97, 98, 99] = 1 by decide]
  clear hw2 G1
  go_wp2_with fail
  refine (common_any _ _ 3 3 3 3 [97, 98, 99] [97, 98, 100] _ ((Byt.litK w2 5 _ _ _ 3 _ rfl rfl rfl).on _) (Byt.litK _ 5 _ _ _ 3 _ rfl rfl (size_alloc w2 _).symm) (by omega) (by omega)).mono ?_
  rintro en w3 ⟨rfl, hw3⟩
  have G3 : Hid (w.grownBy w3 none) := grown_trans G2.out (grown_trans (grown_trans (World.grownBy_alloc w2 _ none) (World.grownBy_alloc _ _ none)) (hw3.qt.grown none))
  rw [show com [97, 98, 99] [97, 98, 100] = 2 by decide]
  clear hw3 G2
  go_wp2_with fail
  refine (commonAll_some _ 3 [114, 97, 105, 110] [[114, 97, 105, 115, 101], [114, 97, 110]] _ (Lz.lit3 _ 40 _ _ _ 4 5 3 4 5 3 [114, 97, 105, 110] [114, 97, 105, 115, 101] [114, 97, 110] _ (by rw [size_alloc, size_alloc, size_alloc]) (((Byt.litK w3 5 _ _ _ 4 _ rfl rfl rfl).on _).on _) ((Byt.litK _ 5 _ _ _ 5 _ rfl rfl (size_alloc w3 _).symm).on _) (Byt.litK _ 5 _ _ _ 3 _ rfl rfl (by rw [size_alloc, size_alloc])) (by omega) (by omega) (by omega) (by omega) (by omega) (by omega)) (by decide) (by decide)).mono ?_
  rintro en w4 ⟨rfl, hw4⟩
  have G4 : Hid (w.grownBy w4 none) := grown_trans G3.out (grown_trans (grown_trans (grown_trans (grown_trans (World.grownBy_alloc w3 _ none) (World.grownBy_alloc _ _ none)) (World.grownBy_alloc _ _ none)) (World.grownBy_alloc _ _ none)) hw4)
  rw [show comList [[114, 97, 105, 110], [114, 97, 105, 115, 101], [114, 97, 110]] = 2 by decide]
  clear hw4 G3
  go_wp2_with fail
  refine (sep_yes _ _ 4 5 4 5 [114, 97, 105, 110] [114, 97, 105, 115, 101] _ ((Byt.litK w4 5 _ _ _ 4 _ rfl rfl rfl).on _) (Byt.litK _ 5 _ _ _ 5 _ rfl rfl (size_alloc w4 _).symm) (btl _ rfl) (btl _ rfl) (by omega) (by omega) (by omega) (by decide)).mono ?_
  rintro en w5 ⟨g5, cap5, rfl, ho5, hg5⟩
  rw [show com [114, 97, 105, 110] [114, 97, 105, 115, 101] = 3 by decide] at ho5 ⊢
  have B5 := hid_intro (Byt.of_owns ho5)
  have G5 : Hid (w.grownBy w5 none) := grown_trans G4.out (grown_trans (grown_trans (World.grownBy_alloc w4 _ none) (World.grownBy_alloc _ _ none)) hg5)
  clear ho5 hg5 G4
  go_wp2_with fail
  refine (same_yes _ _ 4 4 cap5 4 [114, 97, 105, 115] [114, 97, 105, 115] _ (B5.out.on _) (Byt.litK w5 5 _ _ _ 4 _ rfl rfl rfl) rfl).mono ?_
  rintro en w6 ⟨rfl, hw6⟩
  have G6 : Hid (w.grownBy w6 none) := by rw [hw6]; exact grown_trans G5.out (World.grownBy_alloc w5 _ none)
  clear hw6 G5 B5
  go_wp2_with fail
  refine (valid_any _ 1 1 _).mono ?_
  rintro en w7 ⟨rfl, hw7⟩
  rw [show valid 1 = true by decide]
  have G7 : Hid (w.grownBy w7 none) := by rw [hw7]; exact grown_trans G6.out (World.grownBy_alloc w6 _ none)
  clear hw7 G6
  go_wp2_with fail
  refine (within_any _ _ _ 1 1 1 1 1 1 [98] [97] [99] _ (((Byt.litK w7 5 _ _ _ 1 _ rfl rfl rfl).on _).on _) ((Byt.litK _ 5 _ _ _ 1 _ rfl rfl (size_alloc w7 _).symm).on _) (Byt.litK _ 5 _ _ _ 1 _ rfl rfl (by rw [size_alloc, size_alloc])) (btl _ rfl) (btl _ rfl) (btl _ rfl)).mono ?_
  rintro en w8 ⟨rfl, hw8⟩
  rw [show within [98] [97] [99] = true by decide]
  have G8 : Hid (w.grownBy w8 none) := by rw [hw8]; exact grown_trans G7.out (grown_trans (grown_trans (World.grownBy_alloc w7 _ none) (World.grownBy_alloc _ _ none)) (World.grownBy_alloc _ _ none))
  have P8 : 0 < w8.heap.size := by rw [hw8, size_alloc]; omega
  have HP := hid_intro P8
  clear hw8 G7 P8
  go_wp2_with fail
  refine (num3_any _ _).mono ?_
  rintro en w9 ⟨rfl, rfl⟩
  go_wp2
  go_ret
  exact ⟨rfl, G8.out, HP.out⟩
theorem first3_any (w : World) : Calls Tryz.prog 4 #[] w fun en w' => en = .returned (.bool true) ∧ w.grownBy w' none :=
  (first3_pos w).mono fun _ _ h => ⟨h.1, h.2.1⟩

theorem below_of {w w' : World} (h : w.grownBy w' none) : Below w.heap.size w w' := ⟨h.os, h.tape, h.output, h.size, fun k hk => h.block k hk (by simp)⟩
end Go.Proofs.YtjipibblmccjhaaGreatDoor
