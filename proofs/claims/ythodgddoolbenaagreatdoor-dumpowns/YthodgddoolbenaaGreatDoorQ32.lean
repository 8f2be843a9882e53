import Derived.Test.YthodgddoolbenaaGreatDoorQ22
import Derived.Lib.SlBytesConst
namespace Go.Proofs.YthodgddoolbenaaGreatDoor
open Go.RowKit
theorem conv_atD (W : World) (C : Array Value) (n c k : Nat) (hk : k = W.heap.size) :
  (convert 49 49 (.slice (some ⟨k, 0, none⟩) n c)).run Tryz.prog (W.alloc (.cells C 5)) = .ok (.slice (some ⟨k, 0, none⟩) n c) (W.alloc (.cells C 5 (C.size, C.size + 1))) := by
 subst hk
 exact Lib.run_convert_bytes_const (P := Tryz.prog) W 49 5 C n c Tryz.underlying49 Tryz.underlying5
theorem Byt.litD (w : World) (e : TypeId) (cs : Array Value) (fr : Nat × Nat) (zs : List Int) (n k : Nat) (hn : n = zs.length) (h : cs = (zs.map (Value.int .u8)).toArray) (hk : k = w.heap.size) : Byt (w.alloc (.cells cs e fr)) (some ⟨k, 0, none⟩) n n zs := by
 subst h hn hk
 refine Byt.of_cells rfl fun i hi => ?_
 rw [Nat.zero_add]
 have := cell_of_row (w.alloc (.cells (zs.map (Value.int .u8)).toArray e fr)) w.heap.size i _ e fr (heap_alloc_new w _)
 rw [this]
 simp [List.getD, List.getElem?_eq_getElem hi]
theorem size_allocD (w : World) (o : Obj) : (w.alloc o).heap.size = w.heap.size + 1 := by simp
theorem btD (zs : List Int) (h : (zs.all fun z => decide (0 ≤ z) && decide (z ≤ 255)) = true) : Bt zs := by
 intro z hz
 have := List.all_eq_true.1 h z hz
 simpa using this
theorem ex_pm (w : World) : Pm ((((w.alloc (.cells #[.int .u8 97] 5 (1, 2))).alloc (.cells #[.int .u8 1] 5)).alloc (.cells #[.int .u8 98] 5 (1, 2))).alloc (.cells #[.slice (some ⟨w.heap.size, 0, none⟩) 1 1, .slice (some ⟨w.heap.size + 1, 0, none⟩) 1 1, .slice (some ⟨w.heap.size + 2, 0, none⟩) 1 1, .slice none 0 0] 54)) (some ⟨w.heap.size + 3, 0, none⟩) exl := by
 have o1 := World.grownBy_alloc (w.alloc (.cells #[.int .u8 97] 5 (1, 2))) (.cells #[.int .u8 1] 5) none
 generalize hA : w.alloc (.cells #[.int .u8 97] 5 (1, 2)) = wA at *
 have bA : Byt wA (some ⟨w.heap.size, 0, none⟩) 1 1 [97] := by rw [← hA]; exact Byt.litD w 5 _ _ _ 1 _ rfl rfl rfl
 have sA : wA.heap.size = w.heap.size + 1 := by rw [← hA]; simp
 have bB : Byt (wA.alloc (.cells #[.int .u8 1] 5)) (some ⟨w.heap.size + 1, 0, none⟩) 1 1 [1] := Byt.litD wA 5 _ _ _ 1 _ rfl rfl sA.symm
 generalize hB : wA.alloc (.cells #[.int .u8 1] 5) = wB at *
 have sB : wB.heap.size = w.heap.size + 2 := by rw [← hB]; simp; omega
 have o2 := World.grownBy_alloc wB (.cells #[.int .u8 98] 5 (1, 2)) none
 have bC : Byt (wB.alloc (.cells #[.int .u8 98] 5 (1, 2))) (some ⟨w.heap.size + 2, 0, none⟩) 1 1 [98] := Byt.litD wB 5 _ _ _ 1 _ rfl rfl sB.symm
 generalize hC : wB.alloc (.cells #[.int .u8 98] 5 (1, 2)) = wC at *
 have sC : wC.heap.size = w.heap.size + 3 := by rw [← hC]; simp; omega
 have hx := heap_alloc_new wC (.cells #[.slice (some ⟨w.heap.size, 0, none⟩) 1 1, .slice (some ⟨w.heap.size + 1, 0, none⟩) 1 1, .slice (some ⟨w.heap.size + 2, 0, none⟩) 1 1, .slice none 0 0] 54)
 have o3 := World.grownBy_alloc wC (.cells #[.slice (some ⟨w.heap.size, 0, none⟩) 1 1, .slice (some ⟨w.heap.size + 1, 0, none⟩) 1 1, .slice (some ⟨w.heap.size + 2, 0, none⟩) 1 1, .slice none 0 0] 54) none
 generalize wC.alloc (.cells #[.slice (some ⟨w.heap.size, 0, none⟩) 1 1, .slice (some ⟨w.heap.size + 1, 0, none⟩) 1 1, .slice (some ⟨w.heap.size + 2, 0, none⟩) 1 1, .slice none 0 0] 54) = wD at *
 rw [sC] at hx
 refine ⟨fun i p hp => ?_⟩
 match i, hp with
 | 0, hp =>
  simp only [exl, List.getElem?_cons_zero, Option.some.injEq] at hp
  subst hp
  exact ⟨w.heap.size + 3, 0, some ⟨w.heap.size, 0, none⟩, 1, some ⟨w.heap.size + 1, 0, none⟩, 1, rfl, by rw [Lib.cell_of_heap hx]; rfl, by rw [Lib.cell_of_heap hx]; rfl, ((bA.keptN o1).keptN o2).keptN o3, btD _ rfl, (bB.keptN o2).keptN o3, btD _ rfl⟩
 | 1, hp =>
  simp only [exl, List.getElem?_cons_succ, List.getElem?_cons_zero, Option.some.injEq] at hp
  subst hp
  exact ⟨w.heap.size + 3, 0, some ⟨w.heap.size + 2, 0, none⟩, 1, none, 0, rfl, by rw [Lib.cell_of_heap hx]; rfl, by rw [Lib.cell_of_heap hx]; rfl, bC.keptN o3, btD _ rfl, Byt.empty _, Bt.nil⟩
 | i + 2, hp => simp [exl] at hp
set_option maxHeartbeats 4000000 in
set_option maxRecDepth 100000 in
theorem first20 (w : World) (ht : Tzd w) : Calls Tryz.prog 4 #[] w fun en w' => en = .returned (.bool true) ∧ w.grownBy w' none := by
 have v1 := fun (W : World) (C : Array Value) (n c : Nat) => conv_atD W C n c _ rfl
 have v2 := fun (W : World) (o p : Obj) (C : Array Value) (n c : Nat) => conv_atD ((W.alloc o).alloc p) C n c (W.heap.size + 2) (by rw [size_allocD, size_allocD])
 have HT := hid_intro ht
 have HP := hid_intro (ex_pm w)
 have HG : Hid (w.grownBy ((((w.alloc (.cells #[.int .u8 97] 5 (1, 2))).alloc (.cells #[.int .u8 1] 5)).alloc (.cells #[.int .u8 98] 5 (1, 2))).alloc (.cells #[.slice (some ⟨w.heap.size, 0, none⟩) 1 1, .slice (some ⟨w.heap.size + 1, 0, none⟩) 1 1, .slice (some ⟨w.heap.size + 2, 0, none⟩) 1 1, .slice none 0 0] 54)) none) :=
  grown_trans (grown_trans (grown_trans (World.grownBy_alloc w _ none) (World.grownBy_alloc _ _ none)) (World.grownBy_alloc _ _ none)) (World.grownBy_alloc _ _ none)
 clear ht
 go_enter Tryz.func4, Tryz.ntmps4
 go_upto_region 2 with fail
 generalize (((w.alloc (.cells #[.int .u8 97] 5 (1, 2))).alloc (.cells #[.int .u8 1] 5)).alloc (.cells #[.int .u8 98] 5 (1, 2))).alloc (.cells #[.slice (some ⟨w.heap.size, 0, none⟩) 1 1, .slice (some ⟨w.heap.size + 1, 0, none⟩) 1 1, .slice (some ⟨w.heap.size + 2, 0, none⟩) 1 1, .slice none 0 0] 54) = w1 at *
 clear v1 v2
 generalize hLb : w.heap.size + 1 + 1 + 1 = L at *
 have HP1 : Hid (Pm w1 (some ⟨L, 0, none⟩) exl) := HP
 clear hLb HP
 have HTX := hid_intro (text_any (some ⟨L, 0, none⟩) 2 2 exl w1 HP1.out rfl (by decide) (HT.out.keptN HG.out))
 rw [ex_txt, ex_jdg] at HTX
 have HPA := hid_intro (fun W => parse_any [99, 111, 112, 112, 105, 99, 101, 32, 50, 10, 54, 49, 32, 48, 49, 10, 54, 50, 32, 45, 10] W (by decide))
 rw [ex_prs] at HPA
 have HPB := hid_intro (fun W => parse_any [99, 111, 112, 112, 105, 99, 101, 32, 49, 10, 54, 49, 32, 32, 48, 49, 10] W (by decide))
 rw [ex_bad] at HPB
 have HU1 := hid_intro (fun W => unhex_any ⟨#[48, 65]⟩ W (by decide))
 have HU2 := hid_intro (fun W => unhex_any ⟨#[48, 48, 102, 102]⟩ W (by decide))
 have hs1 : (tstr [99, 111, 112, 112, 105, 99, 101, 32, 50, 10, 54, 49, 32, 48, 49, 10, 54, 50, 32, 45, 10]).toList = [99, 111, 112, 112, 105, 99, 101, 32, 50, 10, 54, 49, 32, 48, 49, 10, 54, 50, 32, 45, 10] := by rw [ByteArray.toList_eq]; rfl
 generalize hsA : tstr [99, 111, 112, 112, 105, 99, 101, 32, 50, 10, 54, 49, 32, 48, 49, 10, 54, 50, 32, 45, 10] = sA at *
 clear hsA
 go_wp2_with fail
 refine HTX.out.mono ?_
 rintro en w2 ⟨rfl, hg2⟩
 have G2 := hid_intro (grown_trans HG.out hg2)
 have P2 := hid_intro (HP1.out.keptN hg2)
 clear hg2 HTX HP1 HG
 go_wp2_with fail
 refine (HPA.out _).mono ?_
 rintro en w3 ⟨hg3, ⟨_, _, hr, _⟩ | ⟨l, a, c, xs, hr, rfl, ho, hpw⟩⟩
 ·cases hr
 simp only [Except.ok.injEq] at hr
 subst hr
 have hpm := (hpw.pm ho).1
 have G3 := hid_intro (grown_trans G2.out hg3)
 have P3 := hid_intro (P2.out.keptN hg3)
 have HM3 := hid_intro hpm
 clear hg3 ho hpw hpm G2 P2
 have hel : exl.length = 2 := rfl
 rw [hel]
 clear hel
 go_wp2_with fail
 refine (samePairs20 a (some ⟨L, 0, none⟩) 2 2 c 2 exl exl w3 HM3.out P3.out rfl rfl (by decide) (by decide)).mono ?_
 rintro en w4 ⟨rfl, hg4⟩
 rw [decide_eq_true (rfl : exl = exl)]
 have G4 := hid_intro (grown_trans G3.out hg4)
 clear hg4 G3
 go_wp2_with fail
 refine (HPB.out _).mono ?_
 rintro en w5 ⟨hg5, ⟨k, e, hr, rfl⟩ | ⟨l, a', c', xs', hr, _⟩⟩
 rotate_left
 ·cases hr
 simp only [Except.error.injEq, Prod.mk.injEq] at hr
 obtain ⟨rfl, rfl⟩ := hr
 have G5 := hid_intro (grown_trans G4.out hg5)
 clear hg5 G4
 go_wp2_with fail
 refine (HU1.out _).mono ?_
 rintro en w6 ⟨hg6, ⟨hr, rfl⟩ | ⟨b, a', c', hr, _⟩⟩
 rotate_left
 ·have := ex_u1.symm.trans hr
  cases this
 have G6 := hid_intro (grown_trans G5.out hg6)
 clear hg6 G5 hr
 go_wp2_with fail
 refine (HU2.out _).mono ?_
 rintro en w7 ⟨hg7, ⟨hr, _⟩ | ⟨b, a7, c7, hr, rfl, ho7⟩⟩
 ·have := ex_u2.symm.trans hr
  cases this
 have hb : b = [0, 255] := (Option.some.inj (ex_u2.symm.trans hr)).symm
 subst hb
 have hb7 := byt_of_ownD ho7
 obtain ⟨g, off, e7, _, hc7⟩ := hb7.at (by decide)
 subst e7
 have c1 := hc7 1 (by decide)
 have c1' : w7.cell? ⟨g, off + 1, none⟩ = some (.int .u8 255) := c1
 have G7 := hid_intro (grown_trans G6.out hg7)
 have hln : ([0, 255] : List Int).length = 2 := rfl
 rw [hln]
 clear hg7 G6 hr ho7 hb7 hc7 c1 hln
 have HX0 : Hid (∀ W : World, Calls Tryz.prog 16 #[.slice none 0 0] W fun en w' => en = .returned (.string ⟨#[45]⟩) ∧ w' = W) := fun W => hex_none none 0 W
 have HX1 : Hid (∀ W : World, Calls Tryz.prog 16 #[.slice (some ⟨W.heap.size, 0, none⟩) 1 1] (W.alloc (.cells #[.int .u8 10] 5)) fun en w' => en = .returned (.string ⟨#[48, 97]⟩) ∧ W.grownBy w' none) := fun W => by
  refine (hex_any _ 1 1 [10] _ (Byt.litD W 5 _ _ [10] 1 _ rfl rfl rfl) (btD _ rfl) (by decide)).mono ?_
  rintro en w' ⟨rfl, hg⟩
  exact ⟨by rw [ex_h]; rfl, grown_trans (World.grownBy_alloc W _ none) hg⟩
 go_wp2_with (first
  | (go_at_call 9; refine (num20 _ _).mono ?_; rintro en w8 ⟨rfl, hw8⟩; subst hw8)
  | (go_at_call_of 16 (Value.slice none 0 0); refine (HX0.out _).mono ?_; rintro en w8 ⟨rfl, hw8⟩; subst hw8)
  | (go_at_call 16; refine (HX1.out _).mono ?_; rintro en w9 ⟨rfl, hg9⟩; have G9 := hid_intro hg9; clear hg9))
 go_ret
 exact ⟨rfl, grown_trans G7.out G9.out⟩
end Go.Proofs.YthodgddoolbenaaGreatDoor
