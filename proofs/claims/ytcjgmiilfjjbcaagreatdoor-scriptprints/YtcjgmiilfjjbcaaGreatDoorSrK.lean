import Derived.Test.YtcjgmiilfjjbcaaGreatDoorSrJ
import Derived.Test.YtcjgmiilfjjbcaaGreatDoorDuG
namespace Go.Proofs.YtcjgmiilfjjbcaaGreatDoor
open Go.RowKit

theorem byt_nil (w : World) : Byt w none 0 0 [] := Byt.empty w
theorem ftr_nil (w : World) (a : Option Addr) : FtR w a [] := fun i p h => by simp at h
theorem opr_nil (w : World) (k a b c : Int) : OpR w ⟨k, a, b, c, [], [], [], []⟩ none 0 none 0 none 0 none 0 := ⟨byt_nil w, byt_nil w, byt_nil w, ftr_nil w none, Bt.nil, Bt.nil, Bt.nil⟩
theorem bt_one (z : Int) (h : 0 ≤ z ∧ z ≤ 255) : Bt [z] := Bt.cons h Bt.nil
theorem want_ops (W : World) (k1 k2 k3 k4 : Nat) (h1 : k1 = W.heap.size) (h2 : k2 = W.heap.size + 1) (h3 : k3 = W.heap.size + 2) (h4 : k4 = W.heap.size + 3) :
    OpsR ((((W.alloc (.cells #[.int .u8 97] 5 (1, 2))).alloc (.cells #[.int .u8 120] 5 (1, 2))).alloc (.cells #[.int .i64 0, .int .i64 0, .int .i64 1, .int .i64 0, .int .i64 2, .int .i64 100] 43)).alloc (.cells #[.int .i64 3, .int .i64 0, .int .i64 0, .int .i64 0, .slice (some ⟨k1, 0, none⟩) 1 1, .slice (some ⟨k2, 0, none⟩) 1 1, .slice none 0 0, .slice none 0 0, .int .i64 6, .int .i64 (-1), .int .i64 0, .int .i64 0, .slice none 0 0, .slice none 0 0, .slice none 0 0, .slice none 0 0, .int .i64 16, .int .i64 0, .int .i64 0, .int .i64 0, .slice none 0 0, .slice none 0 0, .slice none 0 0, .slice (some ⟨k3, 0, none⟩) 3 3] 35)) (some ⟨k4, 0, none⟩) [op1, op2, op3] ∧ W.grownBy ((((W.alloc (.cells #[.int .u8 97] 5 (1, 2))).alloc (.cells #[.int .u8 120] 5 (1, 2))).alloc (.cells #[.int .i64 0, .int .i64 0, .int .i64 1, .int .i64 0, .int .i64 2, .int .i64 100] 43)).alloc (.cells #[.int .i64 3, .int .i64 0, .int .i64 0, .int .i64 0, .slice (some ⟨k1, 0, none⟩) 1 1, .slice (some ⟨k2, 0, none⟩) 1 1, .slice none 0 0, .slice none 0 0, .int .i64 6, .int .i64 (-1), .int .i64 0, .int .i64 0, .slice none 0 0, .slice none 0 0, .slice none 0 0, .slice none 0 0, .int .i64 16, .int .i64 0, .int .i64 0, .int .i64 0, .slice none 0 0, .slice none 0 0, .slice none 0 0, .slice (some ⟨k3, 0, none⟩) 3 3] 35)) none := by
  have g1 := World.grownBy_alloc W (.cells #[.int .u8 97] 5 (1, 2)) none
  have g2 := World.grownBy_alloc (W.alloc (.cells #[.int .u8 97] 5 (1, 2))) (.cells #[.int .u8 120] 5 (1, 2)) none
  have g3 := World.grownBy_alloc ((W.alloc (.cells #[.int .u8 97] 5 (1, 2))).alloc (.cells #[.int .u8 120] 5 (1, 2))) (.cells #[.int .i64 0, .int .i64 0, .int .i64 1, .int .i64 0, .int .i64 2, .int .i64 100] 43) none
  have g4 := World.grownBy_alloc (((W.alloc (.cells #[.int .u8 97] 5 (1, 2))).alloc (.cells #[.int .u8 120] 5 (1, 2))).alloc (.cells #[.int .i64 0, .int .i64 0, .int .i64 1, .int .i64 0, .int .i64 2, .int .i64 100] 43)) (.cells #[.int .i64 3, .int .i64 0, .int .i64 0, .int .i64 0, .slice (some ⟨k1, 0, none⟩) 1 1, .slice (some ⟨k2, 0, none⟩) 1 1, .slice none 0 0, .slice none 0 0, .int .i64 6, .int .i64 (-1), .int .i64 0, .int .i64 0, .slice none 0 0, .slice none 0 0, .slice none 0 0, .slice none 0 0, .int .i64 16, .int .i64 0, .int .i64 0, .int .i64 0, .slice none 0 0, .slice none 0 0, .slice none 0 0, .slice (some ⟨k3, 0, none⟩) 3 3] 35) none
  have b1 := ((Byt.litD W 5 #[.int .u8 97] (1, 2) [97] 1 k1 rfl rfl h1).keptN g2).keptN (grown_trans g3 g4)
  have b2 := (Byt.litD (W.alloc (.cells #[.int .u8 97] 5 (1, 2))) 5 #[.int .u8 120] (1, 2) [120] 1 k2 rfl rfl (by rw [size_allocD]; exact h2)).keptN (grown_trans g3 g4)
  have x3 := heap_keptS (heap_at0S ((W.alloc (.cells #[.int .u8 97] 5 (1, 2))).alloc (.cells #[.int .u8 120] 5 (1, 2))) #[.int .i64 0, .int .i64 0, .int .i64 1, .int .i64 0, .int .i64 2, .int .i64 100] 43) g4
  rw [size_allocD, size_allocD, ← h3] at x3
  have x4 := heap_at0S (((W.alloc (.cells #[.int .u8 97] 5 (1, 2))).alloc (.cells #[.int .u8 120] 5 (1, 2))).alloc (.cells #[.int .i64 0, .int .i64 0, .int .i64 1, .int .i64 0, .int .i64 2, .int .i64 100] 43)) #[.int .i64 3, .int .i64 0, .int .i64 0, .int .i64 0, .slice (some ⟨k1, 0, none⟩) 1 1, .slice (some ⟨k2, 0, none⟩) 1 1, .slice none 0 0, .slice none 0 0, .int .i64 6, .int .i64 (-1), .int .i64 0, .int .i64 0, .slice none 0 0, .slice none 0 0, .slice none 0 0, .slice none 0 0, .int .i64 16, .int .i64 0, .int .i64 0, .int .i64 0, .slice none 0 0, .slice none 0 0, .slice none 0 0, .slice (some ⟨k3, 0, none⟩) 3 3] 35
  rw [size_allocD, size_allocD, size_allocD, ← h4] at x4
  have gg := grown_trans g1 (grown_trans g2 (grown_trans g3 g4))
  refine ⟨?_, gg⟩
  generalize (((W.alloc (.cells #[.int .u8 97] 5 (1, 2))).alloc (.cells #[.int .u8 120] 5 (1, 2))).alloc (.cells #[.int .i64 0, .int .i64 0, .int .i64 1, .int .i64 0, .int .i64 2, .int .i64 100] 43)).alloc (.cells #[.int .i64 3, .int .i64 0, .int .i64 0, .int .i64 0, .slice (some ⟨k1, 0, none⟩) 1 1, .slice (some ⟨k2, 0, none⟩) 1 1, .slice none 0 0, .slice none 0 0, .int .i64 6, .int .i64 (-1), .int .i64 0, .int .i64 0, .slice none 0 0, .slice none 0 0, .slice none 0 0, .slice none 0 0, .int .i64 16, .int .i64 0, .int .i64 0, .int .i64 0, .slice none 0 0, .slice none 0 0, .slice none 0 0, .slice (some ⟨k3, 0, none⟩) 3 3] 35) = W4 at *
  have cx : ∀ j u, (#[.int .i64 3, .int .i64 0, .int .i64 0, .int .i64 0, .slice (some ⟨k1, 0, none⟩) 1 1, .slice (some ⟨k2, 0, none⟩) 1 1, .slice none 0 0, .slice none 0 0, .int .i64 6, .int .i64 (-1), .int .i64 0, .int .i64 0, .slice none 0 0, .slice none 0 0, .slice none 0 0, .slice none 0 0, .int .i64 16, .int .i64 0, .int .i64 0, .int .i64 0, .slice none 0 0, .slice none 0 0, .slice none 0 0, .slice (some ⟨k3, 0, none⟩) 3 3] : Array Value)[j]? = some u → W4.cell? ⟨k4, j, none⟩ = some u := fun j u hj => cell_heapS x4 hj
  have hfr : FtR W4 (some ⟨k3, 0, none⟩) [(0, 0), (1, 0), (2, 100)] := by
    have cf : ∀ j u, (#[.int .i64 0, .int .i64 0, .int .i64 1, .int .i64 0, .int .i64 2, .int .i64 100] : Array Value)[j]? = some u → W4.cell? ⟨k3, j, none⟩ = some u := fun j u hj => cell_heapS x3 hj
    intro j p hp
    match j, hp with
    | 0, hp => cases hp; exact ⟨k3, 0, rfl, cf 0 _ rfl, cf 1 _ rfl⟩
    | 1, hp => cases hp; exact ⟨k3, 0, rfl, cf 2 _ rfl, cf 3 _ rfl⟩
    | 2, hp => cases hp; exact ⟨k3, 0, rfl, cf 4 _ rfl, cf 5 _ rfl⟩
    | j + 3, hp => cases hp
  intro i o hi
  match i, hi with
  | 0, hi =>
    cases hi
    exact ⟨k4, 0, some ⟨k1, 0, none⟩, 1, some ⟨k2, 0, none⟩, 1, none, 0, none, 0, rfl, fun j u hj => by
      rw [show 0 + 0 * 8 + j = j by omega]
      have hj8 : j < 8 := (List.getElem?_eq_some_iff.1 hj).1
      apply cx
      match j, hj8, hj with
      | 0, _, hj | 1, _, hj | 2, _, hj | 3, _, hj | 4, _, hj | 5, _, hj | 6, _, hj | 7, _, hj => exact hj, ⟨b1, b2, byt_nil _, ftr_nil _ none, bt_one 97 (by omega), bt_one 120 (by omega), Bt.nil⟩⟩
  | 1, hi =>
    cases hi
    exact ⟨k4, 0, none, 0, none, 0, none, 0, none, 0, rfl, fun j u hj => by
      rw [show 0 + 1 * 8 + j = j + 8 by omega]
      have hj8 : j < 8 := (List.getElem?_eq_some_iff.1 hj).1
      apply cx
      match j, hj8, hj with
      | 0, _, hj | 1, _, hj | 2, _, hj | 3, _, hj | 4, _, hj | 5, _, hj | 6, _, hj | 7, _, hj => exact hj, opr_nil _ _ _ _ _⟩
  | 2, hi =>
    cases hi
    exact ⟨k4, 0, none, 0, none, 0, none, 0, some ⟨k3, 0, none⟩, 3, rfl, fun j u hj => by
      rw [show 0 + 2 * 8 + j = j + 16 by omega]
      have hj8 : j < 8 := (List.getElem?_eq_some_iff.1 hj).1
      apply cx
      match j, hj8, hj with
      | 0, _, hj | 1, _, hj | 2, _, hj | 3, _, hj | 4, _, hj | 5, _, hj | 6, _, hj | 7, _, hj => exact hj, ⟨byt_nil _, byt_nil _, byt_nil _, hfr, Bt.nil, Bt.nil, Bt.nil⟩⟩
  | i + 3, hi => cases hi
theorem want_op4 (W : World) (k : Nat) (hk : k = W.heap.size) : OpsR (W.alloc (.cells #[.int .i64 7, .int .i64 1, .int .i64 0, .int .i64 0, .slice none 0 0, .slice none 0 0, .slice none 0 0, .slice none 0 0] 35)) (some ⟨k, 0, none⟩) [op4] := by
  subst hk
  have x4 := heap_at0S W #[.int .i64 7, .int .i64 1, .int .i64 0, .int .i64 0, .slice none 0 0, .slice none 0 0, .slice none 0 0, .slice none 0 0] 35
  intro i o hi
  match i, hi with
  | 0, hi =>
    cases hi
    exact ⟨_, 0, none, 0, none, 0, none, 0, none, 0, rfl, fun j u hj => by
      rw [show 0 + 0 * 8 + j = j by omega]
      apply cell_heapS x4
      have hj8 : j < 8 := (List.getElem?_eq_some_iff.1 hj).1
      match j, hj8, hj with
      | 0, _, hj | 1, _, hj | 2, _, hj | 3, _, hj | 4, _, hj | 5, _, hj | 6, _, hj | 7, _, hj => exact hj, opr_nil _ _ _ _ _⟩
  | i + 1, hi => cases hi
theorem fnw_1 : Fnw [op1, op2, op3] := by intro o ho; simp only [List.mem_cons, List.not_mem_nil, or_false] at ho; rcases ho with rfl | rfl | rfl <;> decide
theorem fnw_4 : Fnw [op4] := by intro o ho; simp only [List.mem_cons, List.not_mem_nil, or_false] at ho; subst ho; decide
theorem lsz_1 : ∀ o ∈ [op1, op2, op3], lsz o ≤ 140737488355328 := by intro o ho; simp only [List.mem_cons, List.not_mem_nil, or_false] at ho; rcases ho with rfl | rfl | rfl <;> decide
theorem lsz_4 : ∀ o ∈ [op4], lsz o ≤ 140737488355328 := by intro o ho; simp only [List.mem_cons, List.not_mem_nil, or_false] at ho; subst ho; decide
set_option maxHeartbeats 16000000 in
set_option maxRecDepth 100000 in
theorem first23_any (w : World) (hL : Lv w) : Calls Tryz.prog 4 #[] w fun en w' => en = .returned (.bool true) ∧ w.grownBy w' none := by
  have HL : Hid (Lv w) := hL
  have HP1 := hid_intro (parse_any tx1 w hL (by decide))
  have HP2 := hid_intro (fun W hW => parse_any tx2 W hW (by decide))
  have HQ1 := hid_intro (fun a c W hW hR => print_any 9 [op1, op2, op3] a c W hW hR fnw_1 lsz_1 (by decide))
  have HQ2 := hid_intro (fun a c W hW hR => print_any 9 [op4] a c W hW hR fnw_4 lsz_4 (by decide))
  have HSS := hid_intro (fun a b c d W ha hb => sameScript_any 9 9 a b c d [op1, op2, op3] [op1, op2, op3] W ha hb fnw_1 (by decide))
  have HWD := hid_intro (fun W hW => word_any 22 W hW)
  rw [psc_1] at HP1
  rw [psc_2] at HP2
  rw [prt_1] at HQ1
  rw [prt_2] at HQ2
  rw [wrd_22] at HWD
  clear hL
  have bt3 : ((tstr tx3).toList == [99, 111, 112, 112, 105, 99, 101, 32, 57, 10, 112, 117, 116, 32, 54, 49, 32, 55, 56, 10, 115, 99, 97, 110, 32, 45, 32, 45, 32, 45, 49, 10, 99, 114, 97, 115, 104, 32, 108, 32, 107, 32, 116, 49, 48, 48, 10]) = true := by rw [tstr_toList]; rfl
  have bt4 : ((tstr [99, 111, 109, 112, 97, 99, 116]).toList == [99, 111, 109, 112, 97, 99, 116]) = true := by rw [tstr_toList]; rfl
  go_enter Tryz.func4, Tryz.ntmps4
  go_wp2_with fail
  refine HP1.out.mono ?_
  rintro en w1 ⟨hg1, hr⟩
  rcases hr with ⟨n, l, v, xs, e1, rfl, ho, hol⟩ | ⟨k, e, e1, _⟩
  · cases e1
    obtain ⟨a, c, hv⟩ := own_shape20 ho
    subst hv
    have r1 := hol.opsR ho
    have gB := World.grownBy_alloc w1 (.cells #[.int .i64 9, .slice a 3 c] 24) none
    obtain ⟨r4, g4⟩ := want_ops (w1.alloc (.cells #[.int .i64 9, .slice a 3 c] 24)) (w1.heap.size + 1) (w1.heap.size + 2) (w1.heap.size + 1 + 1 + 1) (w1.heap.size + 1 + 1 + 1 + 1) (by rw [size_allocD]) (by rw [size_allocD]) (by rw [size_allocD]) (by rw [size_allocD])
    have g5 := World.grownBy_alloc (((((w1.alloc (.cells #[.int .i64 9, .slice a 3 c] 24)).alloc (.cells #[.int .u8 97] 5 (1, 2))).alloc (.cells #[.int .u8 120] 5 (1, 2))).alloc (.cells #[.int .i64 0, .int .i64 0, .int .i64 1, .int .i64 0, .int .i64 2, .int .i64 100] 43)).alloc (.cells #[.int .i64 3, .int .i64 0, .int .i64 0, .int .i64 0, .slice (some ⟨w1.heap.size + 1, 0, none⟩) 1 1, .slice (some ⟨w1.heap.size + 2, 0, none⟩) 1 1, .slice none 0 0, .slice none 0 0, .int .i64 6, .int .i64 (-1), .int .i64 0, .int .i64 0, .slice none 0 0, .slice none 0 0, .slice none 0 0, .slice none 0 0, .int .i64 16, .int .i64 0, .int .i64 0, .int .i64 0, .slice none 0 0, .slice none 0 0, .slice none 0 0, .slice (some ⟨w1.heap.size + 1 + 1 + 1, 0, none⟩) 3 3] 35)) (.cells #[.int .i64 9, .slice (some ⟨w1.heap.size + 1 + 1 + 1 + 1, 0, none⟩) 3 3] 24) none
    have g15 := grown_trans gB (grown_trans g4 g5)
    have R1 := hid_intro (r1.keptN g15)
    have R4 := hid_intro (r4.keptN g5)
    have G5 := hid_intro (grown_trans hg1 g15)
    have x5 := heap_at0S (((((w1.alloc (.cells #[.int .i64 9, .slice a 3 c] 24)).alloc (.cells #[.int .u8 97] 5 (1, 2))).alloc (.cells #[.int .u8 120] 5 (1, 2))).alloc (.cells #[.int .i64 0, .int .i64 0, .int .i64 1, .int .i64 0, .int .i64 2, .int .i64 100] 43)).alloc (.cells #[.int .i64 3, .int .i64 0, .int .i64 0, .int .i64 0, .slice (some ⟨w1.heap.size + 1, 0, none⟩) 1 1, .slice (some ⟨w1.heap.size + 2, 0, none⟩) 1 1, .slice none 0 0, .slice none 0 0, .int .i64 6, .int .i64 (-1), .int .i64 0, .int .i64 0, .slice none 0 0, .slice none 0 0, .slice none 0 0, .slice none 0 0, .int .i64 16, .int .i64 0, .int .i64 0, .int .i64 0, .slice none 0 0, .slice none 0 0, .slice none 0 0, .slice (some ⟨w1.heap.size + 1 + 1 + 1, 0, none⟩) 3 3] 35)) #[.int .i64 9, .slice (some ⟨w1.heap.size + 1 + 1 + 1 + 1, 0, none⟩) 3 3] 24
    rw [size_allocD, size_allocD, size_allocD, size_allocD, size_allocD] at x5
    have X5 := hid_intro x5
    have v2 := fun (W : World) (o : Obj) (C : Array Value) (n c : Nat) => conv_atD (W.alloc o) C n c (W.heap.size + 1) (by rw [size_allocD])
    have v3 := fun (W : World) (o p : Obj) (C : Array Value) (n c : Nat) => conv_atD ((W.alloc o).alloc p) C n c (W.heap.size + 2) (by rw [size_allocD, size_allocD])
    clear ho hol hg1 HP1 r1 gB r4 g4 g5 g15 x5
    go_wp2_with fail
    refine (HSS.out a _ c 3 _ R1.out R4.out).mono ?_
    rintro en w6 ⟨b, rfl, hb, hg6⟩
    have hbt : b = true := hb.2 (by first | exact ⟨rfl, rfl⟩ | trivial | simp)
    subst hbt
    have X6 := hid_intro (heap_keptS X5.out hg6)
    have G6 := hid_intro (grown_trans G5.out hg6)
    have R6 := hid_intro (R4.out.keptN hg6)
    clear hb hg6 v2 v3 R1 R4 G5 X5
    generalize w1.heap.size + 1 + 1 + 1 + 1 + 1 = K5 at *
    generalize w1.heap.size + 1 + 1 + 1 + 1 = K4 at *
    go_wp2_with fail
    refine (HP2.out _ (HL.out.keptN G6.out)).mono ?_
    rintro en w7 ⟨hg7, hr7⟩
    rcases hr7 with ⟨n, l, v, xs, e1, _⟩ | ⟨k, e, e1, _, rfl⟩
    · cases e1
    · cases e1
      have gA := World.grownBy_alloc w7 (.cells #[.int .i64 0, .slice none 0 0] 24) none
      have g7 := grown_trans hg7 gA
      have X7 := hid_intro (heap_keptS X6.out g7)
      have G7 := hid_intro (grown_trans G6.out g7)
      have R7 := hid_intro (R6.out.keptN g7)
      have d0 := cell_heapS (i := 0) X7.out rfl
      have d1 := cell_heapS (i := 1) X7.out rfl
      clear hg7 gA g7 X6 G6 R6
      go_wp2_with fail
      refine (HQ1.out _ 3 _ (HL.out.keptN G7.out) R7.out).mono ?_
      rintro en w8 ⟨hg8, hr8⟩
      rcases hr8 with ⟨t, e1, rfl⟩ | ⟨e, e1, _⟩
      · cases e1
        have gC := World.grownBy_alloc w8 (.cells #[.int .i64 7, .int .i64 1, .int .i64 0, .int .i64 0, .slice none 0 0, .slice none 0 0, .slice none 0 0, .slice none 0 0] 35) none
        have G8 := hid_intro (grown_trans G7.out (grown_trans hg8 gC))
        have R8 := hid_intro (want_op4 w8 _ rfl)
        clear hg8 gC G7 X7 R7 d0 d1
        go_wp2_with fail
        refine (HQ2.out _ 1 _ (HL.out.keptN G8.out) R8.out).mono ?_
        rintro en w9 ⟨hg9, hr9⟩
        rcases hr9 with ⟨t, e1, _⟩ | ⟨e, e1, _, rfl⟩
        · cases e1
        · cases e1
          have G9 := hid_intro (grown_trans G8.out hg9)
          have LS9 := hid_intro (HL.out.keptN G9.out).stp
          clear hg9 G8 R8
          generalize tstr tx3 = s3 at *
          generalize tstr [99, 111, 109, 112, 97, 99, 116] = s4 at *
          go_wp2_with (first
            | (go_at_call 11; refine (num23_any _ _).mono ?_; rintro en wz ⟨rfl, rfl⟩)
            | (go_at_call 14; refine (HWD.out _ LS9.out).mono ?_; rintro en wz ⟨rfl, rfl⟩))
          go_ret
          exact ⟨rfl, G9.out⟩
      · cases e1
  · cases e1
end Go.Proofs.YtcjgmiilfjjbcaaGreatDoor
