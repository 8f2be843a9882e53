import Derived.Test.YtiljdhhfhjhhiaaDp7
namespace Go.Proofs.Ytiljdhhfhjhhiaa
open Go.RowKit Go.MuLone

/-- The pair, whatever its blocks and the place. -/
def Pq (w0 w : World) (P B R : Nat) (s : Ds) : Prop := ∃ F1 F2 g cap zs, Pp w0 w P B R F1 F2 (.slice (some ⟨g, 0, none⟩) zs.length cap) zs s

theorem Kp.cellX {w w' : World} {F : Nat → Prop} {X j : Nat} {u : Value} (hk : Kp w w' F) (hn : ¬ F X) (h : w.cell? ⟨X, j, none⟩ = some u) : w'.cell? ⟨X, j, none⟩ = some u :=
  (World.cell?_of_block (hk.block X (World.block_lt_of_cell? w _ h) hn)).trans h
theorem Pp.cP {w0 w w' : World} {P B R : Nat} {F1 F2 : Nat → Prop} {v : Value} {zs : List Int} {s : Ds} (h : Pp w0 w P B R F1 F2 v zs s) (hk : Kp w w' F1) : w'.cell? ⟨P, 0, none⟩ = some (.pointer (some ⟨B, 0, none⟩)) ∧ w'.cell? ⟨P, 1, none⟩ = some (.pointer (some ⟨R, 0, none⟩)) :=
  ⟨hk.cellX (fun e => (h.f1 P e).2.1 rfl) h.c0, hk.cellX (fun e => (h.f1 P e).2.1 rfl) h.c1⟩
theorem Pp.rK {w0 w w' : World} {P B R : Nat} {F1 F2 : Nat → Prop} {v : Value} {zs : List Int} {s : Ds} (h : Pp w0 w P B R F1 F2 v zs s) (hk : Kp w w' F1) : Rz w' R F2 s := h.rz.kp hk (fun q e1 e2 => (h.f1 q e2).2.2.2 e1)
theorem Ds.sa_i64 (s : Ds) : -9223372036854775808 ≤ s.sa ∧ s.sa ≤ 9223372036854775807 := by
  unfold Ds.sa
  repeat' split
  all_goals omega
theorem Ds.arm_i64 (s : Ds) (k : Int) : -9223372036854775808 ≤ s.arm k ∧ s.arm k ≤ 9223372036854775807 := by
  unfold Ds.arm
  repeat' split
  all_goals omega
theorem Ds.ra_i64 (s : Ds) (i a x : Int) : -9223372036854775808 ≤ s.ra i a x ∧ s.ra i a x ≤ 9223372036854775807 := by
  unfold Ds.ra
  repeat' split
  all_goals omega

set_option maxHeartbeats 16000000 in
set_option maxRecDepth 8000 in
theorem step12_0 {w0 w : World} {P B R : Nat} {F1 F2 : Nat → Prop} {g cap : Nat} {zs : List Int} {s : Ds} (h : Pp w0 w P B R F1 F2 (.slice (some ⟨g, 0, none⟩) zs.length cap) zs s) (k : Int) (i a x f : Int) (ao : Option Addr) (n c : Nat) (bo : Option Addr) (m e : Nat) (hk : ¬ k = 1 ∧ ¬ k = 2 ∧ ¬ k = 3 ∧ ¬ k = 4 ∧ ¬ k = 5 ∧ ¬ k = 6 ∧ ¬ k = 7 ∧ ¬ k = 8 ∧ ¬ k = 9) : Calls Try.prog 14 #[.pointer (some ⟨P, 0, none⟩), opv k i a x f ao n c bo m e] w fun en w' => en = .returned (.bool true) ∧ Pq w0 w' P B R s := by
  obtain ⟨k1, k2, k3, k4, k5, k6, k7, k8, k9⟩ := hk
  unfold opv
  obtain ⟨wA, hwA⟩ : ∃ wA, wA = w.alloc (.cells #[.int .i64 k, .int .i64 i, .int .i64 a, .int .i64 x, .int .u8 f, .slice ao n c, .slice bo m e] 41) := ⟨_, rfl⟩
  have gA : w.grownBy wA none := by rw [hwA]; exact World.grownBy_alloc _ _ _
  have sA : wA.heap.size = w.heap.size + 1 := by rw [hwA]; simp
  have uA : wA.heap[w.heap.size]? = some (.cells #[.int .i64 k, .int .i64 i, .int .i64 a, .int .i64 x, .int .u8 f, .slice ao n c, .slice bo m e] 41 (0, 0)) := by rw [hwA]; exact heap_alloc_new w _
  have u0 : wA.cell? ⟨w.heap.size, 0, none⟩ = some (.int .i64 k) := cell_of_row wA _ 0 _ _ _ uA
  have PA := hid_intro (h.keptN gA)
  have HX : Hid (¬ F1 w.heap.size ∧ ¬ F2 w.heap.size ∧ w.heap.size ≠ P ∧ w.heap.size ≠ g) := ⟨fun e => by have := h.dz.low _ e; omega, fun e => by have := h.rz.low _ e; omega, fun e => by have := h.lt; omega, fun e => by have := (h.own.lt g rfl).2; omega⟩
  have HA := hid_intro hwA
  have UA := hid_intro uA
  have SA := hid_intro sA
  have GA := hid_intro gA
  have c0 := PA.out.c0
  have c1 := PA.out.c1
  have a0 : (w.alloc (.cells #[.int .i64 k, .int .i64 i, .int .i64 a, .int .i64 x, .int .u8 f, .slice ao n c, .slice bo m e] 41)).cell? ⟨P, 0, none⟩ = some (.pointer (some ⟨B, 0, none⟩)) := by rw [← hwA]; exact c0
  have a1 : (w.alloc (.cells #[.int .i64 k, .int .i64 i, .int .i64 a, .int .i64 x, .int .u8 f, .slice ao n c, .slice bo m e] 41)).cell? ⟨P, 1, none⟩ = some (.pointer (some ⟨R, 0, none⟩)) := by rw [← hwA]; exact c1
  clear hwA gA sA uA h
  go_enter Try.func14, Try.ntmps14
  go_wp2
  rw [← HA.out]
  go_ret
  exact ⟨rfl, _, _, _, _, _, PA.out⟩

set_option maxHeartbeats 16000000 in
set_option maxRecDepth 8000 in
theorem step12_4 {w0 w : World} {P B R : Nat} {F1 F2 : Nat → Prop} {g cap : Nat} {zs : List Int} {s : Ds} (h : Pp w0 w P B R F1 F2 (.slice (some ⟨g, 0, none⟩) zs.length cap) zs s) (i a x f : Int) (ao : Option Addr) (n c : Nat) (bo : Option Addr) (m e : Nat) (hd : s.done < 1099511627776) (hl : s.left < 9223372036854775808) : Calls Try.prog 14 #[.pointer (some ⟨P, 0, none⟩), opv 4 i a x f ao n c bo m e] w fun en w' => en = .returned (.bool true) ∧ Pq w0 w' P B R s.sy := by
  unfold opv
  obtain ⟨wA, hwA⟩ : ∃ wA, wA = w.alloc (.cells #[.int .i64 4, .int .i64 i, .int .i64 a, .int .i64 x, .int .u8 f, .slice ao n c, .slice bo m e] 41) := ⟨_, rfl⟩
  have gA : w.grownBy wA none := by rw [hwA]; exact World.grownBy_alloc _ _ _
  have sA : wA.heap.size = w.heap.size + 1 := by rw [hwA]; simp
  have uA : wA.heap[w.heap.size]? = some (.cells #[.int .i64 4, .int .i64 i, .int .i64 a, .int .i64 x, .int .u8 f, .slice ao n c, .slice bo m e] 41 (0, 0)) := by rw [hwA]; exact heap_alloc_new w _
  have u0 : wA.cell? ⟨w.heap.size, 0, none⟩ = some (.int .i64 4) := cell_of_row wA _ 0 _ _ _ uA
  have PA := hid_intro (h.keptN gA)
  have HX : Hid (¬ F1 w.heap.size ∧ ¬ F2 w.heap.size ∧ w.heap.size ≠ P ∧ w.heap.size ≠ g) := ⟨fun e => by have := h.dz.low _ e; omega, fun e => by have := h.rz.low _ e; omega, fun e => by have := h.lt; omega, fun e => by have := (h.own.lt g rfl).2; omega⟩
  have HA := hid_intro hwA
  have UA := hid_intro uA
  have SA := hid_intro sA
  have GA := hid_intro gA
  have c0 := PA.out.c0
  have c1 := PA.out.c1
  have a0 : (w.alloc (.cells #[.int .i64 4, .int .i64 i, .int .i64 a, .int .i64 x, .int .u8 f, .slice ao n c, .slice bo m e] 41)).cell? ⟨P, 0, none⟩ = some (.pointer (some ⟨B, 0, none⟩)) := by rw [← hwA]; exact c0
  have a1 : (w.alloc (.cells #[.int .i64 4, .int .i64 i, .int .i64 a, .int .i64 x, .int .u8 f, .slice ao n c, .slice bo m e] 41)).cell? ⟨P, 1, none⟩ = some (.pointer (some ⟨R, 0, none⟩)) := by rw [← hwA]; exact c1
  clear hwA gA sA uA h
  go_enter Try.func14, Try.ntmps14
  go_wp2_with fail
  rw [← HA.out]
  refine (dz_sync_any PA.out.dz hd hl).mono ?_
  rintro en w2 ⟨rfl, F1', hi1, hz1, hk1⟩
  have T2 := hid_intro (PA.out.cP hk1)
  have d1 := T2.out.2
  have R2 := hid_intro (PA.out.rK hk1)
  have I1 := hid_intro hi1
  have Z1 := hid_intro hz1
  have K1 := hid_intro hk1
  clear hi1 hz1 hk1 c0 c1 a0 a1
  go_wp2_with fail
  go_region_held3 (fun w' => w'.cell? ⟨P, 1, none⟩ = some (.pointer (some ⟨R, 0, none⟩))) (first | exact d1 | exact T3.out | go_keep)
    (first
      | (go_at_call 13; refine (num_12 _ _ s.sa_i64).mono ?_; rintro en w3 ⟨rfl, rfl⟩)
      | (go_at_call 37; refine (rz_sync_any (R2.out.keptN ((Qt.refl w2).drew.grown none)) hd hl).mono ?_; rintro en w3 ⟨rfl, F2', hi2, hz2, hk2⟩; have T3 := hid_intro (hk2.cellX (fun e => (PA.out.f2 P e).2.1 rfl) (show w2.drew.cell? ⟨P, 1, none⟩ = _ from d1)); have FIN := hid_intro (PA.out.both4 I1.out Z1.out K1.out ((Qt.refl w2).drew.grown none) hi2 hz2 hk2); clear hi2 hz2 hk2))
  all_goals
    go_wp2
    go_ret
    exact ⟨by simp, _, _, _, _, _, FIN.out⟩

end Go.Proofs.Ytiljdhhfhjhhiaa
