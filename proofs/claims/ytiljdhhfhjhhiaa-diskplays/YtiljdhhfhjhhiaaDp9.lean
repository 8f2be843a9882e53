import Derived.Test.YtiljdhhfhjhhiaaDp8
namespace Go.Proofs.Ytiljdhhfhjhhiaa
open Go.RowKit Go.MuLone
set_option maxHeartbeats 16000000 in
set_option maxRecDepth 8000 in
theorem step12_5 {w0 w : World} {P B R : Nat} {F1 F2 : Nat → Prop} {g cap : Nat} {zs : List Int} {s : Ds} (h : Pp w0 w P B R F1 F2 (.slice (some ⟨g, 0, none⟩) zs.length cap) zs s) (i a x f : Int) (ao : Option Addr) (n c : Nat) (bo : Option Addr) (m e : Nat)  : Calls Try.prog 14 #[.pointer (some ⟨P, 0, none⟩), opv 5 i a x f ao n c bo m e] w fun en w' => en = .returned (.bool true) ∧ Pq w0 w' P B R (s.armed i) := by
  unfold opv
  obtain ⟨wA, hwA⟩ : ∃ wA, wA = w.alloc (.cells #[.int .i64 5, .int .i64 i, .int .i64 a, .int .i64 x, .int .u8 f, .slice ao n c, .slice bo m e] 41) := ⟨_, rfl⟩
  have gA : w.grownBy wA none := by rw [hwA]; exact World.grownBy_alloc _ _ _
  have sA : wA.heap.size = w.heap.size + 1 := by rw [hwA]; simp
  have uA : wA.heap[w.heap.size]? = some (.cells #[.int .i64 5, .int .i64 i, .int .i64 a, .int .i64 x, .int .u8 f, .slice ao n c, .slice bo m e] 41 (0, 0)) := by rw [hwA]; exact heap_alloc_new w _
  have u0 : wA.cell? ⟨w.heap.size, 0, none⟩ = some (.int .i64 5) := cell_of_row wA _ 0 _ _ _ uA
  have u1 : wA.cell? ⟨w.heap.size, 1, none⟩ = some (.int .i64 i) := cell_of_row wA _ 1 _ _ _ uA
  have PA := hid_intro (h.keptN gA)
  have HX : Hid (¬ F1 w.heap.size ∧ ¬ F2 w.heap.size ∧ w.heap.size ≠ P ∧ w.heap.size ≠ g) := ⟨fun e => by have := h.dz.low _ e; omega, fun e => by have := h.rz.low _ e; omega, fun e => by have := h.lt; omega, fun e => by have := (h.own.lt g rfl).2; omega⟩
  have HA := hid_intro hwA
  have UA := hid_intro uA
  have SA := hid_intro sA
  have GA := hid_intro gA
  have c0 := PA.out.c0
  have c1 := PA.out.c1
  have a0 : (w.alloc (.cells #[.int .i64 5, .int .i64 i, .int .i64 a, .int .i64 x, .int .u8 f, .slice ao n c, .slice bo m e] 41)).cell? ⟨P, 0, none⟩ = some (.pointer (some ⟨B, 0, none⟩)) := by rw [← hwA]; exact c0
  have a1 : (w.alloc (.cells #[.int .i64 5, .int .i64 i, .int .i64 a, .int .i64 x, .int .u8 f, .slice ao n c, .slice bo m e] 41)).cell? ⟨P, 1, none⟩ = some (.pointer (some ⟨R, 0, none⟩)) := by rw [← hwA]; exact c1
  clear hwA gA sA uA h
  go_enter Try.func14, Try.ntmps14
  have PD := hid_intro (PA.out.keptN ((Qt.refl wA).drew.grown none))
  go_wp2_with fail
  rw [← HA.out]
  go_region_held3 (fun w' => w'.cell? ⟨P, 0, none⟩ = some (.pointer (some ⟨B, 0, none⟩)) ∧ w'.cell? ⟨w.heap.size, 1, none⟩ = some (.int .i64 i)) (first | exact ⟨c0, u1⟩ | exact T2.out | go_keep)
    (first
      | (go_at_call 31; refine (dz_arm PD.out.dz i).mono ?_; rintro en w2 ⟨rfl, hz1, hk1⟩; have hi1 : ∀ k, F1 k → Nf F1 wA.drew w2 k := fun k e => .inl e; have T2 := hid_intro (show w2.cell? ⟨P, 0, none⟩ = some (.pointer (some ⟨B, 0, none⟩)) ∧ w2.cell? ⟨w.heap.size, 1, none⟩ = some (.int .i64 i) from ⟨hk1.cellX (fun e => (PD.out.f1 P e).2.1 rfl) PD.out.c0, hk1.cellX HX.out.1 (show wA.drew.cell? _ = _ from u1)⟩); have I1 := hid_intro hi1; have Z1 := hid_intro hz1; have K1 := hid_intro hk1; have d1 := (PD.out.cP hk1).2; have R2 := hid_intro (PD.out.rK hk1); have v1 := T2.out.2; clear hi1 hz1 hk1 c0 c1 a0 a1))
  all_goals
    clear T2
    clear u1
    go_wp2_with fail
    go_region_held3 (fun w' => w'.cell? ⟨P, 1, none⟩ = some (.pointer (some ⟨R, 0, none⟩)) ∧ w'.cell? ⟨w.heap.size, 1, none⟩ = some (.int .i64 i)) (first | exact ⟨d1, v1⟩ | exact T3.out | go_keep)
      (first
        | (go_at_call 13; refine (num_12 _ _ (s.arm_i64 i)).mono ?_; rintro en w3 ⟨rfl, rfl⟩)
        | (go_at_call 38; refine (rz_arm (R2.out.keptN ((Qt.refl w2).drew.grown none)) i).mono ?_; rintro en w3 ⟨rfl, hz2, hk2⟩; have hi2 : ∀ k, F2 k → Nf F2 w2.drew w3 k := fun k e => .inl e; have T3 := hid_intro (show w3.cell? ⟨P, 1, none⟩ = some (.pointer (some ⟨R, 0, none⟩)) ∧ w3.cell? ⟨w.heap.size, 1, none⟩ = some (.int .i64 i) from ⟨hk2.cellX (fun e => (PA.out.f2 P e).2.1 rfl) (show w2.drew.cell? _ = _ from d1), hk2.cellX HX.out.2.1 (show w2.drew.cell? _ = _ from v1)⟩); have FIN := hid_intro (PD.out.both4 I1.out Z1.out K1.out ((Qt.refl w2).drew.grown none) hi2 hz2 hk2); clear hi2 hz2 hk2))
    all_goals
      go_wp2
      go_ret
      exact ⟨by simp, _, _, _, _, _, FIN.out⟩

set_option maxHeartbeats 16000000 in
set_option maxRecDepth 8000 in
theorem step12_7 {w0 w : World} {P B R : Nat} {F1 F2 : Nat → Prop} {g cap : Nat} {zs : List Int} {s : Ds} (h : Pp w0 w P B R F1 F2 (.slice (some ⟨g, 0, none⟩) zs.length cap) zs s) (i a x f : Int) (ao : Option Addr) (n c : Nat) (bo : Option Addr) (m e : Nat) (hd : s.done < 1099511627776) : Calls Try.prog 14 #[.pointer (some ⟨P, 0, none⟩), opv 7 i a x f ao n c bo m e] w fun en w' => en = .returned (.bool true) ∧ Pq w0 w' P B R (s.rt i a x) := by
  unfold opv
  obtain ⟨wA, hwA⟩ : ∃ wA, wA = w.alloc (.cells #[.int .i64 7, .int .i64 i, .int .i64 a, .int .i64 x, .int .u8 f, .slice ao n c, .slice bo m e] 41) := ⟨_, rfl⟩
  have gA : w.grownBy wA none := by rw [hwA]; exact World.grownBy_alloc _ _ _
  have sA : wA.heap.size = w.heap.size + 1 := by rw [hwA]; simp
  have uA : wA.heap[w.heap.size]? = some (.cells #[.int .i64 7, .int .i64 i, .int .i64 a, .int .i64 x, .int .u8 f, .slice ao n c, .slice bo m e] 41 (0, 0)) := by rw [hwA]; exact heap_alloc_new w _
  have u0 : wA.cell? ⟨w.heap.size, 0, none⟩ = some (.int .i64 7) := cell_of_row wA _ 0 _ _ _ uA
  have u1 : wA.cell? ⟨w.heap.size, 1, none⟩ = some (.int .i64 i) := cell_of_row wA _ 1 _ _ _ uA
  have u2 : wA.cell? ⟨w.heap.size, 2, none⟩ = some (.int .i64 a) := cell_of_row wA _ 2 _ _ _ uA
  have u3 : wA.cell? ⟨w.heap.size, 3, none⟩ = some (.int .i64 x) := cell_of_row wA _ 3 _ _ _ uA
  have PA := hid_intro (h.keptN gA)
  have HX : Hid (¬ F1 w.heap.size ∧ ¬ F2 w.heap.size ∧ w.heap.size ≠ P ∧ w.heap.size ≠ g) := ⟨fun e => by have := h.dz.low _ e; omega, fun e => by have := h.rz.low _ e; omega, fun e => by have := h.lt; omega, fun e => by have := (h.own.lt g rfl).2; omega⟩
  have HA := hid_intro hwA
  have UA := hid_intro uA
  have SA := hid_intro sA
  have GA := hid_intro gA
  have c0 := PA.out.c0
  have c1 := PA.out.c1
  have a0 : (w.alloc (.cells #[.int .i64 7, .int .i64 i, .int .i64 a, .int .i64 x, .int .u8 f, .slice ao n c, .slice bo m e] 41)).cell? ⟨P, 0, none⟩ = some (.pointer (some ⟨B, 0, none⟩)) := by rw [← hwA]; exact c0
  have a1 : (w.alloc (.cells #[.int .i64 7, .int .i64 i, .int .i64 a, .int .i64 x, .int .u8 f, .slice ao n c, .slice bo m e] 41)).cell? ⟨P, 1, none⟩ = some (.pointer (some ⟨R, 0, none⟩)) := by rw [← hwA]; exact c1
  clear hwA gA sA uA h
  go_enter Try.func14, Try.ntmps14
  have PD := hid_intro (PA.out.keptN ((Qt.refl wA).drew.grown none))
  go_wp2_with fail
  rw [← HA.out]
  go_region_held3 (fun w' => w'.cell? ⟨P, 0, none⟩ = some (.pointer (some ⟨B, 0, none⟩)) ∧ w'.cell? ⟨w.heap.size, 1, none⟩ = some (.int .i64 i) ∧ w'.cell? ⟨w.heap.size, 2, none⟩ = some (.int .i64 a) ∧ w'.cell? ⟨w.heap.size, 3, none⟩ = some (.int .i64 x)) (first | exact ⟨c0, u1, u2, u3⟩ | exact T2.out | go_keep)
    (first
      | (go_at_call 40; refine (dz_rot_any PD.out.dz hd i a x).mono ?_; rintro en w2 ⟨rfl, F1', hi1, hz1, hk1⟩; have T2 := hid_intro (show w2.cell? ⟨P, 0, none⟩ = some (.pointer (some ⟨B, 0, none⟩)) ∧ w2.cell? ⟨w.heap.size, 1, none⟩ = some (.int .i64 i) ∧ w2.cell? ⟨w.heap.size, 2, none⟩ = some (.int .i64 a) ∧ w2.cell? ⟨w.heap.size, 3, none⟩ = some (.int .i64 x) from ⟨hk1.cellX (fun e => (PD.out.f1 P e).2.1 rfl) PD.out.c0, hk1.cellX HX.out.1 (show wA.drew.cell? _ = _ from u1), hk1.cellX HX.out.1 (show wA.drew.cell? _ = _ from u2), hk1.cellX HX.out.1 (show wA.drew.cell? _ = _ from u3)⟩); have I1 := hid_intro hi1; have Z1 := hid_intro hz1; have K1 := hid_intro hk1; have d1 := (PD.out.cP hk1).2; have R2 := hid_intro (PD.out.rK hk1); have v1 := T2.out.2.1; have v2 := T2.out.2.2.1; have v3 := T2.out.2.2.2; clear hi1 hz1 hk1 c0 c1 a0 a1))
  all_goals
    clear T2
    clear u1 u2 u3
    go_wp2_with fail
    go_region_held3 (fun w' => w'.cell? ⟨P, 1, none⟩ = some (.pointer (some ⟨R, 0, none⟩)) ∧ w'.cell? ⟨w.heap.size, 1, none⟩ = some (.int .i64 i) ∧ w'.cell? ⟨w.heap.size, 2, none⟩ = some (.int .i64 a) ∧ w'.cell? ⟨w.heap.size, 3, none⟩ = some (.int .i64 x)) (first | exact ⟨d1, v1, v2, v3⟩ | exact T3.out | go_keep)
      (first
        | (go_at_call 13; refine (num_12 _ _ (s.ra_i64 i a x)).mono ?_; rintro en w3 ⟨rfl, rfl⟩)
        | (go_at_call 41; refine (rz_rot_any (R2.out.keptN ((Qt.refl w2).drew.grown none)) hd i a x).mono ?_; rintro en w3 ⟨rfl, F2', hi2, hz2, hk2⟩; have T3 := hid_intro (show w3.cell? ⟨P, 1, none⟩ = some (.pointer (some ⟨R, 0, none⟩)) ∧ w3.cell? ⟨w.heap.size, 1, none⟩ = some (.int .i64 i) ∧ w3.cell? ⟨w.heap.size, 2, none⟩ = some (.int .i64 a) ∧ w3.cell? ⟨w.heap.size, 3, none⟩ = some (.int .i64 x) from ⟨hk2.cellX (fun e => (PA.out.f2 P e).2.1 rfl) (show w2.drew.cell? _ = _ from d1), hk2.cellX HX.out.2.1 (show w2.drew.cell? _ = _ from v1), hk2.cellX HX.out.2.1 (show w2.drew.cell? _ = _ from v2), hk2.cellX HX.out.2.1 (show w2.drew.cell? _ = _ from v3)⟩); have FIN := hid_intro (PD.out.both4 I1.out Z1.out K1.out ((Qt.refl w2).drew.grown none) hi2 hz2 hk2); clear hi2 hz2 hk2))
    all_goals
      go_wp2
      go_ret
      exact ⟨by simp, _, _, _, _, _, FIN.out⟩

end Go.Proofs.Ytiljdhhfhjhhiaa
