import Derived.Test.YtiljdhhfhjhhiaaDpB
namespace Go.Proofs.Ytiljdhhfhjhhiaa
open Go.RowKit Go.MuLone

theorem Pp.kept {w0 w w' : World} {P B R : Nat} {F1 F2 : Nat → Prop} {v : Value} {zs : List Int} {s : Ds} {q : Nat} (h : Pp w0 w P B R F1 F2 v zs s) (hg : w.grownBy w' (some q)) (h0 : w0.heap.size ≤ q) (h1 : q ≠ P) (h2 : ¬ F1 q) (h3 : ¬ F2 q) (h4 : v.ownBlock ≠ some q) : Pp w0 w' P B R F1 F2 v zs s :=
  ⟨(hg.block P h.lt (fun e => h1 (Option.some.inj e).symm)).trans h.bx, h.dz.kept hg (fun k e => by rw [← Option.some.inj e]; exact h2), h.rz.kept hg (fun k e => by rw [← Option.some.inj e]; exact h3), h.own.kept hg (.inr h4),
   ⟨hg.os.trans h.gr.os, hg.tape.trans h.gr.tape, hg.output.trans h.gr.output, Nat.le_trans h.gr.size hg.size, fun k hk hn => (hg.block k (Nat.lt_of_lt_of_le hk h.gr.size) (fun e => by have := Option.some.inj e; omega)).trans (h.gr.block k hk hn)⟩, h.f1, h.f2, h.gp, h.vp⟩

def Rbad (s : Ds) (i er : Int) : Prop := (er = 121 ∧ (i < 0 ∨ (s.pages : Int) ≤ i)) ∨ (er = 123 ∧ 0 ≤ i ∧ i < s.pages ∧ s.off = true)
theorem Rbad.i64 {s : Ds} {i er : Int} (h : Rbad s i er) : -9223372036854775808 ≤ er ∧ er ≤ 9223372036854775807 := by
  unfold Rbad at h; omega
theorem dz_read_bad {w : World} {B : Nat} {F : Nat → Prop} {s : Ds} (h : Dz w B F s) (i er : Int) (hr : Rbad s i er) : Calls Try.prog 17 #[.pointer (some ⟨B, 0, none⟩), .int .i64 i] w fun e w' => e = .returned (.tuple #[.slice none 0 0, .int .i64 er]) ∧ Dz w' B F s ∧ Kp w w' F := by
  rcases hr with ⟨rfl, h1⟩ | ⟨rfl, h0, h1, h2⟩
  · exact dz_read_no h i h1
  · obtain ⟨j, rfl⟩ := Int.eq_ofNat_of_zero_le h0
    exact dz_read_off h j (by omega) h2
theorem rz_read_bad {w : World} {B : Nat} {F : Nat → Prop} {s : Ds} (h : Rz w B F s) (hd : s.done < 1099511627776) (i er : Int) (hr : Rbad s i er) : Calls Try.prog 34 #[.pointer (some ⟨B, 0, none⟩), .int .i64 i] w fun e w' => e = .returned (.tuple #[.slice none 0 0, .int .i64 er]) ∧ w' = w := by
  rcases hr with ⟨rfl, h1⟩ | ⟨rfl, h0, h1, h2⟩
  · exact rz_read_no h hd i h1
  · obtain ⟨j, rfl⟩ := Int.eq_ofNat_of_zero_le h0
    exact rz_read_off h hd j (by omega) h2

set_option maxHeartbeats 16000000 in
set_option maxRecDepth 8000 in
theorem step12_1n {w0 w : World} {P B R : Nat} {F1 F2 : Nat → Prop} {g cap : Nat} {zs : List Int} {s : Ds} (h : Pp w0 w P B R F1 F2 (.slice (some ⟨g, 0, none⟩) zs.length cap) zs s) (i a x f : Int) (ao : Option Addr) (n c : Nat) (bo : Option Addr) (m e : Nat) (er : Int) (hr : Rbad s i er) (hd : s.done < 1099511627776) : Calls Try.prog 14 #[.pointer (some ⟨P, 0, none⟩), opv 1 i a x f ao n c bo m e] w fun en w' => en = .returned (.bool true) ∧ Pq w0 w' P B R s := by
  unfold opv
  obtain ⟨wA, hwA⟩ : ∃ wA, wA = w.alloc (.cells #[.int .i64 1, .int .i64 i, .int .i64 a, .int .i64 x, .int .u8 f, .slice ao n c, .slice bo m e] 41) := ⟨_, rfl⟩
  have gA : w.grownBy wA none := by rw [hwA]; exact World.grownBy_alloc _ _ _
  have sA : wA.heap.size = w.heap.size + 1 := by rw [hwA]; simp
  have uA : wA.heap[w.heap.size]? = some (.cells #[.int .i64 1, .int .i64 i, .int .i64 a, .int .i64 x, .int .u8 f, .slice ao n c, .slice bo m e] 41 (0, 0)) := by rw [hwA]; exact heap_alloc_new w _
  have u0 : wA.cell? ⟨w.heap.size, 0, none⟩ = some (.int .i64 1) := cell_of_row wA _ 0 _ _ _ uA
  have u1 : wA.cell? ⟨w.heap.size, 1, none⟩ = some (.int .i64 i) := cell_of_row wA _ 1 _ _ _ uA
  have PA := hid_intro (h.keptN gA)
  have HX : Hid (¬ F1 w.heap.size ∧ ¬ F2 w.heap.size ∧ w.heap.size ≠ P ∧ w.heap.size ≠ g) := ⟨fun e => by have := h.dz.low _ e; omega, fun e => by have := h.rz.low _ e; omega, fun e => by have := h.lt; omega, fun e => by have := (h.own.lt g rfl).2; omega⟩
  have HA := hid_intro hwA
  have UA := hid_intro uA
  have SA := hid_intro sA
  have GA := hid_intro gA
  have c0 := PA.out.c0
  have c1 := PA.out.c1
  have a0 : (w.alloc (.cells #[.int .i64 1, .int .i64 i, .int .i64 a, .int .i64 x, .int .u8 f, .slice ao n c, .slice bo m e] 41)).cell? ⟨P, 0, none⟩ = some (.pointer (some ⟨B, 0, none⟩)) := by rw [← hwA]; exact c0
  have a1 : (w.alloc (.cells #[.int .i64 1, .int .i64 i, .int .i64 a, .int .i64 x, .int .u8 f, .slice ao n c, .slice bo m e] 41)).cell? ⟨P, 1, none⟩ = some (.pointer (some ⟨R, 0, none⟩)) := by rw [← hwA]; exact c1
  clear hwA gA sA uA h
  go_enter Try.func14, Try.ntmps14
  have PD := hid_intro (PA.out.keptN ((Qt.refl wA).drew.grown none))
  go_wp2_with fail
  rw [← HA.out]
  go_region_held3 (fun w' => w'.cell? ⟨P, 0, none⟩ = some (.pointer (some ⟨B, 0, none⟩)) ∧ w'.cell? ⟨w.heap.size, 1, none⟩ = some (.int .i64 i)) (first | exact ⟨c0, u1⟩ | exact T2.out | go_keep)
    (first
      | (go_at_call 17; refine (dz_read_bad PD.out.dz i er hr).mono ?_; rintro en w2 ⟨rfl, hz1, hk1⟩; have T2 := hid_intro (show w2.cell? ⟨P, 0, none⟩ = some (.pointer (some ⟨B, 0, none⟩)) ∧ w2.cell? ⟨w.heap.size, 1, none⟩ = some (.int .i64 i) from ⟨hk1.cellX (fun e => (PD.out.f1 P e).2.1 rfl) PD.out.c0, hk1.cellX HX.out.1 (show wA.drew.cell? _ = _ from u1)⟩); have d1 := (PD.out.cP hk1).2; have v1 := T2.out.2; have P2 := hid_intro ((PD.out.ask hz1 hk1).keptN ((Qt.refl w2).drew.grown none)); clear hz1 hk1 c0 c1 a0 a1))
  all_goals
    clear T2
    clear u1
    go_wp2_with fail
    go_region_held3 (fun w' => w'.cell? ⟨P, 1, none⟩ = some (.pointer (some ⟨R, 0, none⟩)) ∧ w'.cell? ⟨w.heap.size, 1, none⟩ = some (.int .i64 i)) (first | exact ⟨d1, v1⟩ | exact T3.out | go_keep)
      (first
        | (go_at_call 34; refine (rz_read_bad P2.out.rz hd i er hr).mono ?_; rintro en w3 ⟨rfl, rfl⟩))
    all_goals
      go_wp2_with fail
      refine (same_yes none none 0 0 0 0 [] [] _ (Byt.empty _) (Byt.empty _) rfl).mono ?_
      rintro en w4 ⟨rfl, rfl⟩
      go_wp2_with fail
      go_loopw [10] (fun si wr => si = .int .i64 0 ∧ Pp w0 wr P B R F1 F2 (.slice (some ⟨g, 0, none⟩) zs.length cap) zs s) (fun _ _ => 0)
      case atStart => exact ⟨rfl, P2.out⟩
      case round =>
        obtain ⟨rfl, hp⟩ := hrel
        have FIN := hid_intro hp
        clear hp
        go_wp2_with fail
        refine (num_12 _ _ hr.i64).mono ?_
        rintro en w5 ⟨rfl, rfl⟩
        go_wp2
        go_ret
        exact ⟨by simp, _, _, _, _, _, FIN.out⟩

set_option maxHeartbeats 16000000 in
set_option maxRecDepth 8000 in
theorem step12_1y {w0 w : World} {P B R : Nat} {F1 F2 : Nat → Prop} {g cap : Nat} {zs : List Int} {s : Ds} (h : Pp w0 w P B R F1 F2 (.slice (some ⟨g, 0, none⟩) zs.length cap) zs s) (i : Nat) (a x f : Int) (ao : Option Addr) (n c : Nat) (bo : Option Addr) (m e : Nat) (hi : i < s.pages) (ho : s.off = false) (hre : s.reads < 4611686018427387904) (hd : s.done < 1099511627776) : Calls Try.prog 14 #[.pointer (some ⟨P, 0, none⟩), opv 1 (i : Int) a x f ao n c bo m e] w fun en w' => en = .returned (.bool true) ∧ Pq w0 w' P B R s.read := by
  unfold opv
  obtain ⟨wA, hwA⟩ : ∃ wA, wA = w.alloc (.cells #[.int .i64 1, .int .i64 (i : Int), .int .i64 a, .int .i64 x, .int .u8 f, .slice ao n c, .slice bo m e] 41) := ⟨_, rfl⟩
  have gA : w.grownBy wA none := by rw [hwA]; exact World.grownBy_alloc _ _ _
  have sA : wA.heap.size = w.heap.size + 1 := by rw [hwA]; simp
  have uA : wA.heap[w.heap.size]? = some (.cells #[.int .i64 1, .int .i64 (i : Int), .int .i64 a, .int .i64 x, .int .u8 f, .slice ao n c, .slice bo m e] 41 (0, 0)) := by rw [hwA]; exact heap_alloc_new w _
  have u0 : wA.cell? ⟨w.heap.size, 0, none⟩ = some (.int .i64 1) := cell_of_row wA _ 0 _ _ _ uA
  have u1 : wA.cell? ⟨w.heap.size, 1, none⟩ = some (.int .i64 (i : Int)) := cell_of_row wA _ 1 _ _ _ uA
  have PA := hid_intro (h.keptN gA)
  have HX : Hid (¬ F1 w.heap.size ∧ ¬ F2 w.heap.size ∧ w.heap.size ≠ P ∧ w.heap.size ≠ g) := ⟨fun e => by have := h.dz.low _ e; omega, fun e => by have := h.rz.low _ e; omega, fun e => by have := h.lt; omega, fun e => by have := (h.own.lt g rfl).2; omega⟩
  have HA := hid_intro hwA
  have UA := hid_intro uA
  have SA := hid_intro sA
  have GA := hid_intro gA
  have c0 := PA.out.c0
  have c1 := PA.out.c1
  have a0 : (w.alloc (.cells #[.int .i64 1, .int .i64 (i : Int), .int .i64 a, .int .i64 x, .int .u8 f, .slice ao n c, .slice bo m e] 41)).cell? ⟨P, 0, none⟩ = some (.pointer (some ⟨B, 0, none⟩)) := by rw [← hwA]; exact c0
  have a1 : (w.alloc (.cells #[.int .i64 1, .int .i64 (i : Int), .int .i64 a, .int .i64 x, .int .u8 f, .slice ao n c, .slice bo m e] 41)).cell? ⟨P, 1, none⟩ = some (.pointer (some ⟨R, 0, none⟩)) := by rw [← hwA]; exact c1
  clear hwA gA sA uA h
  go_enter Try.func14, Try.ntmps14
  have PD := hid_intro (PA.out.keptN ((Qt.refl wA).drew.grown none))
  go_wp2_with fail
  rw [← HA.out]
  go_region_held3 (fun w' => w'.cell? ⟨P, 0, none⟩ = some (.pointer (some ⟨B, 0, none⟩)) ∧ w'.cell? ⟨w.heap.size, 1, none⟩ = some (.int .i64 (i : Int))) (first | exact ⟨c0, u1⟩ | exact T2.out | go_keep)
    (first
      | (go_at_call 17; refine (dz_read PD.out.dz i hi ho hre).mono ?_; rintro en w2 ⟨q1, rfl, hr1, hq1, hpl, hpb, hz1, hk1⟩; have T2 := hid_intro (show w2.cell? ⟨P, 0, none⟩ = some (.pointer (some ⟨B, 0, none⟩)) ∧ w2.cell? ⟨w.heap.size, 1, none⟩ = some (.int .i64 (i : Int)) from ⟨hk1.cellX (fun e => (PD.out.f1 P e).2.1 rfl) PD.out.c0, hk1.cellX HX.out.1 (show wA.drew.cell? _ = _ from u1)⟩); have d1 := (PD.out.cP hk1).2; have v1 := T2.out.2; have Z1 := hid_intro hz1; have K1 := hid_intro hk1; have R1 := hid_intro hr1; have Q1 := hid_intro (And.intro hq1 hpl); have R2 := hid_intro (PD.out.rK hk1); clear hz1 hk1 hr1 hq1 hpl hpb c0 c1 a0 a1))
  all_goals
    clear T2
    clear u1
    go_wp2_with fail
    go_region_held3 (fun w' => w'.cell? ⟨P, 1, none⟩ = some (.pointer (some ⟨R, 0, none⟩)) ∧ w'.cell? ⟨w.heap.size, 1, none⟩ = some (.int .i64 (i : Int))) (first | exact ⟨d1, v1⟩ | exact T3.out | go_keep)
      (first
        | (go_at_call 34; refine (rz_read (R2.out.keptN ((Qt.refl w2).drew.grown none)) hd i hi ho hre (fun h1 => PD.out.dz.gap i h1 hi)).mono ?_; rintro en w3 ⟨q2, rfl, hr2, hq2, hz2, hk2⟩; have T3 := hid_intro (show w3.cell? ⟨P, 1, none⟩ = some (.pointer (some ⟨R, 0, none⟩)) ∧ w3.cell? ⟨w.heap.size, 1, none⟩ = some (.int .i64 (i : Int)) from ⟨hk2.cellX (fun e => (PA.out.f2 P e).2.1 rfl) (show w2.drew.cell? _ = _ from d1), hk2.cellX HX.out.2.1 (show w2.drew.cell? _ = _ from v1)⟩); have FIN := hid_intro (PD.out.both4 (fun k e => .inl e) Z1.out K1.out ((Qt.refl w2).drew.grown none) (fun k e => .inl e) hz2 hk2); have NQ := hid_intro (show ¬ F1 q1 ∧ ¬ F2 q1 ∧ q1 ≠ P ∧ q1 ≠ g from ⟨fun e => by have := PD.out.dz.low _ e; have := Q1.out.1; omega, fun e => by have := PD.out.rz.low _ e; have := Q1.out.1; omega, fun e => by have := PD.out.lt; have := Q1.out.1; omega, fun e => by have := (PD.out.own.lt g rfl).2; have := Q1.out.1; omega⟩); have R3 := hid_intro (show Rw w3 q1 (s.page i) from (hk2.block q1 (R1.out.keptN ((Qt.refl w2).drew.grown none)).lt NQ.out.2.1).trans (R1.out.keptN ((Qt.refl w2).drew.grown none))); have R4 := hid_intro hr2; clear hr2 hq2 hz2 hk2))
    all_goals
      go_wp2_with fail
      refine (same_yes (some ⟨q1, 0, none⟩) (some ⟨q2, 0, none⟩) 4096 4096 4096 4096 (s.page i) (s.page i) _ (R3.out.all 4096 4096 Q1.out.2.symm) (R4.out.all 4096 4096 Q1.out.2.symm) rfl).mono ?_
      rintro en w4 ⟨rfl, hw4⟩
      rw [hw4]
      clear hw4
      clear w4
      go_wp2_with fail
      go_loopw [10] (fun si wr => ∃ k : Nat, k ≤ 4096 ∧ si = .int .i64 (k : Int) ∧ (∃ zq, Rw wr q1 zq ∧ zq.length = 4096) ∧ w3.grownBy wr (some q1)) (fun si _ => 4096 - (intOf si).toNat)
      case atStart => exact ⟨0, by omega, rfl, ⟨_, R3.out, Q1.out.2⟩, World.grownBy.refl _ _⟩
      case round =>
        obtain ⟨k, hk, rfl, ⟨zq, hzq, hzl⟩, hg⟩ := hrel
        by_cases hlt : k < 4096
        · have hlt' : (k : Int) < 4096 := by omega
          have cp := hzq.cell k (by omega)
          have fp_ := hzq.fz k
          have HR := hid_intro (hzq.set k 35)
          have HG := hid_intro (grown_trans hg (grown_cell wr q1 k (.int .u8 35)))
          have HZL := hid_intro hzl
          clear hzq hg hzl
          go_wp2
          go_roundw
          case rel => exact ⟨k + 1, by omega, by go_num, ⟨_, HR.out, by simp [HZL.out]⟩, HG.out⟩
          case measure => simp [intOf]; omega
        · have hlt' : ¬ (k : Int) < 4096 := by omega
          have FI := hid_intro (FIN.out.kept hg (by have := Q1.out.1; have := PD.out.gr.size; omega) NQ.out.2.2.1 NQ.out.1 NQ.out.2.1 (fun e => NQ.out.2.2.2 (Option.some.inj e).symm))
          clear hzq hg
          go_wp2_with fail
          refine (num_12 _ _ (by omega)).mono ?_
          rintro en w5 ⟨rfl, rfl⟩
          go_wp2
          go_ret
          exact ⟨by simp, _, _, _, _, _, FI.out⟩

end Go.Proofs.Ytiljdhhfhjhhiaa
