import Derived.Test.YtiljdhhfhjhhiaaDpA
import Derived.Test.YtiljdhhfhjhhiaaDkV
namespace Go.Proofs.Ytiljdhhfhjhhiaa
open Go.RowKit Go.MuLone
set_option maxHeartbeats 16000000 in
set_option maxRecDepth 8000 in
theorem step12_2 {w0 w : World} {P B R : Nat} {F1 F2 : Nat → Prop} {g cap : Nat} {zs : List Int} {s : Ds} (h : Pp w0 w P B R F1 F2 (.slice (some ⟨g, 0, none⟩) zs.length cap) zs s) (i a x f : Int) (ao : Option Addr) (n c : Nat) (bo : Option Addr) (m e : Nat) (xs : List Int) (hb : Byt w0 ao n c xs) (bt : Bt xs) (hn : n ≤ 10000) (hao : ∀ ad, ao = some ad → 0 < n → ad.block < w0.heap.size) (hf : 0 ≤ f ∧ f ≤ 255) (hd : s.done < 1099511627776) (hl : s.left < 9223372036854775808) : Calls Try.prog 14 #[.pointer (some ⟨P, 0, none⟩), opv 2 i a x f ao n c bo m e] w fun en w' => en = .returned (.bool true) ∧ Pq w0 w' P B R (s.wrt i 4096 (pageZ f xs)) := by
  unfold opv
  obtain ⟨wA, hwA⟩ : ∃ wA, wA = w.alloc (.cells #[.int .i64 2, .int .i64 i, .int .i64 a, .int .i64 x, .int .u8 f, .slice ao n c, .slice bo m e] 41) := ⟨_, rfl⟩
  have gA : w.grownBy wA none := by rw [hwA]; exact World.grownBy_alloc _ _ _
  have sA : wA.heap.size = w.heap.size + 1 := by rw [hwA]; simp
  have uA : wA.heap[w.heap.size]? = some (.cells #[.int .i64 2, .int .i64 i, .int .i64 a, .int .i64 x, .int .u8 f, .slice ao n c, .slice bo m e] 41 (0, 0)) := by rw [hwA]; exact heap_alloc_new w _
  have u0 : wA.cell? ⟨w.heap.size, 0, none⟩ = some (.int .i64 2) := cell_of_row wA _ 0 _ _ _ uA
  have u1 : wA.cell? ⟨w.heap.size, 1, none⟩ = some (.int .i64 i) := cell_of_row wA _ 1 _ _ _ uA
  have u2 : wA.cell? ⟨w.heap.size, 2, none⟩ = some (.int .i64 a) := cell_of_row wA _ 2 _ _ _ uA
  have u3 : wA.cell? ⟨w.heap.size, 3, none⟩ = some (.int .i64 x) := cell_of_row wA _ 3 _ _ _ uA
  have u4 : wA.cell? ⟨w.heap.size, 4, none⟩ = some (.int .u8 f) := cell_of_row wA _ 4 _ _ _ uA
  have u5 : wA.cell? ⟨w.heap.size, 5, none⟩ = some (.slice ao n c) := cell_of_row wA _ 5 _ _ _ uA
  have u6 : wA.cell? ⟨w.heap.size, 6, none⟩ = some (.slice bo m e) := cell_of_row wA _ 6 _ _ _ uA
  have PA := hid_intro (h.keptN gA)
  have HX : Hid (¬ F1 w.heap.size ∧ ¬ F2 w.heap.size ∧ w.heap.size ≠ P ∧ w.heap.size ≠ g) := ⟨fun e => by have := h.dz.low _ e; omega, fun e => by have := h.rz.low _ e; omega, fun e => by have := h.lt; omega, fun e => by have := (h.own.lt g rfl).2; omega⟩
  have HA := hid_intro hwA
  have UA := hid_intro uA
  have SA := hid_intro sA
  have GA := hid_intro gA
  clear hwA gA sA uA h
  go_enter Try.func14, Try.ntmps14
  have PD := hid_intro (PA.out.keptN ((Qt.refl wA).drew.grown none))
  have HB := hid_intro hb
  have HO := hid_intro hao
  have HT := hid_intro bt
  clear hb hao bt
  go_wp2_with fail
  rw [← HA.out]
  go_region_held3 (fun w' => w'.cell? ⟨w.heap.size, 0, none⟩ = some (.int .i64 2) ∧ w'.cell? ⟨w.heap.size, 1, none⟩ = some (.int .i64 i) ∧ w'.cell? ⟨w.heap.size, 2, none⟩ = some (.int .i64 a) ∧ w'.cell? ⟨w.heap.size, 3, none⟩ = some (.int .i64 x) ∧ w'.cell? ⟨w.heap.size, 4, none⟩ = some (.int .u8 f) ∧ w'.cell? ⟨w.heap.size, 5, none⟩ = some (.slice ao n c) ∧ w'.cell? ⟨w.heap.size, 6, none⟩ = some (.slice bo m e)) (first | exact ⟨u0, u1, u2, u3, u4, u5, u6⟩ | exact T2.out | exact True.intro | go_keep)
    (first
      | (go_at_call 36; refine (page_any 2 i a x f ao n c bo m e xs _ (HB.out.keptN PD.out.gr) (by omega)).mono ?_; rintro en w2 ⟨rfl, hr2, hg2⟩; have P2 := hid_intro (PD.out.keptN hg2); have R2 := hid_intro hr2; have G2 := hid_intro hg2; have T2 := hid_intro (show w2.cell? ⟨w.heap.size, 0, none⟩ = some (.int .i64 2) ∧ w2.cell? ⟨w.heap.size, 1, none⟩ = some (.int .i64 i) ∧ w2.cell? ⟨w.heap.size, 2, none⟩ = some (.int .i64 a) ∧ w2.cell? ⟨w.heap.size, 3, none⟩ = some (.int .i64 x) ∧ w2.cell? ⟨w.heap.size, 4, none⟩ = some (.int .u8 f) ∧ w2.cell? ⟨w.heap.size, 5, none⟩ = some (.slice ao n c) ∧ w2.cell? ⟨w.heap.size, 6, none⟩ = some (.slice bo m e) from ⟨G2.out.cell (show wA.drew.cell? _ = _ from u0) (by simp), G2.out.cell (show wA.drew.cell? _ = _ from u1) (by simp), G2.out.cell (show wA.drew.cell? _ = _ from u2) (by simp), G2.out.cell (show wA.drew.cell? _ = _ from u3) (by simp), G2.out.cell (show wA.drew.cell? _ = _ from u4) (by simp), G2.out.cell (show wA.drew.cell? _ = _ from u5) (by simp), G2.out.cell (show wA.drew.cell? _ = _ from u6) (by simp)⟩); clear hr2 hg2)
      | (go_at_call 35; refine (write12_any P2.out i (some ⟨wA.drew.heap.size + 1, 0, none⟩) 4096 4096 (pageZ f xs) (R2.out.all 4096 4096 (pageZ_len _ _).symm) (pageZ_bt hf HT.out) (by omega) (fun ad e h0 => by rw [← Option.some.inj e]; dsimp only; exact ⟨R2.out.lt, fun e' => by have := PD.out.lt; omega, fun e' => by have := (PD.out.own.lt g rfl).2; omega, fun e' => by have := PD.out.dz.low _ e'; omega, fun e' => by have := PD.out.rz.low _ e'; omega⟩) hd hl).mono ?_; rintro en w3 ⟨rfl, ⟨F1', F2', g', cap', zs', hp⟩, hkx⟩; have FIN := hid_intro hp; have T3 := hid_intro (hkx w.heap.size (by have := G2.out.size; have := SA.out; have : wA.drew.heap.size = wA.heap.size := (by simp); omega) HX.out.2.2.1 HX.out.2.2.2 HX.out.1 HX.out.2.1); have T2b := T2; clear hp hkx T2; have T2 := hid_intro (show w3.cell? ⟨w.heap.size, 0, none⟩ = some (.int .i64 2) ∧ w3.cell? ⟨w.heap.size, 1, none⟩ = some (.int .i64 i) ∧ w3.cell? ⟨w.heap.size, 2, none⟩ = some (.int .i64 a) ∧ w3.cell? ⟨w.heap.size, 3, none⟩ = some (.int .i64 x) ∧ w3.cell? ⟨w.heap.size, 4, none⟩ = some (.int .u8 f) ∧ w3.cell? ⟨w.heap.size, 5, none⟩ = some (.slice ao n c) ∧ w3.cell? ⟨w.heap.size, 6, none⟩ = some (.slice bo m e) from ⟨(World.cell?_of_block T3.out).trans T2b.out.1, (World.cell?_of_block T3.out).trans T2b.out.2.1, (World.cell?_of_block T3.out).trans T2b.out.2.2.1, (World.cell?_of_block T3.out).trans T2b.out.2.2.2.1, (World.cell?_of_block T3.out).trans T2b.out.2.2.2.2.1, (World.cell?_of_block T3.out).trans T2b.out.2.2.2.2.2.1, (World.cell?_of_block T3.out).trans T2b.out.2.2.2.2.2.2⟩)))
  all_goals
    go_wp2
    go_ret
    exact ⟨rfl, _, _, _, _, _, FIN.out⟩

end Go.Proofs.Ytiljdhhfhjhhiaa
