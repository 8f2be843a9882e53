import Derived.Test.YtnfelndfpmnkmaaGreatDoorQ12
import Derived.Test.YtnfelndfpmnkmaaGreatDoorQ13
import Derived.Deep.DeepCutAuto
namespace Go.Proofs.YtnfelndfpmnkmaaGreatDoor
open Go.RowKit
set_option maxHeartbeats 1000000 in
set_option maxRecDepth 100000 in
theorem readString_any (R G : Nat) (zs : List Int) (s : Nat × Int) (w : World) (h : Rd w R G zs s.1 s.2) (hbt : Bt zs) :
  Calls Tryz.prog 61 #[.pointer (some ⟨R, 0, none⟩)] w fun en w' => (∃ ao k, en = .returned (.slice ao k k) ∧ Byt w' ao k k (sKey zs [] s).1 ∧ (0 < k → ∃ q, ao = some ⟨G, q, none⟩) ∧ k ≤ zs.length) ∧ Rd w' R G zs (sKey zs [] s).2.1 (sKey zs [] s).2.2 ∧ w.grownBy w' (some R) := by
 have HKD : Hid (sKey zs [] s = ((sB zs (sV zs s).2 (i64 (sV zs s).1)).1, (sB zs (sV zs s).2 (i64 (sV zs s).1)).2)) := rfl
 have HV := hid_intro (fun (W : World) (hW : Rd W R G zs s.1 s.2) => rd_V R G zs s W hW hbt)
 have HB := hid_intro (fun (W : World) (hW : Rd W R G zs (sV zs s).2.1 (sV zs s).2.2) => rd_B R G zs (sV zs s).2 (i64 (sV zs s).1) W hW)
 have hvl := sV_lt zs s hbt
 have hwr := i64_wrap hvl
 generalize (sV zs s).2 = s1 at *
 generalize (sV zs s).1 = x at *
 generalize i64 x = m at *
 go_enter Tryz.func61, Tryz.ntmps61
 go_wp2_with fail
 refine (HV.out _ h).mono ?_
 rintro en w1 ⟨rfl, hr1, hg1⟩
 have D1 := hid_intro hr1
 have G1 := hid_intro hg1
 clear hr1 hg1 h
 go_wp2_with fail
 refine (HB.out _ D1.out).mono ?_
 rintro en w2 ⟨⟨ao, k, rfl, hb2, hao, hk⟩, hr2, hg2⟩
 have B2 := hid_intro hb2
 have A2 := hid_intro hao
 have D2 := hid_intro hr2
 have G2 := hid_intro (grown_trans G1.out hg2)
 clear hb2 hao hr2 hg2
 go_wp2
 go_ret
 rw [HKD.out]
 exact ⟨⟨ao, k, rfl, B2.out, fun h => ⟨_, A2.out h⟩, hk⟩, D2.out, G2.out⟩
def Kx (w : World) (T : Nat) (a b : Value) : Prop := w.heap[T]? = some (.cells #[a, b] 61 (0, 0))
theorem Kx.lt {w : World} {T : Nat} {a b : Value} (h : Kx w T a b) : T < w.heap.size := (Array.getElem?_eq_some_iff.1 h).1
theorem Kx.cells {w : World} {T : Nat} {a b : Value} (h : Kx w T a b) : w.cell? ⟨T, 0, none⟩ = some a ∧ w.cell? ⟨T, 1, none⟩ = some b := by
 refine ⟨?_, ?_⟩
 ·rw [cell_of_row w T 0 _ _ _ h]; rfl
 ·rw [cell_of_row w T 1 _ _ _ h]; rfl
theorem Kx.frozen {w : World} {T : Nat} {a b : Value} (h : Kx w T a b) (j : Nat) : w.frozen? ⟨T, j, none⟩ = false := frozen_of_row w T j _ _ h
theorem Kx.kept {w w' : World} {T : Nat} {a b : Value} {row : Option Nat} (h : Kx w T a b) (hg : w.grownBy w' row) (hne : some T ≠ row) : Kx w' T a b := (hg.block T h.lt hne).trans h
theorem Kx.set0 {w : World} {T : Nat} {a b : Value} (h : Kx w T a b) (v : Value) : Kx (w.setCell ⟨T, 0, none⟩ v) T v b := heap_setCell_same w T 0 _ _ v h
theorem Kx.set1 {w : World} {T : Nat} {a b : Value} (h : Kx w T a b) (v : Value) : Kx (w.setCell ⟨T, 1, none⟩ v) T a v := heap_setCell_same w T 1 _ _ v h
theorem Kx.new (w : World) (a b : Value) : Kx (w.alloc (.cells #[a, b] 61)) w.heap.size a b := heap_alloc_new w _
theorem kid_size : (Tryz.prog.info? 61).map (·.size) = some 2 := by kernel_rfl
theorem ret_kid {fn : Func} {p : Tmp} (h : fn.results = #[.cell p 61]) (tmps : Array Value) (w : World) (U : Nat) (a b : Value) (hp : tmps.getD p undef = .pointer (some ⟨U, 0, none⟩)) (hx : Kx w U a b) :
  (results fn tmps).run Tryz.prog w = .ok (.agg #[a, b]) w :=
 results_cell_row h tmps w U 61 #[a, b] (0, 0) _ hp hx Tryz.underlying61 rfl kid_size
set_option maxHeartbeats 1000000 in
set_option maxRecDepth 100000 in
theorem readKid_any (R G : Nat) (zs : List Int) (s : Nat × Int) (w : World) (h : Rd w R G zs s.1 s.2) (hbt : Bt zs) :
  Calls Tryz.prog 62 #[.pointer (some ⟨R, 0, none⟩)] w fun en w' => en = .returned (.agg #[.int .i64 (sK zs s).1.no, .int .i64 (sK zs s).1.keys]) ∧ Rd w' R G zs (sK zs s).2.1 (sK zs s).2.2 ∧ w.grownBy w' (some R) := by
 have HKD : Hid (sK zs s = (⟨(sN zs s 4).1, (sN zs (sN zs s 4).2 4).1⟩, (sN zs (sN zs s 4).2 4).2)) := rfl
 have H1 := hid_intro (fun (W : World) (hW : Rd W R G zs s.1 s.2) => rd_N4 R G zs s W hW hbt)
 have H2 := hid_intro (fun (W : World) (hW : Rd W R G zs (sN zs s 4).2.1 (sN zs s 4).2.2) => rd_N4 R G zs (sN zs s 4).2 W hW hbt)
 have n1 := sN_lt zs s 4 hbt
 have n2 := sN_lt zs (sN zs s 4).2 4 hbt
 generalize (sN zs (sN zs s 4).2 4).2 = s2 at *
 generalize (sN zs (sN zs s 4).2 4).1 = y at *
 generalize (sN zs s 4).2 = s1 at *
 generalize (sN zs s 4).1 = x at *
 have hx : x < 4294967296 := n1
 have hy : y < 4294967296 := n2
 have hRl := h.lt
 have ga := World.grownBy_alloc w (.cells #[.int .i64 0, .int .i64 0] 61) none
 have D0 := hid_intro (h.kept ga (by simp) (by simp))
 have U0 := hid_intro (Kx.new w (.int .i64 0) (.int .i64 0))
 have HG0 := hid_intro ga
 clear h ga n1 n2
 go_enter Tryz.func62, Tryz.ntmps62
 go_wp2_with fail
 generalize w.alloc (.cells #[.int .i64 0, .int .i64 0] 61) = w1 at *
 refine (H1.out _ D0.out).mono ?_
 rintro en w2 ⟨rfl, hr2, hg2⟩
 have D2 := hid_intro hr2
 have U2 := hid_intro (U0.out.kept hg2 (fun e => by have := Option.some.inj e; omega))
 have G2 := hid_intro (grown_trans (grown_any HG0.out) hg2)
 clear hr2 hg2 D0 U0 HG0
 go_wp2_with fail
 refine (H2.out _ D2.out).mono ?_
 rintro en w3 ⟨rfl, hr3, hg3⟩
 have D3 := hid_intro hr3
 have U3 := hid_intro (U2.out.kept hg3 (fun e => by have := Option.some.inj e; omega))
 have G3 := hid_intro (grown_trans G2.out hg3)
 clear hr3 hg3 D2 U2 G2
 obtain ⟨c0, c1⟩ := U3.out.cells
 have f0 := U3.out.frozen 0
 have f1 := U3.out.frozen 1
 have HD := hid_intro ((U3.out.set0 (.int .i64 (x : Int))).set1 (.int .i64 (y : Int)))
 have hg4 := grown_trans (grown_cell w3 w.heap.size 0 (.int .i64 (x : Int))) (grown_cell _ w.heap.size 1 (.int .i64 (y : Int)))
 have D4 := hid_intro (D3.out.kept hg4 (fun e => by have := Option.some.inj e; omega) (fun e => by have := Option.some.inj e; omega))
 have G4 := hid_intro (grown_newR G3.out hg4 (Nat.le_refl _))
 clear hg4
 go_wp2
 refine bodyPost_ret (ret_kid rfl _ _ w.heap.size _ _ rfl HD.out) rfl ?_
 rw [HKD.out]
 exact ⟨rfl, D4.out, G4.out⟩
set_option maxHeartbeats 1000000 in
set_option maxRecDepth 100000 in
theorem joined_any (po : Option Addr) (pn pc : Nat) (P : List Int) (so : Option Addr) (sn sc : Nat) (X : List Int) (w : World) (hP : Byt w po pn pc P) (hX : Byt w so sn sc X) (h1 : pn ≤ 10000) (h2 : sn ≤ 10000) :
  Calls Tryz.prog 63 #[.slice po pn pc, .slice so sn sc] w fun en w' => en = .returned (.slice (some ⟨w.heap.size, 0, none⟩) (pn + sn) (pn + sn)) ∧ Rw w' w.heap.size (P ++ X) ∧ w.grownBy w' none := by
 obtain ⟨i0, hi, hz0, hz1, hz2⟩ := info_parts info_u8
 have HP := hid_intro hP
 have HX := hid_intro hX
 have hlP := hP.len
 have hlX := hX.len
 have HBB : Hid (∀ ad, po = some ad → 0 < pn → ad.block < w.heap.size) := fun ad e h => hP.lt e h
 have HBC : Hid (∀ ad, so = some ad → 0 < sn → ad.block < w.heap.size) := fun ad e h => hX.lt e h
 clear hP hX
 obtain ⟨Zr, hZr⟩ : ∃ Zr : List Int, Zr = List.replicate (pn + sn) 0 := ⟨_, rfl⟩
 have hfit : Hid (Zr.length = pn + sn) := by show _ = _; rw [hZr, List.length_replicate]
 have HZR := hid_intro hZr
 clear hZr
 go_enter Tryz.func63, Tryz.ntmps63
 go_wp2_with (at_make; refine wpList_make_full _ rfl _ _ 26 rfl w.heap.size 5 i0 (.int .u8 0) 1 Tryz.underlying26 hi hz0 hz1 _ _ _ _ (pn + sn) rfl rfl (by simp) (by simp) ?b2 ?b3 (Nat.le_refl _) ?_)
 case b2 => rw [hz2]; omega
 case b3 => unfold maxLen; omega
 intro w3 hown3 hg3
 rw [made] at hown3
 have R3 : Hid (Rt w3 w.heap.size 5 Zr) := by
  show Rt _ _ _ _
  rw [HZR.out]
  exact Rw.of_owns hown3
 have G3 := hid_intro hg3
 have P3 := hid_intro (HP.out.keptN hg3)
 have X3 := hid_intro (HX.out.keptN hg3)
 clear hown3 hg3 HP HX
 obtain ⟨g, hg⟩ : ∃ g, w.heap.size = g := ⟨_, rfl⟩
 have HGG := hid_intro hg
 rw [hg] at R3 HBB HBC
 rw [hg]
 clear hg
 go_wp2_with (refine wpList_copy_rt rfl _ _ rfl _ _ _ _ _ _ rfl rfl g 0 5 Zr P R3.out P3.out (by omega) (fun _ => rfl) (by rw [hfit.out]; omega) ?_)
 intro w4 hr4 hg4 hs4
 have R4 := hid_intro hr4
 have X4 := hid_intro (X3.out.kept hg4 (fun ad e h e2 => by have := HBC.out ad e h; have := Option.some.inj e2; omega))
 have G4 := hid_intro (grown_new G3.out hg4 (by have := HGG.out; omega))
 have HLS : Hid ((splice Zr 0 P).length = pn + sn) := by show _ = _; rw [splice_len (by rw [hfit.out]; omega)]; exact hfit.out
 have HSF : Hid (splice (splice Zr 0 P) pn X = P ++ X) := by
  show _ = _
  rw [← hlP]
  exact splice_fill (by rw [hfit.out, hlP, hlX])
 clear hr4 hg4 hs4 R3 X3 G3 P3 hlX
 have g1 : (0 : Int) ≤ (pn : Int) := by omega
 have g2 : (pn : Int) ≤ (pn : Int) + (sn : Int) := by omega
 by_cases h0 : sn = 0
 ·subst h0
  go_wp2_with (refine wpList_copy_rt rfl _ _ rfl _ _ _ _ _ _ rfl rfl g pn 5 _ X R4.out X4.out (by omega) (fun h => by omega) (by rw [HLS.out]; omega) ?_)
  intro w5 hr5 hg5 hs5
  rw [HSF.out] at hr5
  have R5 := hid_intro hr5
  have G5 := hid_intro (grown_new G4.out hg5 (by have := HGG.out; omega))
  clear hr5 hg5 hs5
  go_wp2
  go_ret
  rw [HGG.out]
  exact ⟨rfl, R5.out, G5.out⟩
 ·have h0' : ¬ pn + sn = pn := by omega
  go_wp2_with (refine wpList_copy_rt rfl _ _ rfl _ _ _ _ _ _ rfl rfl g pn 5 _ X R4.out X4.out (by omega) (fun _ => rfl) (by rw [HLS.out]; omega) ?_)
  intro w5 hr5 hg5 hs5
  rw [HSF.out] at hr5
  have R5 := hid_intro hr5
  have G5 := hid_intro (grown_new G4.out hg5 (by have := HGG.out; omega))
  clear hr5 hg5 hs5
  go_wp2
  go_ret
  rw [HGG.out]
  exact ⟨rfl, R5.out, G5.out⟩
end Go.Proofs.YtnfelndfpmnkmaaGreatDoor
