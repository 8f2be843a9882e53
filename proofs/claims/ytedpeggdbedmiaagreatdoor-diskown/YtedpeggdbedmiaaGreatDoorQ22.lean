import Derived.Test.YtedpeggdbedmiaaGreatDoorQ20
import Derived.Test.YtedpeggdbedmiaaGreatDoorQ15
import Derived.Test.YtedpeggdbedmiaaGreatDoorQ19
import Derived.Deep.Cut
namespace Go.Proofs.YtedpeggdbedmiaaGreatDoor
open Go.RowKit
set_option maxHeartbeats 2000000 in
set_option maxRecDepth 100000 in
theorem untouched_writes (B : Nat) (vb vw : Value) (r c r2 c2 : Nat) (xs ys : List Value) (w : World) (h2 : w.cell? ⟨B, 29, none⟩ = some vb) (h3 : w.cell? ⟨B, 30, none⟩ = some vw) (hb : Kro w vb r c xs) (hw : Kro w vw r2 c2 ys) (hl : xs.length = ys.length) (hm : xs.length ≤ 1000000)
  (hs : ∀ (k : Nat) (x y : Value), xs[k]? = some x → ys[k]? = some y → ∃ ao n ca bo cb, ∃ Z Y : List (Nat × Nat × List Int), x = .slice ao n ca ∧ y = .slice bo n cb ∧ Wc w ao Z ∧ Wc w bo Y ∧ Z.map ab12 = Y.map ab12 ∧ Z.length = n ∧ n ≤ 1099511620000) :
  Calls Tryz.prog 46 #[.pointer (some ⟨B, 0, none⟩)] w fun en w' => en = .returned (.bool true) ∧ w.grownBy w' none := by
 obtain ⟨vo, hvb, hvo⟩ := hb.val
 obtain ⟨wo, hvw, hwo⟩ := hw.val
 have HVO := hid_intro hvo
 have HWO := hid_intro hwo
 have HB := hid_intro hb
 have HW := hid_intro hw
 have HS := hid_intro hs
 clear hb hw hs hvo hwo
 subst hvb hvw
 go_enter Tryz.func46, Tryz.ntmps46
 go_wp2
 go_loopw [3] (fun si wr => ∃ i : Nat, i ≤ xs.length ∧ si = .int .i64 i ∧ w.grownBy wr none) (fun si _ => xs.length - (intOf si).toNat)
 case atStart => exact ⟨0, Nat.zero_le _, rfl, (Qt.refl _).grown none⟩
 case round =>
  obtain ⟨i, hi, rfl, hq⟩ := hrel
  have HQ := hid_intro hq
  have k2 := hq.cell h2 (by simp)
  have k3 := hq.cell h3 (by simp)
  clear hq
  by_cases hlt : i < xs.length
  ·obtain ⟨x, hx⟩ : ∃ x, xs[i]? = some x := ⟨xs[i], List.getElem?_eq_getElem hlt⟩
   obtain ⟨y, hy⟩ : ∃ y, ys[i]? = some y := ⟨ys[i]'(by omega), List.getElem?_eq_getElem (by omega)⟩
   obtain ⟨ao, n, ca, bo, cb, Z, Y, rfl, rfl, ba, bb, bz, hz, hn⟩ := HS.out i x y hx hy
   obtain rfl := HVO.out (by omega)
   obtain rfl := HWO.out (by omega)
   have c1 := HQ.out.cell (HB.out.cells i _ hx) (by simp)
   have c2 := HQ.out.cell (HW.out.cells i _ hy) (by simp)
   have HD := hid_intro (grown_trans HQ.out ((Qt.refl _).drew.grown none))
   have HC := hid_intro (sameWrites_yes ao bo n ca cb Z Y wr.drew (ba.keptN HD.out) (bb.keptN HD.out) hz bz (by omega))
   clear ba bb bz
   have hli : (i : Int) < (ys.length : Int) := by omega
   have g0 : (0 : Int) ≤ (i : Int) := by omega
   clear hx hy
   go_wp2_with fail
   go_region_with (go_at_call 105; refine HC.out.mono ?_; rintro en w3 ⟨rfl, hg3⟩)
   all_goals
    have HG3 := hid_intro (grown_trans HD.out hg3)
    clear hg3 HC HD
    go_wp2
    go_roundw
    case rel => exact ⟨i + 1, by omega, by go_num, HG3.out⟩
    case measure => simp [intOf]; omega
  ·have hin : i = xs.length := by omega
   subst hin
   go_wp2
   go_ret
   exact ⟨rfl, HQ.out⟩
end Go.Proofs.YtedpeggdbedmiaaGreatDoor
namespace Go.Proofs.YtedpeggdbedmiaaGreatDoor
open Go.RowKit Go.MuLone
set_option maxHeartbeats 2000000 in
theorem refWrite_any (no g : Nat) (z : List Int) (w : World) (h1 : Byt w (some ⟨g, 0, none⟩) 4096 4096 z) : Calls Tryz.prog 36 #[.agg #[.int .i64 no, .slice (some ⟨g, 0, none⟩) 4096 4096]] w fun e w' => ∃ G, e = .returned (.agg #[.int .i64 no, .slice (some ⟨G, 0, none⟩) 4096 4096]) ∧ Rw w' G z ∧ w.heap.size ≤ G ∧ w.grownBy w' none := by
 obtain ⟨wA, hwA⟩ : ∃ wA, wA = (w.alloc (.cells #[.int .i64 no, .slice (some ⟨g, 0, none⟩) 4096 4096] 78)).alloc (.cells #[.int .i64 0, .slice none 0 0] 78) := ⟨_, rfl⟩
 have gA : w.grownBy wA none := by rw [hwA]; exact grown_trans (World.grownBy_alloc _ _ _) (World.grownBy_alloc _ _ _)
 have sA : wA.heap.size = w.heap.size + 2 := by rw [hwA]; simp
 have uA : wA.heap[w.heap.size]? = some (.cells #[.int .i64 no, .slice (some ⟨g, 0, none⟩) 4096 4096] 78 (0, 0)) := by
  rw [hwA]
  exact ((World.grownBy_alloc _ _ none).block w.heap.size (by simp) (by simp)).trans (heap_alloc_new w _)
 have vA : Vx2 wA (w.heap.size + 1) (.int .i64 0) (.slice none 0 0) := by
  rw [hwA]
  have := Vx2.new (w.alloc (.cells #[.int .i64 no, .slice (some ⟨g, 0, none⟩) 4096 4096] 78)) (.int .i64 0) (.slice none 0 0)
  simpa using this
 have u0 : wA.cell? ⟨w.heap.size, 0, none⟩ = some (.int .i64 no) := cell_of_row wA _ 0 _ _ _ uA
 have u1 : wA.cell? ⟨w.heap.size, 1, none⟩ = some (.slice (some ⟨g, 0, none⟩) 4096 4096) := cell_of_row wA _ 1 _ _ _ uA
 have HB := hid_intro (h1.keptN gA)
 have HA := hid_intro hwA
 have GA := hid_intro gA
 have VA := hid_intro vA
 have SA := hid_intro sA
 clear h1 hwA gA vA sA uA
 go_enter Tryz.func36, Tryz.ntmps36
 go_wp2_with fail
 rw [← HA.out]
 go_region_with (go_at_call 14; refine (refBytes_any (some ⟨g, 0, none⟩) 4096 4096 z _ (by exact HB.out.keptN ((Qt.refl wA).drew.grown none)) (by omega)).mono ?_; rintro en w3 ⟨rfl, ho3, hg3, hs3⟩; have G3 := hid_intro (grown_trans ((Qt.refl wA).drew.grown none) hg3); have R3 := hid_intro (show Rw w3 wA.heap.size z from Rw.of_owns ho3); have V3 := hid_intro (show Vx2 w3 (w.heap.size + 1) (.int .i64 0) (.slice none 0 0) from ((G3.out.block (w.heap.size + 1) (by have := SA.out; omega) (by simp)).trans VA.out)); obtain ⟨y0, y1⟩ := V3.out.cells; have f0 := V3.out.frozen 0; have f1 := V3.out.frozen 1; have u03 := G3.out.cell u0 (by simp); have u13 := G3.out.cell u1 (by simp); clear ho3 hg3 hs3)
 all_goals
  have HD := hid_intro ((V3.out.set0 (.int .i64 (no : Int))).set1 (.slice (some ⟨wA.heap.size, 0, none⟩) 4096 4096))
  have gs := grown_trans (grown_cell w3 (w.heap.size + 1) 0 (.int .i64 (no : Int))) (grown_cell _ (w.heap.size + 1) 1 (.slice (some ⟨wA.heap.size, 0, none⟩) 4096 4096))
  have RF := hid_intro (R3.out.kept gs (fun e => by have := Option.some.inj e; have := SA.out; omega))
  have GF := hid_intro (grown_new (grown_trans GA.out G3.out) gs (by omega))
  clear gs
  go_wp2
  refine bodyPost_ret (ret_write2 rfl _ _ (w.heap.size + 1) _ _ rfl HD.out) rfl ?_
  exact ⟨wA.heap.size, rfl, RF.out, by have := SA.out; omega, GF.out⟩
structure Wy (w0 w : World) (Y : List (Nat × Nat × List Int)) : Prop where
 rw : ∀ p ∈ Y, Rw w p.2.1 p.2.2 ∧ w0.heap.size ≤ p.2.1 ∧ p.2.2.length = 4096
theorem Wy.keptN {w0 w w' : World} {Y : List (Nat × Nat × List Int)} (h : Wy w0 w Y) (hg : w.grownBy w' none) : Wy w0 w' Y := ⟨fun p hp => ⟨(h.rw p hp).1.keptN hg, (h.rw p hp).2⟩⟩
theorem cell_twoV (w : World) (a b : Value) (t : TypeId) : ∀ j u, [a, b][j]? = some u → (w.alloc (.cells #[a, b] t)).cell? ((⟨w.heap.size, 0, none⟩ : Addr).add j) = some u := by
 intro j u hu
 rw [Addr.add_lit, Nat.zero_add, cell_of_row _ w.heap.size j _ _ (0, 0) (heap_alloc_new w _)]
 simpa using hu
theorem Wy.kept {w0 w w' : World} {Y : List (Nat × Nat × List Int)} {A : Nat} (h : Wy w0 w Y) (hg : w.grownBy w' (some A)) {cur : Array Value} {fz : Nat × Nat} (hA : w.heap[A]? = some (.cells cur 78 fz)) : Wy w0 w' Y := by
 refine ⟨fun p hp => ⟨(hg.block p.2.1 (h.rw p hp).1.lt (fun e => ?_)).trans (h.rw p hp).1, (h.rw p hp).2⟩⟩
 have e1 := Option.some.inj e
 have h1 := (h.rw p hp).1
 unfold Rw at h1
 rw [e1, hA] at h1
 injection h1 with h1
 injection h1 with _ h2
 exact absurd h2 (by decide)
set_option maxHeartbeats 4000000 in
set_option maxRecDepth 4000 in
theorem refWrites_own (ao : Option Addr) (n cap : Nat) (Z : List (Nat × Nat × List Int)) (w : World) (hZ : Wc w ao Z) (hzl : Z.length = n) (hz4 : ∀ p ∈ Z, p.2.2.length = 4096) (hn : n ≤ 1000000) :
  Calls Tryz.prog 28 #[.slice ao n cap] w fun e w' => ∃ Y, e = .returned (.slice (some ⟨w.heap.size, 0, none⟩) n n) ∧ w'.ownsRow w.heap.size 78 2 (.slice (some ⟨w.heap.size, 0, none⟩) n n) n (wcells Y) ∧ Wy w w' Y ∧ Y.map ab12 = Z.map ab12 ∧ w.grownBy w' none := by
 obtain ⟨i0, hi, hz0, hz1, hz2⟩ := info_parts info_write
 have HZ := hid_intro hZ
 have HL := hid_intro hzl
 clear hZ hzl
 go_enter Tryz.func28, Tryz.ntmps28
 go_wp2_with (at_make; refine wpList_make_own _ rfl _ _ 54 rfl w.heap.size 78 i0 (.agg #[.int .i64 0, .slice none 0 0]) 2 Tryz.underlying54 hi hz0 hz1 _ _ _ n rfl rfl rfl ?b2 ?b3 (Nat.le_refl _) ?_)
 case b2 => rw [hz2]; omega
 case b3 => unfold maxLen; omega
 intro w0 hown0 hgrow0
 have O0 := hid_intro hown0
 have G0 := hid_intro hgrow0
 clear hown0 hgrow0
 go_wp2_with fail
 go_loopw [3, 4] (fun sv si wr => ∃ (k : Nat) (Y : List (Nat × Nat × List Int)), k ≤ n ∧ si = .int .i64 (k : Int) ∧ sv = .slice (some ⟨w.heap.size, 0, none⟩) k n ∧ Y.length = k ∧ wr.ownsRow w.heap.size 78 2 (.slice (some ⟨w.heap.size, 0, none⟩) k n) k (wcells Y) ∧ Wy w wr Y ∧ Y.map ab12 = (Z.take k).map ab12 ∧ w.grownBy wr none) (fun _ si _ => n - (intOf si).toNat)
 case atStart => exact ⟨0, [], Nat.zero_le _, rfl, rfl, rfl, O0.out, ⟨fun p hp => by cases hp⟩, by simp, G0.out⟩
 case round =>
  obtain ⟨k, Y, hk, rfl, rfl, hYl, hown, hwy, hmap, hg⟩ := hrel
  by_cases hlt : k < n
  ·have hlt' : (k : Int) < (n : Int) := by omega
   obtain ⟨p, hp⟩ : ∃ p, Z[k]? = some p := ⟨_, List.getElem?_eq_getElem (by have := HL.out; omega)⟩
   obtain ⟨no, g, z⟩ := p
   obtain ⟨b, eao, x1, x2, x3⟩ := (HZ.out.keptN hg).ats k _ hp
   subst eao
   simp only at x1 x2 x3
   have hzl4 := hz4 _ (List.mem_of_getElem? hp)
   have HP := hid_intro hp
   have HO := hid_intro hown
   have HY := hid_intro hwy
   have HM := hid_intro hmap
   have HG := hid_intro hg
   have X3 := hid_intro x3
   clear hown hwy hmap hg hp x3
   go_wp2_with fail
   refine (refWrite_any no g z wr X3.out).mono ?_
   rintro en w4 ⟨G, rfl, hr4, hG, hg4⟩
   have R4 := hid_intro hr4
   have G4 := hid_intro hg4
   have V5 := hid_intro (Vx2.new w4 (.int .i64 (no : Int)) (.slice (some ⟨G, 0, none⟩) 4096 4096))
   have GG := hid_intro (World.grownBy_alloc w4 (.cells #[.int .i64 (no : Int), .slice (some ⟨G, 0, none⟩) 4096 4096] 78) none)
   have hs4 := hg4.size
   clear hr4 hg4 x1 x2
   go_upto_region 6 with fail
   generalize w4.alloc (.cells #[.int .i64 (no : Int), .slice (some ⟨G, 0, none⟩) 4096 4096] 78) = w5 at V5 GG ⊢
   obtain ⟨y0, y1⟩ := V5.out.cells
   have gA := World.grownBy_alloc w5 (.cells #[.int .i64 (no : Int), .slice (some ⟨G, 0, none⟩) 4096 4096] 78) none
   have g15 := grown_trans G4.out GG.out
   have OA := hid_intro ((HO.out.kept g15 (Classical.em _)).kept gA (Classical.em _))
   have NW := hid_intro (cell_twoV w5 (.int .i64 (no : Int)) (.slice (some ⟨G, 0, none⟩) 4096 4096) 78)
   have HA := hid_intro gA
   have H15 := hid_intro g15
   clear gA g15
   go_wp2_with (at_builtin; refine wpList_append_fits_any _ rfl _ _ 54 rfl w.heap.size 78 i0 2 Tryz.underlying54 hi hz1 w.heap.size k n _ rfl OA.out (some ⟨w5.heap.size, 0, none⟩) 1 1 [.int .i64 (no : Int), .slice (some ⟨G, 0, none⟩) 4096 4096] rfl rfl (fun e => by cases e) (fun ad e => by cases e; exact NW.out) (by intro u hu; simp at hu; rcases hu with rfl | rfl <;> rfl) (by omega) ?_)
   intro w6 hown6 hgrow6
   obtain ⟨cur, hcur⟩ : ∃ cur, (w5.alloc (.cells #[.int .i64 (no : Int), .slice (some ⟨G, 0, none⟩) 4096 4096] 78)).heap[w.heap.size]? = some (.cells cur 78 (0, 0)) := by
    rcases OA.out.2 with ⟨h0, _⟩ | ⟨g', cap', cur', hv', _, a2, _⟩
    ·cases h0
    ·injection hv' with e1 e2 e3
     injection e1 with e1
     injection e1 with e4
     subst e4
     exact ⟨cur', a2⟩
   have WY := hid_intro (show Wy w w6 (Y ++ [(no, G, z)]) from by
    have h5 : Wy w _ Y := (HY.out.keptN (grown_trans H15.out HA.out)).kept hgrow6 hcur
    have r5 := (R4.out.keptN GG.out).keptN HA.out
    refine ⟨fun p hp => ?_⟩
    rcases List.mem_append.1 hp with e | e
    ·exact h5.rw p e
    ·have e' : p = (no, G, z) := by simpa using e
     subst e'
     exact ⟨(hgrow6.block G r5.lt (fun e => by have h5 := Option.some.inj e; have h6 := (HO.out.lt w.heap.size rfl).2; omega)).trans r5, by have := HG.out.size; simp only; omega, hzl4⟩)
   have O6 := hid_intro hown6
   have G6 := hid_intro (grown_new (grown_trans HG.out (grown_trans H15.out HA.out)) hgrow6 (Nat.le_refl _))
   clear hown6 hgrow6 hcur
   go_wp2
   go_roundw
   case rel =>
    refine ⟨k + 1, Y ++ [(no, G, z)], by omega, by go_num, rfl, by rw [List.length_append, hYl]; rfl, ?_, WY.out, ?_, G6.out⟩
    ·rw [wcells_app]; exact O6.out
    ·rw [List.map_append, HM.out, List.take_add_one, HP.out, Option.toList_some, List.map_append]; rfl
   case measure => simp [intOf]; omega
  ·obtain rfl : k = n := by omega
   rw [List.take_of_length_le (by have := HL.out; omega)] at hmap
   go_wp2
   go_ret
   exact ⟨Y, rfl, hown, hwy, hmap, hg⟩
end Go.Proofs.YtedpeggdbedmiaaGreatDoor
