import Derived.Test.YtkiopabcnemgnaaGreatDoorQ43
namespace Go.Proofs.YtkiopabcnemgnaaGreatDoor
open Go.RowKit
theorem k_tail : (kPage.drop 4092).take 4 = [173, 110, 120, 245] := by
 have h : kPage = body [itK] ++ [173, 110, 120, 245] := by unfold kPage; rw [k_body, List.append_assoc]
 rw [h, List.drop_left' k_bl]
 rfl
theorem k_bt : Bt kPage := by
 have h : kPage = body [itK] ++ low4 4118310573 := by unfold kPage; rw [k_body, k_low, List.append_assoc]
 rw [h]
 exact (body_bt k_bounds).app (fun z hz => low4_bts _ z hz)
theorem il_still {w w' : World} {I T : Nat} {x : It} {y : Pv} (h : Il w (some ⟨I, 0, none⟩) [x]) (hx : Px w T y) (hg : w.grownBy w' (some T)) (hne : I ≠ T) : Il w' (some ⟨I, 0, none⟩) [x] := by
 refine ⟨fun i hi => ?_⟩
 obtain ⟨b, off, ao, n, c, bo, m, d, e, q1, q2, q3, q4, q5, q6, q7, q8, q9⟩ := h.row i hi
 injection e with e
 injection e with e1 e2 _
 subst e1 e2
 have ne : some I ≠ some T := fun e => hne (Option.some.inj e)
 exact ⟨I, 0, ao, n, c, bo, m, d, rfl, hg.cell q1 ne, hg.cell q2 ne, hg.cell q3 ne, hg.cell q4 ne, q5.page hx hg, q6, q7, q8.page hx hg, q9⟩
set_option maxHeartbeats 8000000 in
set_option maxRecDepth 100000 in
theorem first8_any (w : World) (ht : Tab w) (hm : Mk w) : Calls Tryz.prog 9 #[] w fun en w' => en = .returned (.bool true) ∧ w.grownBy w' none := by
 obtain ⟨i0, hi, hz0, hz1, hz2⟩ := info_parts info_u8
 have HT := hid_intro ht
 have HM := hid_intro hm
 clear ht hm
 have v1 := fun (W : World) (C : Array Value) (n c : Nat) => conv_at W C n c _ rfl
 have v2 := fun (W : World) (o : Obj) (C : Array Value) (n c : Nat) => conv_at (W.alloc o) C n c (W.heap.size + 1) (size_alloc W o).symm
 go_enter Tryz.func9, Tryz.ntmps9
 go_upto_region 2 with fail
 have HIL := hid_intro (Il.lit1 ((w.alloc (.cells #[.int .u8 107] 5 (1, 2))).alloc (.cells #[.int .u8 118, .int .u8 118] 5 (2, 3))) itK (some ⟨w.heap.size, 0, none⟩) (some ⟨w.heap.size + 1, 0, none⟩) 1 1 2 2 (w.heap.size + 2) (by rw [size_alloc, size_alloc])
  ((Byt.litK w 5 #[.int .u8 107] (1, 2) [107] 1 _ rfl rfl rfl).on _) (Byt.litK _ 5 #[.int .u8 118, .int .u8 118] (2, 3) [118, 118] 2 _ rfl rfl (size_alloc w _).symm) ⟨by omega, by omega⟩ ⟨by omega, by omega⟩ 2 0 rfl rfl)
 have HG0 := hid_intro (grown_trans (grown_trans (World.grownBy_alloc w (.cells #[.int .u8 107] 5 (1, 2)) none) (World.grownBy_alloc _ (.cells #[.int .u8 118, .int .u8 118] 5 (2, 3)) none)) (World.grownBy_alloc _ (.cells #[.slice (some ⟨w.heap.size, 0, none⟩) 1 1, .slice (some ⟨w.heap.size + 1, 0, none⟩) 2 2, .int .i64 2, .int .i64 0] 62) none))
 have hs0 : (((w.alloc (.cells #[.int .u8 107] 5 (1, 2))).alloc (.cells #[.int .u8 118, .int .u8 118] 5 (2, 3))).alloc (.cells #[.slice (some ⟨w.heap.size, 0, none⟩) 1 1, .slice (some ⟨w.heap.size + 1, 0, none⟩) 2 2, .int .i64 2, .int .i64 0] 62)).heap.size = w.heap.size + 3 := by rw [size_alloc, size_alloc, size_alloc]
 generalize ((w.alloc (.cells #[.int .u8 107] 5 (1, 2))).alloc (.cells #[.int .u8 118, .int .u8 118] 5 (2, 3))).alloc (.cells #[.slice (some ⟨w.heap.size, 0, none⟩) 1 1, .slice (some ⟨w.heap.size + 1, 0, none⟩) 2 2, .int .i64 2, .int .i64 0] 62) = w0 at *
 clear v1 v2
 have hI3 : w.heap.size + 1 + 1 + 1 = w0.heap.size := by omega
 rw [hI3]
 have HIL2 : Hid (Il w0 (some ⟨w.heap.size + 1 + 1, 0, none⟩) [itK]) := HIL.out
 clear HIL hI3
 have hIT : w.heap.size + 1 + 1 < w0.heap.size := by omega
 generalize w.heap.size + 1 + 1 = I at *
 have ga := World.grownBy_alloc w0 (.cells #[.int .i64 1, .slice (some ⟨I, 0, none⟩) 1 1, .int .i64 0, .slice none 0 0, .slice none 0 0, .int .i64 0, .slice none 0 0, .slice none 0 0, .int .i64 0, .int .i64 0, .int .i64 0, .int .i64 0, .int .i64 0, .int .i64 0, .int .i64 0] 30) none
 have X1 : Hid (Px (w0.alloc (.cells #[.int .i64 1, .slice (some ⟨I, 0, none⟩) 1 1, .int .i64 0, .slice none 0 0, .slice none 0 0, .int .i64 0, .slice none 0 0, .slice none 0 0, .int .i64 0, .int .i64 0, .int .i64 0, .int .i64 0, .int .i64 0, .int .i64 0, .int .i64 0] 30)) w0.heap.size ⟨1, ⟨some ⟨I, 0, none⟩, 1, 1⟩, 0, nS, nS, 0, nS, nS, zH⟩) := Px.new w0 ⟨1, ⟨some ⟨I, 0, none⟩, 1, 1⟩, 0, nS, nS, 0, nS, nS, zH⟩
 have P1 : Hid (Pm (w0.alloc (.cells #[.int .i64 1, .slice (some ⟨I, 0, none⟩) 1 1, .int .i64 0, .slice none 0 0, .slice none 0 0, .int .i64 0, .slice none 0 0, .slice none 0 0, .int .i64 0, .int .i64 0, .int .i64 0, .int .i64 0, .int .i64 0, .int .i64 0, .int .i64 0] 30)) ⟨1, ⟨some ⟨I, 0, none⟩, 1, 1⟩, 0, nS, nS, 0, nS, nS, zH⟩ pgK) := ⟨rfl, rfl, rfl, rfl, HIL2.out.keptN ga, k_bounds, rfl, (by show 1 ≤ _; omega), Lz.zero _ _, lb_nil8, rfl, (by show 0 ≤ _; omega), Kl.zero _ _, rfl, (by show 0 ≤ _; omega), Byt.empty _, Bt.nil, (by show 0 ≤ _; omega), Nt.zero _ _, rfl, (by show 0 ≤ _; omega)⟩
 have G1 := hid_intro (grown_trans HG0.out ga)
 clear ga HIL2 HG0
 generalize w0.alloc (.cells #[.int .i64 1, .slice (some ⟨I, 0, none⟩) 1 1, .int .i64 0, .slice none 0 0, .slice none 0 0, .int .i64 0, .slice none 0 0, .slice none 0 0, .int .i64 0, .int .i64 0, .int .i64 0, .int .i64 0, .int .i64 0, .int .i64 0, .int .i64 0] 30) = w1 at *
 have hT : w.heap.size < w0.heap.size := by omega
 have hTs : w0.heap.size < w1.heap.size := X1.out.lt
 clear hs0
 generalize w0.heap.size = T at *
 obtain ⟨c0, c1, c2, c3, c4, c5, c6, c7, c8, c9, c10, c11, c12, c13, c14⟩ := X1.out.cells
 go_wp2_with fail
 refine (encode8_any ⟨1, ⟨some ⟨I, 0, none⟩, 1, 1⟩, 0, nS, nS, 0, nS, nS, zH⟩ pgK _ P1.out (en_leaf (by decide)) (HT.out.keptN G1.out) (HM.out.keptN G1.out)).mono ?_
 rintro en w2 ⟨⟨ao, n, zs, e, rfl, hpe, hb2, _, _, hn2⟩, hg2⟩
 obtain ⟨rfl, rfl⟩ := hpe.uniq k_penc
 obtain rfl : n = 4096 := by rw [← hb2.len]; exact k_len
 obtain ⟨g, rfl, hgs, hr2⟩ := hn2 (by omega)
 have R2 := hid_intro hr2
 have X2 := hid_intro (X1.out.keptN hg2)
 have P2 := hid_intro (P1.out.keptN hg2)
 have G2 := hid_intro (grown_trans G1.out hg2)
 clear hpe hb2 hn2 hr2 hg2 X1 P1 G1 c0 c1 c2 c3 c4 c5 c6 c7 c8 c9 c10 c11 c12 c13 c14
 go_wp2_with fail
 refine (num8_any _ _).mono ?_
 rintro en w3 ⟨rfl, rfl⟩
 have ga := World.grownBy_alloc w3 (.cells #[.int .u8 1, .int .u8 1, .int .u8 0, .int .u8 1, .int .u8 107, .int .u8 7, .int .u8 0, .int .u8 0, .int .u8 4, .int .u8 118, .int .u8 118] 5) none
 have L3 := hid_intro (Byt.litK w3 5 #[.int .u8 1, .int .u8 1, .int .u8 0, .int .u8 1, .int .u8 107, .int .u8 7, .int .u8 0, .int .u8 0, .int .u8 4, .int .u8 118, .int .u8 118] (0, 0) [1, 1, 0, 1, 107, 7, 0, 0, 4, 118, 118] 11 _ rfl rfl rfl)
 have R3 := hid_intro (R2.out.keptN ga)
 have X3 := hid_intro (X2.out.keptN ga)
 have P3 := hid_intro (P2.out.keptN ga)
 have G3 := hid_intro (grown_trans G2.out ga)
 clear ga R2 X2 P2 G2
 go_wp2_with fail
 generalize w3.alloc (.cells #[.int .u8 1, .int .u8 1, .int .u8 0, .int .u8 1, .int .u8 107, .int .u8 7, .int .u8 0, .int .u8 0, .int .u8 4, .int .u8 118, .int .u8 118] 5) = w4 at *
 generalize w3.heap.size = K at *
 refine (same_yes _ _ 11 11 4096 11 _ _ _ (R3.out.byt 0 11 4096 (by rw [k_len]; omega)) L3.out (by rw [List.drop_zero]; exact List.take_left' rfl)).mono ?_
 rintro en w5 ⟨rfl, rfl⟩
 clear L3
 have ga := World.grownBy_alloc w5 (.cells #[.int .u8 173, .int .u8 110, .int .u8 120, .int .u8 245] 5) none
 have L5 := hid_intro (Byt.litK w5 5 #[.int .u8 173, .int .u8 110, .int .u8 120, .int .u8 245] (0, 0) [173, 110, 120, 245] 4 _ rfl rfl rfl)
 have R5 := hid_intro (R3.out.keptN ga)
 have X5 := hid_intro (X3.out.keptN ga)
 have P5 := hid_intro (P3.out.keptN ga)
 have G5 := hid_intro (grown_trans G3.out ga)
 clear ga R3 X3 P3 G3
 go_wp2_with fail
 generalize w5.alloc (.cells #[.int .u8 173, .int .u8 110, .int .u8 120, .int .u8 245] 5) = w6 at *
 generalize w5.heap.size = K2 at *
 refine (same_yes _ _ 4 4 4 4 _ _ _ (R5.out.byt 4092 4 4 (by rw [k_len]; omega)) L5.out k_tail).mono ?_
 rintro en w7 ⟨rfl, rfl⟩
 clear L5
 have B7 := hid_intro (R5.out.all 4096 4096 k_len.symm)
 have BT7 : Hid (Bt kPage) := k_bt
 go_wp2_with fail
 refine (decode8_any _ 4096 4096 kPage _ B7.out BT7.out (Nat.le_refl _) (HT.out.keptN G5.out) (HM.out.keptN G5.out)).mono ?_
 rintro en w8 ⟨⟨y, q, f, rfl, hpd, hpn, _⟩, hg8⟩
 obtain ⟨rfl, rfl⟩ := hpd.uniq k_penc.back.1
 have ga := World.grownBy_alloc w8 (.cells #[.int .i64 y.k, .slice y.i.a y.i.n y.i.c, .int .i64 y.l, .slice y.s.a y.s.n y.s.c, .slice y.d.a y.d.n y.d.c, .int .i64 y.x, .slice y.b.a y.b.n y.b.c, .slice y.t.a y.t.n y.t.c, .int .i64 y.h.v, .int .i64 y.h.c, .int .i64 y.h.r, .int .i64 y.h.h, .int .i64 y.h.k, .int .i64 y.h.f, .int .i64 y.h.n] 30) none
 have Q8 := hid_intro (hpn.keptN ga).pm
 have Y8 := hid_intro (Px.new w8 y)
 have X8 := hid_intro ((X5.out.keptN hg8).keptN ga)
 have P8 := hid_intro ((P5.out.keptN hg8).keptN ga)
 have G8 := hid_intro (grown_trans (grown_trans G5.out hg8) ga)
 clear hpd hpn hg8 ga B7 R5 X5 P5 G5
 go_upto_region 7 with fail
 generalize w8.alloc (.cells #[.int .i64 y.k, .slice y.i.a y.i.n y.i.c, .int .i64 y.l, .slice y.s.a y.s.n y.s.c, .slice y.d.a y.d.n y.d.c, .int .i64 y.x, .slice y.b.a y.b.n y.b.c, .slice y.t.a y.t.n y.t.c, .int .i64 y.h.v, .int .i64 y.h.c, .int .i64 y.h.r, .int .i64 y.h.h, .int .i64 y.h.k, .int .i64 y.h.f, .int .i64 y.h.n] 30) = w9 at *
 generalize w8.heap.size = T2 at *
 obtain ⟨c0, c1, c2, c3, c4, c5, c6, c7, c8, c9, c10, c11, c12, c13, c14⟩ := X8.out.cells
 obtain ⟨d0, d1, d2, d3, d4, d5, d6, d7, d8, d9, d10, d11, d12, d13, d14⟩ := Y8.out.cells
 go_wp2_with fail
 refine (samePage_any ⟨1, ⟨some ⟨I, 0, none⟩, 1, 1⟩, 0, nS, nS, 0, nS, nS, zH⟩ y pgK pgK _ P8.out Q8.out).mono ?_
 rintro en w10 ⟨⟨b10, rfl, hb10⟩, hg10⟩
 obtain rfl : b10 = true := hb10.2 rfl
 have X10 := hid_intro (X8.out.keptN hg10)
 have P10 := hid_intro (P8.out.keptN hg10)
 have G10 := hid_intro (grown_trans G8.out hg10)
 clear hb10 hg10 X8 P8 G8 Q8 Y8 c0 c1 c2 c3 c4 c5 c6 c7 c8 c9 c10 c11 c12 c13 c14 d0 d1 d2 d3 d4 d5 d6 d7 d8 d9 d10 d11 d12 d13 d14
 go_wp2_with (at_make; refine wpList_make_full _ rfl _ _ 25 rfl w10.heap.size 5 i0 (.int .u8 0) 1 Tryz.underlying25 hi hz0 hz1 _ _ _ _ 4096 rfl rfl rfl rfl (by rw [hz2]; omega) (by unfold maxLen; omega) (Nat.le_refl _) ?_)
 intro w11 hown11 hg11
 have R11 : Hid (Rw w11 w10.heap.size (List.replicate 4096 0)) := by rw [made] at hown11; exact Rw.of_owns hown11
 have X11 := hid_intro (X10.out.keptN hg11)
 have P11 := hid_intro (P10.out.keptN hg11)
 have G11 := hid_intro (grown_trans G10.out hg11)
 clear hown11 hg11 X10 P10 G10
 have HZL : Hid ((List.replicate 4096 (0 : Int)).length = 4096) := List.length_replicate
 have HZB := hid_intro (bt_zeros 4096)
 have HZN := hid_intro zeros_no
 generalize List.replicate 4096 (0 : Int) = zz at *
 go_wp2_with fail
 refine (decode8_any _ 4096 4096 zz _ (R11.out.all 4096 4096 HZL.out.symm) HZB.out (Nat.le_refl _) (HT.out.keptN G11.out) (HM.out.keptN G11.out)).mono ?_
 rintro en w12 ⟨⟨y2, q2, f2, rfl, hpd, _, _⟩, hg12⟩
 obtain rfl : f2 = 22 := (hpd.sum HZL.out).2 HZN.out
 have ga := World.grownBy_alloc w12 (.cells #[.int .i64 y2.k, .slice y2.i.a y2.i.n y2.i.c, .int .i64 y2.l, .slice y2.s.a y2.s.n y2.s.c, .slice y2.d.a y2.d.n y2.d.c, .int .i64 y2.x, .slice y2.b.a y2.b.n y2.b.c, .slice y2.t.a y2.t.n y2.t.c, .int .i64 y2.h.v, .int .i64 y2.h.c, .int .i64 y2.h.r, .int .i64 y2.h.h, .int .i64 y2.h.k, .int .i64 y2.h.f, .int .i64 y2.h.n] 30) none
 have X12 := hid_intro ((X11.out.keptN hg12).keptN ga)
 have P12 := hid_intro ((P11.out.keptN hg12).keptN ga)
 have G12 := hid_intro (grown_trans (grown_trans G11.out hg12) ga)
 clear hpd hg12 ga X11 P11 G11 R11
 go_upto_region 9 with fail
 generalize w12.alloc (.cells #[.int .i64 y2.k, .slice y2.i.a y2.i.n y2.i.c, .int .i64 y2.l, .slice y2.s.a y2.s.n y2.s.c, .slice y2.d.a y2.d.n y2.d.c, .int .i64 y2.x, .slice y2.b.a y2.b.n y2.b.c, .slice y2.t.a y2.t.n y2.t.c, .int .i64 y2.h.v, .int .i64 y2.h.c, .int .i64 y2.h.r, .int .i64 y2.h.h, .int .i64 y2.h.k, .int .i64 y2.h.f, .int .i64 y2.h.n] 30) = w13 at *
 generalize w12.heap.size = T3 at *
 have c5 := X12.out.cells.2.2.2.2.2.1
 have f5 := X12.out.frozen 5
 go_upto_region 10 with fail
 have hgF : w13.grownBy (w13.setCell ⟨T, 5, none⟩ (.int .i64 7)) (some T) := grown_cell w13 T 5 (.int .i64 7)
 have X14 : Hid (Px (w13.setCell ⟨T, 5, none⟩ (.int .i64 7)) T ⟨1, ⟨some ⟨I, 0, none⟩, 1, 1⟩, 0, nS, nS, 7, nS, nS, zH⟩) := X12.out.set5 7
 have P14 : Hid (Pm (w13.setCell ⟨T, 5, none⟩ (.int .i64 7)) ⟨1, ⟨some ⟨I, 0, none⟩, 1, 1⟩, 0, nS, nS, 7, nS, nS, zH⟩ ⟨1, [itK], 0, [], [], 7, [], [], zH⟩) := by
  have h := P12.out.items
  refine ⟨rfl, rfl, rfl, rfl, il_still h X12.out hgF (by omega), k_bounds, rfl, (by show 1 ≤ _; omega), Lz.zero _ _, lb_nil8, rfl, (by show 0 ≤ _; omega), Kl.zero _ _, rfl, (by show 0 ≤ _; omega), Byt.empty _, Bt.nil, (by show 0 ≤ _; omega), Nt.zero _ _, rfl, (by show 0 ≤ _; omega)⟩
 have G14 := hid_intro (grown_new G12.out hgF (by omega))
 clear hgF X12 P12 G12 c5 f5
 generalize w13.setCell ⟨T, 5, none⟩ (.int .i64 7) = w14 at *
 obtain ⟨c0, c1, c2, c3, c4, c5, c6, c7, c8, c9, c10, c11, c12, c13, c14⟩ := X14.out.cells
 go_wp2_with fail
 refine (encode8_any ⟨1, ⟨some ⟨I, 0, none⟩, 1, 1⟩, 0, nS, nS, 7, nS, nS, zH⟩ ⟨1, [itK], 0, [], [], 7, [], [], zH⟩ _ P14.out ⟨by decide, Nat.zero_le _, Nat.zero_le _, ⟨Nat.zero_le _, Nat.zero_le _⟩, Nat.zero_le _⟩ (HT.out.keptN G14.out) (HM.out.keptN G14.out)).mono ?_
 rintro en w15 ⟨⟨ao, n, zs, e, rfl, hpe, _, _, _, _⟩, hg15⟩
 obtain rfl := k_spare hpe
 have G15 := hid_intro (grown_trans G14.out hg15)
 clear hpe hg15 G14 X14 P14 c0 c1 c2 c3 c4 c5 c6 c7 c8 c9 c10 c11 c12 c13 c14
 go_wp2_with fail
 refine (num8_any _ _).mono ?_
 rintro en w16 ⟨rfl, rfl⟩
 go_wp2_with fail
 refine (num8_any _ _).mono ?_
 rintro en w16 ⟨rfl, rfl⟩
 go_wp2_with fail
 refine (num8_any _ _).mono ?_
 rintro en w16 ⟨rfl, rfl⟩
 go_wp2
 go_ret
 exact ⟨rfl, G15.out⟩
end Go.Proofs.YtkiopabcnemgnaaGreatDoor
