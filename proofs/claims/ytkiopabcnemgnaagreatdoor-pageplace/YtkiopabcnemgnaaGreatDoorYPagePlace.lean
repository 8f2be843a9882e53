import Derived.Test.YtkiopabcnemgnaaGreatDoorK53
import Derived.Test.YtkiopabcnemgnaaGreatDoorK48
import Derived.Test.YtkiopabcnemgnaaGreatDoorK51
import Derived.Test.YtkiopabcnemgnaaGreatDoorK45
import Derived.Test.YtkiopabcnemgnaaGreatDoorK52
import Derived.Test.YtkiopabcnemgnaaGreatDoorK37
import Derived.Test.YtkiopabcnemgnaaGreatDoorK47
import Derived.Test.YtkiopabcnemgnaaGreatDoorK24
import Derived.Test.YtkiopabcnemgnaaGreatDoorK49
import Derived.LaidMore
import Derived.Stop.Joined
import Derived.SevenTiedAt
import Derived.WalkKit
import Derived.ProofKit
import Derived.OpenShut
import Derived.ShutString
import Derived.ChangeOld
import Derived.Below
import Derived.SizedLaws
import Derived.Deep.Slices
import Derived.Test.YtkiopabcnemgnaaGreatDoorRows
import Derived.Test.YtkiopabcnemgnaaGreatDoorCards
import Derived.Test.YtkiopabcnemgnaaGreatDoorTie
set_option maxRecDepth 100000
set_option maxHeartbeats 8000000
namespace Go.Proofs.YtkiopabcnemgnaaGreatDoor
open Go.RowKit
theorem over_eq {xs ys : List Int} (h : xs.length = ys.length) : over xs ys = ys := by
 unfold over; rw [h, List.take_length, ← h, List.drop_length, List.append_nil]
theorem penc_bt8 {p : Pg} {zs : List Int} {e : Int} (h : PEnc p zs e) (hi : Ib p.items) (hs : Lb p.seps) (hd : Bt p.data) : Bt zs := by
 rcases h with ⟨_, _, h⟩ | ⟨_, _, _, h⟩ | ⟨_, _, b, f, h1, ⟨_, _, h⟩ | ⟨_, _, h2⟩⟩
 ·rw [h]; exact Bt.nil
 ·rw [h]; exact Bt.nil
 ·rw [h]; exact Bt.nil
 ·rw [h2]; exact sealL_bt (h1.bt hi hs hd)
theorem pagePlace_walk (x : Pv) (p : Pg) (xo : Pv) (o : Pg) (k kx : Int) (w : World) (hp : Pm w x p) (ho : Pm w xo o) (hx0 : 0 ≤ kx) (hx1 : kx ≤ 255) (ht : Tab w) (hm : Mk w) : Calls Tryz.prog 4 #[.agg #[.int .i64 x.k, .slice x.i.a x.i.n x.i.c, .int .i64 x.l, .slice x.s.a x.s.n x.s.c, .slice x.d.a x.d.n x.d.c, .int .i64 x.x, .slice x.b.a x.b.n x.b.c, .slice x.t.a x.t.n x.t.c, .int .i64 x.h.v, .int .i64 x.h.c, .int .i64 x.h.r, .int .i64 x.h.h, .int .i64 x.h.k, .int .i64 x.h.f, .int .i64 x.h.n], .agg #[.int .i64 xo.k, .slice xo.i.a xo.i.n xo.i.c, .int .i64 xo.l, .slice xo.s.a xo.s.n xo.s.c, .slice xo.d.a xo.d.n xo.d.c, .int .i64 xo.x, .slice xo.b.a xo.b.n xo.b.c, .slice xo.t.a xo.t.n xo.t.c, .int .i64 xo.h.v, .int .i64 xo.h.c, .int .i64 xo.h.r, .int .i64 xo.h.h, .int .i64 xo.h.k, .int .i64 xo.h.f, .int .i64 xo.h.n], .int .i64 k, .int .u8 kx] w fun en w' => en = .returned (.bool true) ∧ w.grownBy w' none := by
 obtain ⟨i1, hi1, hy0, hy1, hy2⟩ := info_parts info_u8;have HU : Hid ((Tryz.prog.info? 5).map (·.size) = some 1) := by rw [hi1]; exact congrArg some hy1
 have HP := hJ hp;have HO := hJ ho;have HT := hJ ht;have HM := hJ hm;clear hp ho ht hm hy0 hy1 hy2 hi1;go_enter Tryz.func4, Tryz.ntmps4;go_upto_region 1 with fail
 have X1 := hJ ((Px.new w x).keptN (gP _ xo));have Y1 : Hid (Px ((w.alloc (.cells #[.int .i64 x.k, .slice x.i.a x.i.n x.i.c, .int .i64 x.l, .slice x.s.a x.s.n x.s.c, .slice x.d.a x.d.n x.d.c, .int .i64 x.x, .slice x.b.a x.b.n x.b.c, .slice x.t.a x.t.n x.t.c, .int .i64 x.h.v, .int .i64 x.h.c, .int .i64 x.h.r, .int .i64 x.h.h, .int .i64 x.h.k, .int .i64 x.h.f, .int .i64 x.h.n] 30)).alloc (.cells #[.int .i64 xo.k, .slice xo.i.a xo.i.n xo.i.c, .int .i64 xo.l, .slice xo.s.a xo.s.n xo.s.c, .slice xo.d.a xo.d.n xo.d.c, .int .i64 xo.x, .slice xo.b.a xo.b.n xo.b.c, .slice xo.t.a xo.t.n xo.t.c, .int .i64 xo.h.v, .int .i64 xo.h.c, .int .i64 xo.h.r, .int .i64 xo.h.h, .int .i64 xo.h.k, .int .i64 xo.h.f, .int .i64 xo.h.n] 30)) (w.heap.size + 1) xo) := heap_alloc2_new w _ _;have G1 := hJ (grown_two w (.cells #[.int .i64 x.k, .slice x.i.a x.i.n x.i.c, .int .i64 x.l, .slice x.s.a x.s.n x.s.c, .slice x.d.a x.d.n x.d.c, .int .i64 x.x, .slice x.b.a x.b.n x.b.c, .slice x.t.a x.t.n x.t.c, .int .i64 x.h.v, .int .i64 x.h.c, .int .i64 x.h.r, .int .i64 x.h.h, .int .i64 x.h.k, .int .i64 x.h.f, .int .i64 x.h.n] 30) (.cells #[.int .i64 xo.k, .slice xo.i.a xo.i.n xo.i.c, .int .i64 xo.l, .slice xo.s.a xo.s.n xo.s.c, .slice xo.d.a xo.d.n xo.d.c, .int .i64 xo.x, .slice xo.b.a xo.b.n xo.b.c, .slice xo.t.a xo.t.n xo.t.c, .int .i64 xo.h.v, .int .i64 xo.h.c, .int .i64 xo.h.r, .int .i64 xo.h.h, .int .i64 xo.h.k, .int .i64 xo.h.f, .int .i64 xo.h.n] 30));generalize (w.alloc (.cells #[.int .i64 x.k, .slice x.i.a x.i.n x.i.c, .int .i64 x.l, .slice x.s.a x.s.n x.s.c, .slice x.d.a x.d.n x.d.c, .int .i64 x.x, .slice x.b.a x.b.n x.b.c, .slice x.t.a x.t.n x.t.c, .int .i64 x.h.v, .int .i64 x.h.c, .int .i64 x.h.r, .int .i64 x.h.h, .int .i64 x.h.k, .int .i64 x.h.f, .int .i64 x.h.n] 30)).alloc (.cells #[.int .i64 xo.k, .slice xo.i.a xo.i.n xo.i.c, .int .i64 xo.l, .slice xo.s.a xo.s.n xo.s.c, .slice xo.d.a xo.d.n xo.d.c, .int .i64 xo.x, .slice xo.b.a xo.b.n xo.b.c, .slice xo.t.a xo.t.n xo.t.c, .int .i64 xo.h.v, .int .i64 xo.h.c, .int .i64 xo.h.r, .int .i64 xo.h.h, .int .i64 xo.h.k, .int .i64 xo.h.f, .int .i64 xo.h.n] 30) = w1 at *;obtain ⟨BX, hBX⟩ : ∃ BX, w.heap.size = BX := ⟨_, rfl⟩;obtain ⟨BO, hBO⟩ : ∃ BO, w.heap.size + 1 = BO := ⟨_, rfl⟩;rw [hBO] at Y1;rw [hBX] at X1;rw [hBO, hBX];clear hBX hBO
 go_wp2_with fail
 refine (first8_any _ (HT.out.keptN G1.out) (HM.out.keptN G1.out)).mono ?_;rintro en w2 ⟨rfl, hg2⟩;have X2 := hJ (X1.out.keptN hg2);have Y2 := hJ (Y1.out.keptN hg2);have G2 := hJ (gQ G1.out hg2);clear hg2 X1 Y1 G1;obtain ⟨c0, c1, c2, c3, c4, c5, c6, c7, c8, c9, c10, c11, c12, c13, c14⟩ := X2.out.cells
 go_wp2_with fail
 refine (fits8_any x p _ (HP.out.keptN G2.out)).mono ?_;rintro en w3 ⟨⟨b3, rfl, hb3⟩, hg3⟩;have X3 := hJ (X2.out.keptN hg3);have Y3 := hJ (Y2.out.keptN hg3);have G3 := hJ (gQ G2.out hg3);clear hg3 X2 Y2 G2 c0 c1 c2 c3 c4 c5 c6 c7 c8 c9 c10 c11 c12 c13 c14;cases b3 with
 | false =>
  clear hb3;go_wp2;go_ret;exact ⟨rfl, G3.out⟩
 | true =>
  have FP := hJ (hb3 rfl);clear hb3;obtain ⟨c0, c1, c2, c3, c4, c5, c6, c7, c8, c9, c10, c11, c12, c13, c14⟩ := Y3.out.cells
  go_wp2_with fail
  refine (fits8_any xo o _ (HO.out.keptN G3.out)).mono ?_;rintro en w4 ⟨⟨b4, rfl, hb4⟩, hg4⟩;have X4 := hJ (X3.out.keptN hg4);have Y4 := hJ (Y3.out.keptN hg4);have G4 := hJ (gQ G3.out hg4);clear hg4 X3 Y3 G3 c0 c1 c2 c3 c4 c5 c6 c7 c8 c9 c10 c11 c12 c13 c14;cases b4 with
  | false =>
   clear hb4;go_wp2;go_ret;exact ⟨rfl, G4.out⟩
  | true =>
   have FO := hJ (hb4 rfl);clear hb4
   as_aux_lemma =>
    obtain ⟨c0, c1, c2, c3, c4, c5, c6, c7, c8, c9, c10, c11, c12, c13, c14⟩ := X4.out.cells
    go_wp2_with fail
    refine (lent8_any x p _ (HP.out.keptN G4.out) FP.out).mono ?_;rintro en w5 ⟨⟨y, b, rfl, hlt⟩, hg5⟩;have ga := gP w5 y;have HO4 := hJ (HO.out.keptN G4.out);have L6 := hJ (hlt.keptN ga);have X6 := hJ ((X4.out.keptN hg5).keptN ga);have Y6 := hJ ((Y4.out.keptN hg5).keptN ga);have Z6 := hJ (Px.new w5 y);have D6 := hJ (gQ hg5 ga);clear hlt hg5 ga X4 Y4 c0 c1 c2 c3 c4 c5 c6 c7 c8 c9 c10 c11 c12 c13 c14;go_upto_region 5 with fail
    generalize w5.alloc (.cells #[.int .i64 y.k, .slice y.i.a y.i.n y.i.c, .int .i64 y.l, .slice y.s.a y.s.n y.s.c, .slice y.d.a y.d.n y.d.c, .int .i64 y.x, .slice y.b.a y.b.n y.b.c, .slice y.t.a y.t.n y.t.c, .int .i64 y.h.v, .int .i64 y.h.c, .int .i64 y.h.r, .int .i64 y.h.h, .int .i64 y.h.k, .int .i64 y.h.f, .int .i64 y.h.n] 30) = w6 at *;generalize w5.heap.size = T at *;obtain ⟨c0, c1, c2, c3, c4, c5, c6, c7, c8, c9, c10, c11, c12, c13, c14⟩ := Z6.out.cells
    go_wp2_with fail
    refine (encode8_any y p _ L6.out.pm.1 (L6.out.en FP.out) (HT.out.keptN (gQ G4.out D6.out)) (HM.out.keptN (gQ G4.out D6.out))).mono ?_;rintro en w7 ⟨⟨ao, n, zs, e, rfl, _, _, _, _, _⟩, hg7⟩;have L7 := hJ (L6.out.keptN hg7);have X7 := hJ (X6.out.keptN hg7);have Y7 := hJ (Y6.out.keptN hg7);have Z7 := hJ (Z6.out.keptN hg7);have D7 := hJ (gQ D6.out hg7);clear hg7 L6 X6 Y6 Z6 D6 c0 c1 c2 c3 c4 c5 c6 c7 c8 c9 c10 c11 c12 c13 c14;obtain ⟨c0, c1, c2, c3, c4, c5, c6, c7, c8, c9, c10, c11, c12, c13, c14⟩ := Z7.out.cells;obtain ⟨d0, d1, d2, d3, d4, d5, d6, d7, d8, d9, d10, d11, d12, d13, d14⟩ := Y7.out.cells
    go_wp2_with fail
    refine (turn8_any w4 w4.heap.size y xo p o b _ (Nat.le_refl _) D7.out L7.out FP.out HO4.out FO.out).mono ?_;rintro en w8 ⟨rfl, ⟨q, hlt, hfq, hg8⟩, hbx⟩;have L8 := hJ hlt;have FQ := hJ hfq;have X8 := hJ (hbx _ _ X7.out);have Y8 := hJ (hbx _ _ Y7.out);have Z8 := hJ (hbx _ _ Z7.out);have G8 := hJ (gQ G4.out hg8);clear hlt hfq hg8 hbx L7 X7 Y7 Z7 D7 G4 HO4 c0 c1 c2 c3 c4 c5 c6 c7 c8 c9 c10 c11 c12 c13 c14 d0 d1 d2 d3 d4 d5 d6 d7 d8 d9 d10 d11 d12 d13 d14
    as_aux_lemma =>
     obtain ⟨c0, c1, c2, c3, c4, c5, c6, c7, c8, c9, c10, c11, c12, c13, c14⟩ := Z8.out.cells
     go_wp2_with fail
     refine (refPage8_any y q _ L8.out.pm.1 FQ.out).mono ?_;rintro en w9 ⟨⟨z, rfl, hpm⟩, hg9⟩;have ga := gP w9 z;have L10 := hJ ((L8.out.keptN hg9).keptN ga);have X10 := hJ ((X8.out.keptN hg9).keptN ga);have Y10 := hJ ((Y8.out.keptN hg9).keptN ga);have Z10 := hJ ((Z8.out.keptN hg9).keptN ga);have M10 := hJ (hpm.keptN ga);have V10 := hJ (Px.new w9 z);have G10 := hJ (gQ (gQ G8.out hg9) ga);clear hpm hg9 ga L8 X8 Y8 Z8 G8 c0 c1 c2 c3 c4 c5 c6 c7 c8 c9 c10 c11 c12 c13 c14;go_upto_region 8 with fail
     generalize w9.alloc (.cells #[.int .i64 z.k, .slice z.i.a z.i.n z.i.c, .int .i64 z.l, .slice z.s.a z.s.n z.s.c, .slice z.d.a z.d.n z.d.c, .int .i64 z.x, .slice z.b.a z.b.n z.b.c, .slice z.t.a z.t.n z.t.c, .int .i64 z.h.v, .int .i64 z.h.c, .int .i64 z.h.r, .int .i64 z.h.h, .int .i64 z.h.k, .int .i64 z.h.f, .int .i64 z.h.n] 30) = w10 at *;generalize w9.heap.size = V at *;obtain ⟨c0, c1, c2, c3, c4, c5, c6, c7, c8, c9, c10, c11, c12, c13, c14⟩ := Z10.out.cells
     go_wp2_with fail
     refine (encode8_any y q _ L10.out.pm.1 (L10.out.en FQ.out) (HT.out.keptN G10.out) (HM.out.keptN G10.out)).mono ?_;rintro en w11 ⟨⟨ao2, n2, zs2, e2, rfl, hpe, hb11, _, _, _⟩, hg11⟩;have PE := hJ hpe;have B11 := hJ hb11;have X11 := hJ (X10.out.keptN hg11);have Y11 := hJ (Y10.out.keptN hg11);have V11 := hJ (V10.out.keptN hg11);have M11 := hJ (M10.out.keptN hg11);have G11 := hJ (gQ G10.out hg11);clear hpe hb11 hg11 L10 X10 Y10 Z10 V10 M10 G10 c0 c1 c2 c3 c4 c5 c6 c7 c8 c9 c10 c11 c12 c13 c14;obtain ⟨c0, c1, c2, c3, c4, c5, c6, c7, c8, c9, c10, c11, c12, c13, c14⟩ := V11.out.cells
     go_wp2_with fail
     refine (refEncode8_any z q _ M11.out FQ.out).mono ?_;rintro en w12 ⟨⟨bo, m, mc, ys, f, rfl, hpf, hb12, _, _⟩, hg12⟩;obtain ⟨rfl, rfl⟩ := PE.out.uniq hpf;have C12 := hJ hb12;have B12 := hJ (B11.out.keptN hg12);have X12 := hJ (X11.out.keptN hg12);have Y12 := hJ (Y11.out.keptN hg12);have G12 := hJ (gQ G11.out hg12);clear hpf hb12 hg12 B11 X11 Y11 V11 M11 G11 PE c0 c1 c2 c3 c4 c5 c6 c7 c8 c9 c10 c11 c12 c13 c14
     go_wp2_with fail
     refine (num8_any _ _).mono ?_;rintro en w13 ⟨rfl, hw13⟩;obtain rfl : w12 = w13 := hw13.symm
     go_wp2_with fail
     refine (same_yes ao2 bo n2 m n2 mc zs2 zs2 _ B12.out C12.out rfl).mono ?_;rintro en w13 ⟨rfl, hw13⟩;obtain rfl : w12 = w13 := hw13.symm;clear B12 C12
     as_aux_lemma =>
      obtain ⟨c0, c1, c2, c3, c4, c5, c6, c7, c8, c9, c10, c11, c12, c13, c14⟩ := X12.out.cells
      go_wp2_with fail
      refine (refEncode8_any x p _ (HP.out.keptN G12.out) FP.out).mono ?_;rintro en w14 ⟨⟨o1, n1, k1, as1, e1, rfl, hp1, hb1, _, hc1⟩, hg14⟩;have P1 := hJ hp1;have B14 := hJ hb1;have Y14 := hJ (Y12.out.keptN hg14);have G14 := hJ (gQ G12.out hg14);clear hp1 hb1 hg14 X12 Y12 G12 c0 c1 c2 c3 c4 c5 c6 c7 c8 c9 c10 c11 c12 c13 c14;obtain ⟨c0, c1, c2, c3, c4, c5, c6, c7, c8, c9, c10, c11, c12, c13, c14⟩ := Y14.out.cells
      go_wp2_with fail
      refine (refEncode8_any xo o _ (HO.out.keptN G14.out) FO.out).mono ?_;rintro en w15 ⟨⟨o2, n2', k2, as2, e2', rfl, hp2, hb2, _, hc2⟩, hg15⟩;have P2 := hJ hp2;have C15 := hJ hb2;have B15 := hJ (B14.out.keptN hg15);have G15 := hJ (gQ G14.out hg15);clear hp2 hb2 hg15 B14 Y14 G14 c0 c1 c2 c3 c4 c5 c6 c7 c8 c9 c10 c11 c12 c13 c14
      by_cases he1 : e1 = 0
      ·subst he1
       by_cases he2 : e2' = 0
       ·subst he2
        have hr1 : n1 = 4096 := by rw [← B15.out.len]; exact P1.out.back.2.1.1
        have hr2 : n2' = 4096 := by rw [← C15.out.len]; exact P2.out.back.2.1.1
        subst hr1 hr2;have T1 : Hid (Bt as1) := penc_bt8 P1.out HP.out.ib HP.out.sb HP.out.db;have T2 : Hid (Bt as2) := penc_bt8 P2.out HO.out.ib HO.out.sb HO.out.db;clear P1 P2
        go_wp2_with fail
        refine (refBytes_any o1 4096 k1 as1 _ B15.out (by omega)).mono ?_;rintro en w16 ⟨rfl, hown, hg16, _⟩;have hl1 := B15.out.len;have hl2 := C15.out.len;have R16 := hJ (Ow.of_owns hown).1;have E16 := hJ hg16;have hR := G15.out.size;obtain ⟨R, hRe⟩ : ∃ R, w15.heap.size = R := ⟨_, rfl⟩;have hRe' : w15.heap.size ≤ R := by omega
        rw [hRe] at R16 hR;rw [hRe];clear hown hg16 hRe B15
        go_wp2_with fail
        refine (decode8_any _ 4096 4096 as1 _ (R16.out.byt 4096 hl1.symm) T1.out (by omega) (HT.out.keptN (gQ G15.out E16.out)) (HM.out.keptN (gQ G15.out E16.out))).mono ?_;rintro en w17 ⟨⟨y1, p1, e1, rfl, _, _, _⟩, hg17⟩;have R17 := hJ (R16.out.keptN hg17);have E17 := hJ (gQ E16.out hg17);obtain ⟨cur, hcur, hcs, _⟩ := R17.out.ex;have hS := hJ (byt_take (C15.out.keptN E17.out) as1.length);have hN := take_lenB C15.out.len as1.length;have hfit : ((as2.take as1.length).map (Value.int .u8)).length ≤ cur.size := by rw [List.length_map, List.length_take, hcs]; omega
        have HC : Hid (∀ w18, w18.heap[R]? = some (.cells ((as2.take as1.length).map (Value.int .u8) ++ cur.toList.drop ((as2.take as1.length).map (Value.int .u8)).length).toArray 5 (0, 0)) → w17.grownBy w18 (some R) → Ow w18 R 4096 as2 ∧ w15.grownBy w18 none) := fun w18 hw hg => by
         refine ⟨?_, grown_new E17.out hg hRe'⟩;have := ow_over (mk := []) (zs := as1) (ts := as2) (by rw [List.append_nil]; exact R17.out) hcur hw
         rwa [List.append_nil, over_eq (by omega)] at this
        rw [hl1] at hS hN hfit HC;obtain ⟨cs, hcse⟩ : ∃ cs, (as2.take 4096).map (Value.int .u8) = cs := ⟨_, rfl⟩;have hone : ∀ v ∈ cs, v.oneCell' = true := by rw [← hcse]; exact ints_oneCell _ _
        rw [hcse] at hS hN hfit HC;obtain ⟨Z, hZ⟩ : ∃ Z, (cs ++ cur.toList.drop cs.length).toArray = Z := ⟨_, rfl⟩;rw [hZ] at HC;have HZ := hJ hZ;clear hZ hcse hg17 R16 E16 R17 E17 hcs
        go_wp2_with (refine wpList_copy8 rfl _ _ 25 5 5 1 rfl Tryz.underlying25 HU.out (by decide) R 4096 4096 o2 4096 k2 rfl rfl cur hcur cs hN hS.out hfit hone Z HZ.out ?_)
        intro w18 hw18 hg18;obtain ⟨hR18, hE18⟩ := HC.out w18 hw18 hg18;have R18 := hJ hR18;have G18 := hJ (gQ G15.out hE18);have C18 := hJ (C15.out.keptN hE18);clear hR18 hE18 HC hw18 hg18 hcur hN hS hfit hone HZ G15 C15
        go_wp2_with fail
        as_aux_lemma =>
         refine (decode8_any _ 4096 4096 as2 _ (R18.out.byt 4096 hl2.symm) T2.out (by omega) (HT.out.keptN G18.out) (HM.out.keptN G18.out)).mono ?_;rintro en w19 ⟨⟨y2, p2, e2, rfl, hpd, hpn, _⟩, hg19⟩;have ga := gP w19 y2;have PD := hJ hpd;have PN := hJ (hpn.keptN ga);have Y20 := hJ (Px.new w19 y2);have hU : w.heap.size ≤ w19.heap.size := (gQ G18.out hg19).size;have R20 := hJ ((R18.out.keptN hg19).keptN ga);have C20 := hJ ((C18.out.keptN hg19).keptN ga);have G20 := hJ (gQ (gQ G18.out hg19) ga);clear hpd hpn hg19 ga R18 C18 G18;go_upto_region 20 with fail
         generalize w19.alloc (.cells #[.int .i64 y2.k, .slice y2.i.a y2.i.n y2.i.c, .int .i64 y2.l, .slice y2.s.a y2.s.n y2.s.c, .slice y2.d.a y2.d.n y2.d.c, .int .i64 y2.x, .slice y2.b.a y2.b.n y2.b.c, .slice y2.t.a y2.t.n y2.t.c, .int .i64 y2.h.v, .int .i64 y2.h.c, .int .i64 y2.h.r, .int .i64 y2.h.h, .int .i64 y2.h.k, .int .i64 y2.h.f, .int .i64 y2.h.n] 30) = w20 at *;generalize w19.heap.size = U1 at *
         go_wp2_with fail
         refine (refDecode8_any o2 4096 k2 as2 _ C20.out T2.out hc2).mono ?_;rintro en w21 ⟨⟨z2, q2, f2, rfl, hpd6, hpn6⟩, hg21⟩;obtain ⟨rfl, rfl⟩ := hpd6.uniq PD.out;have ga := gP w21 z2;have QN := hJ (hpn6.keptN ga);have PN2 := hJ ((PN.out.keptN hg21).keptN ga);have Y22 := hJ ((Y20.out.keptN hg21).keptN ga);have Z22 := hJ (Px.new w21 z2);have hV : w.heap.size ≤ w21.heap.size := (gQ G20.out hg21).size;have PNL := hJ (Y20.out.keptN hg21).lt;have R22 := hJ ((R20.out.keptN hg21).keptN ga);have G22 := hJ (gQ (gQ G20.out hg21) ga);clear hpd6 hpn6 hg21 ga PN Y20 G20 C20 R20 PD;go_upto_region 21 with fail
         generalize w21.alloc (.cells #[.int .i64 z2.k, .slice z2.i.a z2.i.n z2.i.c, .int .i64 z2.l, .slice z2.s.a z2.s.n z2.s.c, .slice z2.d.a z2.d.n z2.d.c, .int .i64 z2.x, .slice z2.b.a z2.b.n z2.b.c, .slice z2.t.a z2.t.n z2.t.c, .int .i64 z2.h.v, .int .i64 z2.h.c, .int .i64 z2.h.r, .int .i64 z2.h.h, .int .i64 z2.h.k, .int .i64 z2.h.f, .int .i64 z2.h.n] 30) = w22 at *;have hne0 : U1 < w21.heap.size := by have := PNL.out; omega
         generalize w21.heap.size = U2 at *;have HNE : Hid (U2 ≠ U1) := fun e => by omega
         obtain ⟨c0, c1, c2, c3, c4, c5, c6, c7, c8, c9, c10, c11, c12, c13, c14⟩ := Y22.out.cells;obtain ⟨d0, d1, d2, d3, d4, d5, d6, d7, d8, d9, d10, d11, d12, d13, d14⟩ := Z22.out.cells
         go_wp2_with fail
         refine (num8_any _ _).mono ?_;rintro en w23 ⟨rfl, hw23⟩;obtain rfl : w22 = w23 := hw23.symm
         go_wp2_with fail
         refine (samePage_any y2 z2 q2 q2 _ PN2.out.pm QN.out.pm).mono ?_;rintro en w24 ⟨⟨b8, rfl, hb8⟩, hg24⟩;obtain rfl : b8 = true := hb8.2 rfl;have Y24 := hJ (Y22.out.keptN hg24);have Z24 := hJ (Z22.out.keptN hg24);have R24 := hJ (R22.out.keptN hg24);have G24 := hJ (gQ G22.out hg24);clear hb8 hg24 PN2 QN Y22 Z22 R22 G22 c0 c1 c2 c3 c4 c5 c6 c7 c8 c9 c10 c11 c12 c13 c14 d0 d1 d2 d3 d4 d5 d6 d7 d8 d9 d10 d11 d12 d13 d14
         as_aux_lemma =>
          obtain ⟨j, zz, hj, hz, hz1, hz2, hj2⟩ := placeN k 4096 (by omega);have cb := R24.out.cell (j := j) (by omega);have cf := R24.out.frozen j;have hby := T2.out.getD j;have hxy := xor_byte5 hby ⟨hx0, hx1⟩;have R25 := hJ (R24.out.set j (bits .xor .u8 (as2.getD j 0) kx) (by omega));have T25 : Hid (Bt (as2.set j (bits .xor .u8 (as2.getD j 0) kx))) := T2.out.set5 j _ hxy;have L25 : Hid ((as2.set j (bits .xor .u8 (as2.getD j 0) kx)).length = 4096) := by show _ = _; rw [List.length_set]; exact hl2
          have hgc := grown_cell w24 R j (.int .u8 (bits .xor .u8 (as2.getD j 0) kx));have G25 := hJ (grown_new G24.out hgc (by omega));obtain ⟨curR, hcurR⟩ := R24.out.blk;have Y25 := hJ (Y24.out.kept hgc (fun e => Y24.out.other hcurR (by decide) (Option.some.inj e).symm));have Z25 := hJ (Z24.out.kept hgc (fun e => Z24.out.other hcurR (by decide) (Option.some.inj e).symm));generalize as2.set j (bits .xor .u8 (as2.getD j 0) kx) = as3 at *;generalize as2.getD j 0 = by0 at *;have g5 : (0 : Int) ≤ (j : Int) := by omega
          have g6 : (j : Int) < 4096 := by omega
          have hz' : Int.tmod k 4096 = zz := hz;have hj2' : Int.tmod (zz + 4096) 4096 = (j : Int) := hj2;have hw1 : IntKind.i64.wrap (zz + 4096) = zz + 4096 := by simp [IntKind.wrap, IntKind.bits, IntKind.signed]; omega
          clear hz hj2 hgc hcurR Y24 Z24 R24 G24 hby hxy;go_upto_region 24 with fail
          generalize w24.setCell ⟨R, j, none⟩ (.int .u8 (bits .xor .u8 by0 kx)) = w25 at *;clear cb cf
          go_wp2_with fail
          refine (refBytes_any _ 4096 4096 as3 _ (R25.out.byt 4096 L25.out.symm) (by omega)).mono ?_;rintro en w26 ⟨rfl, hown, hg26, _⟩;have S26 := hJ (Ow.of_owns hown).1;have R26 := hJ (R25.out.keptN hg26);have Y26 := hJ (Y25.out.keptN hg26);have Z26 := hJ (Z25.out.keptN hg26);have G26 := hJ (gQ G25.out hg26);clear hown hg26 R25 Y25 Z25 G25;generalize w25.heap.size = S at *
          go_wp2_with fail
          refine (decode8_any _ 4096 4096 as3 _ (R26.out.byt 4096 L25.out.symm) T25.out (by omega) (HT.out.keptN G26.out) (HM.out.keptN G26.out)).mono ?_;rintro en w27 ⟨⟨y3, p3, e3, rfl, hpd, hpn, _⟩, hg27⟩;have PD := hJ hpd;have PN := hJ hpn;have S27 := hJ (S26.out.keptN hg27);have Y27 := hJ (Y26.out.keptN hg27);have Z27 := hJ (Z26.out.keptN hg27);have G27 := hJ (gQ G26.out hg27);clear hpd hpn hg27 R26 S26 Y26 Z26 G26
          as_aux_lemma =>
           go_wp2_with (refine wpList_store_page rfl _ _ rfl U1 y3 y2 rfl rfl Y27.out ?_)
           intro w28 hx28 hg28 _;have Y28 := hJ hx28;have PN28 := hJ (PN.out.page Y27.out hg28);have S28 := hJ (S27.out.box8 Y27.out hg28);have hne : U2 ≠ U1 := fun e => HNE.out e
           have Z28 := hJ (Z27.out.kept hg28 (fun e => hne (Option.some.inj e)));have G28 := hJ (grown_new G27.out hg28 hU);clear hx28 hg28 PN S27 Y27 Z27 G27
           go_wp2_with fail
           refine (refDecode8_any _ 4096 4096 as3 _ (S28.out.byt 4096 L25.out.symm) T25.out (by omega)).mono ?_;rintro en w29 ⟨⟨z3, q3, f3, rfl, hpd6, hpn6⟩, hg29⟩;obtain ⟨rfl, rfl⟩ := hpd6.uniq PD.out;have QN := hJ hpn6;have PN29 := hJ (PN28.out.keptN hg29);have Y29 := hJ (Y28.out.keptN hg29);have Z29 := hJ (Z28.out.keptN hg29);have G29 := hJ (gQ G28.out hg29);clear hpd6 hpn6 hg29 PD PN28 S28 Y28 Z28 G28
           go_wp2_with (refine wpList_store_page rfl _ _ rfl U2 z3 z2 rfl rfl Z29.out ?_)
           intro w30 hx30 hg30 _;have Z30 := hJ hx30;have QN30 := hJ (QN.out.page Z29.out hg30);have PN30 := hJ (PN29.out.page Z29.out hg30);have Y30 := hJ (Y29.out.kept hg30 (fun e => hne (Option.some.inj e).symm));have G30 := hJ (grown_new G29.out hg30 hV);clear hx30 hg30 QN PN29 Y29 Z29 G29;obtain ⟨c0, c1, c2, c3, c4, c5, c6, c7, c8, c9, c10, c11, c12, c13, c14⟩ := Y30.out.cells;obtain ⟨d0, d1, d2, d3, d4, d5, d6, d7, d8, d9, d10, d11, d12, d13, d14⟩ := Z30.out.cells
           go_wp2_with fail
           refine (num8_any _ _).mono ?_;rintro en w31 ⟨rfl, hw31⟩;obtain rfl : w30 = w31 := hw31.symm
           go_wp2_with fail
           refine (samePage_any y3 z3 q3 q3 _ PN30.out.pm QN30.out.pm).mono ?_;rintro en w32 ⟨⟨b9, rfl, hb9⟩, hg32⟩;obtain rfl : b9 = true := hb9.2 rfl;have G32 := hJ (gQ G30.out hg32);clear hb9 hg32 PN30 QN30 Y30 Z30 G30 c0 c1 c2 c3 c4 c5 c6 c7 c8 c9 c10 c11 c12 c13 c14 d0 d1 d2 d3 d4 d5 d6 d7 d8 d9 d10 d11 d12 d13 d14;go_wp2;go_ret;exact ⟨rfl, G32.out⟩
       ·go_wp2
        go_ret;exact ⟨rfl, G15.out⟩
      ·go_wp2
       go_ret;exact ⟨rfl, G15.out⟩
end Go.Proofs.YtkiopabcnemgnaaGreatDoor
namespace Go.Proofs.YtkiopabcnemgnaaGreatDoor.pagePlace
open Go.ChangeShapes Go.WideShapes Go.ChangeAt Go.WideMaps Go.WideElems Go.RowKit Go.Deep
open Go.ChangeMaps (open_string shut_string)
theorem own : ownKnob Tryz.prog.godebug = none := by kernel_rfl
theorem laidOut : laidOutB Tryz.prog = true := by kernel_rfl
theorem bytes_u8 : Tryz.prog.bytesOf 5 = 1 := by kernel_rfl
theorem bytes_i64 : Tryz.prog.bytesOf 3 = 8 := by kernel_rfl
set_option linter.unusedVariables false
theorem lifted (os : Os) (started : os.Started) (H : Type) (enc : TypeId × Value → H) :
  ReturnsInHanded {} Tryz.checked os 4 .any (fun w args => (Rows.pagePlaceSpec.pre enc Tryz.prog Tryz.f4 [] false w args ∧ laidMetH Tryz.prog [("coppice/crc.fourSteps", Rows.laid_coppice_crc_fourSteps), ("coppice/meta.frontMark", Rows.laid_coppice_meta_frontMark), ("coppice/meta.endMark", Rows.laid_coppice_meta_endMark)] w) ∧ sizedMet enc Tryz.prog Tryz.f4 (OpenSpec.ofChange Rows.pagePlaceSpec) false w args) (Rows.pagePlaceSpec.post enc Tryz.prog Tryz.f4 false true false false) := by
 refine returnsInHanded_of_change_and (C := Tryz.checked) (X := fun w _ => laidMetH Tryz.prog [("coppice/crc.fourSteps", Rows.laid_coppice_crc_fourSteps), ("coppice/meta.frontMark", Rows.laid_coppice_meta_frontMark), ("coppice/meta.endMark", Rows.laid_coppice_meta_endMark)] w) (fun _ _ _ hh h => h.of_heap hh) own started (by kernel_rfl) Tryz.func4
  (ChangeSpec.witness_shaped (enc := enc) (C := Tryz.checked) (os := os) (X := fun w _ => laidMetH Tryz.prog [("coppice/crc.fourSteps", Rows.laid_coppice_crc_fourSteps), ("coppice/meta.frontMark", Rows.laid_coppice_meta_frontMark), ("coppice/meta.endMark", Rows.laid_coppice_meta_endMark)] w) false (World.doorLaid Tryz.prog 400 os) #[.agg #[.int .i64 0, .slice none 0 0, .int .i64 0, .slice none 0 0, .slice none 0 0, .int .i64 0, .slice none 0 0, .slice none 0 0, .int .i64 0, .int .i64 0, .int .i64 0, .int .i64 0, .int .i64 0, .int .i64 0, .int .i64 0], .agg #[.int .i64 0, .slice none 0 0, .int .i64 0, .slice none 0 0, .slice none 0 0, .int .i64 0, .slice none 0 0, .slice none 0 0, .int .i64 0, .int .i64 0, .int .i64 0, .int .i64 0, .int .i64 0, .int .i64 0, .int .i64 0], .int .i64 0, .int .u8 0] 8 rfl (World.shaped_of_RefB (by kernel_rfl) (by kernel_rfl)) (by kernel_rfl) (by kernel_rfl) (by kernel_rfl) (door_met8 os _)) ?_
 intro W base args ds gs before hval0 hW _ _ hL _;have hval : ∀ (j : Nat) t v, Tryz.f4.params[j]? = some t → args[j]? = some v → Value.okWide Tryz.prog W .any base t v := hval0;have hW' := hW;obtain ⟨p, q, hA0, hV, rfl, hfz, hnd⟩ := hW;have hA : DataW.TrodAll enc Tryz.prog W 0 (fun _ => true) true Tryz.f4.params.toList args.toList ds p := hA0;rw [Tryz.params4] at hA hval;obtain ⟨v0, vs0, d0, ds0, p0, q0, hargs, rfl, rfl, h0, r0⟩ := trodAll_cons hA;obtain ⟨v1, vs1, d1, ds1, p1, q1, rfl, rfl, rfl, h1, r1⟩ := trodAll_cons r0;obtain ⟨v2, vs2, d2, ds2, p2, q2, rfl, rfl, rfl, h2, r2⟩ := trodAll_cons r1;obtain ⟨v3, vs3, d3, ds3, p3, q3, rfl, rfl, rfl, h3, r3⟩ := trodAll_cons r2;obtain ⟨rfl, rfl, rfl⟩ := trodAll_nil r3;obtain rfl : args = #[v0, v1, v2, v3] := by cases args; simp_all
 obtain ⟨rfl, rfl⟩ := trodVars_none hV;obtain ⟨x0, p0q, rfl, m0, r0q⟩ := page_open (hval 0 30 v0 rfl rfl) h0;have k0 := h0;have lt0 : ∀ x ∈ p0, x.block < W.heap.size := by obtain ⟨m, hm⟩ := k0; exact DataW.trod_lt m _ _ _ hm
 obtain ⟨x1, p1q, rfl, m1, r1q⟩ := page_open (hval 1 30 v1 rfl rfl) h1;have k1 := h1;have lt1 : ∀ x ∈ p1, x.block < W.heap.size := by obtain ⟨m, hm⟩ := k1; exact DataW.trod_lt m _ _ _ hm
 obtain ⟨a2, rfl, rfl, rfl, w2⟩ := open_int Tryz.underlying3 (hval 2 3 v2 rfl rfl) h2;obtain ⟨a3, rfl, rfl, rfl, w3⟩ := open_int Tryz.underlying5 (hval 3 5 v3 rfl rfl) h3;clear hA0 hval0;refine (pagePlace_walk x0 p0q x1 p1q a2 a3 W m0 m1 (bounds_u8 w3).1 (bounds_u8 w3).2 (of_laid8 hL).1 (of_laid8 hL).2).mono fun e W' ⟨he, hg⟩ => ?_
 subst he;have bel := below_of hg;exact ⟨_, rfl, _, _, _, [], _, [], hW', trodAll_mk1 (shut_bool Tryz.underlying4 _), (trodAll_cons_mk (Below.trod laidOut (by kernel_rfl) (of_decide_eq_true (by kernel_rfl)) k0 bel lt0) (trodAll_cons_mk (Below.trod laidOut (by kernel_rfl) (of_decide_eq_true (by kernel_rfl)) k1 bel lt1) (trodAll_cons_mk (shut_int Tryz.underlying3 w2) (trodAll_cons_mk (shut_int Tryz.underlying5 w3) trodAll_mk0)))), rfl, bel.frame _, fun h => by cases h⟩
theorem over : Rows.pagePlaceRow.holds Tryz.pinned (OpenSpec.ofChange Rows.pagePlaceSpec) :=
 OpenClaim.holds_of_wide 4 Tryz.f4 rfl rfl rfl rfl rfl rfl rfl ⟨rfl, rfl, rfl, rfl, rfl⟩ rfl rfl rfl rfl rfl (by kernel_rfl) Tryz.func4 (by kernel_rfl)
  (of_decide_eq_true (by kernel_rfl)) (by unfold Func.isWrapper; first | (rw [if_pos (by decide +kernel)]; kernel_rfl) | (rw [if_neg (by decide +kernel)]; exact ⟨rfl, rfl⟩))
  (fun os started H enc _ => lifted os started H enc)
end Go.Proofs.YtkiopabcnemgnaaGreatDoor.pagePlace
namespace Go.Proofs.YtkiopabcnemgnaaGreatDoor
open Go
theorem pagePlace_card : Rows.PagePlaceCardSaid :=
 Claim7.holds_tied_plain_at .later [] [.data, .data, .data] true (true, "6723e549a4ad831f1b68880d1a9bf0b551a40a6e1dacde8f49367b4e56d64ce1") false
  pagePlace.over (fun _ h => by cases h) (by kernel_rfl) (fun _ h => by cases h) pagePlace_row_tie rfl ⟨rfl, rfl⟩ (by kernel_rfl) rfl
  (fun f fn hf hfn => by
   obtain rfl : f = 4 := Option.some.inj ((show Tryz.prog.funcNamed "coppice/coppicelaw8.PagePlace" = some 4 by kernel_rfl).symm.trans hf) |>.symm;obtain rfl : fn = Tryz.f4 := (Option.some.inj (Tryz.func4.symm.trans hfn)).symm
   exact ⟨by kernel_rfl, fun j t ht => by
    rw [Tryz.params4] at ht;have hm : t ∈ [30, 30, 3, 5] := by simpa using Array.mem_of_getElem? ht
    have hall : ([30, 30, 3, 5].all fun u => !Tryz.prog.wantsStandIn u) = true := by kernel_rfl
    exact (show Tryz.prog.wantsStandIn t = false by simpa using List.all_eq_true.1 hall t hm)⟩)
  (by kernel_rfl)
#print axioms pagePlace_card
end Go.Proofs.YtkiopabcnemgnaaGreatDoor
