import Derived.Test.YtkiopabcnemgnaaGreatDoorK38
import Derived.Test.YtkiopabcnemgnaaGreatDoorK46
set_option maxRecDepth 100000
set_option maxHeartbeats 4000000
namespace Go.Proofs.YtkiopabcnemgnaaGreatDoor
open Go.RowKit
theorem Lt8.en {w : World} {base : Nat} {y : Pv} {p : Pg} {b : Bk8} (h : Lt8 w base y p b) (hf : Fits p) : En8 y p := ⟨by have := hf.items; omega, by have := hf.seps; omega, by have := hf.kids; omega, h.pm.2.s, by have := hf.list; omega⟩
theorem encodes8_any (x : Pv) (p : Pg) (w : World) (hp : Pm w x p) (hf : Fits p) (ht : Tab w) (hm : Mk w) : Calls Tryz.prog 11 #[.agg #[.int .i64 x.k, .slice x.i.a x.i.n x.i.c, .int .i64 x.l, .slice x.s.a x.s.n x.s.c, .slice x.d.a x.d.n x.d.c, .int .i64 x.x, .slice x.b.a x.b.n x.b.c, .slice x.t.a x.t.n x.t.c, .int .i64 x.h.v, .int .i64 x.h.c, .int .i64 x.h.r, .int .i64 x.h.h, .int .i64 x.h.k, .int .i64 x.h.f, .int .i64 x.h.n]] w fun en w' => en = .returned (.bool true) ∧ w.grownBy w' none := by
 have HP := hJ hp;have HF := hJ hf;have HT := hJ ht;have HM := hJ hm;clear hp hf ht hm;go_enter Tryz.func11, Tryz.ntmps11;go_upto_region 1 with fail
 have X1 := hJ (Px.new w x);have G1 := hJ (gP w x);generalize w.alloc (.cells #[.int .i64 x.k, .slice x.i.a x.i.n x.i.c, .int .i64 x.l, .slice x.s.a x.s.n x.s.c, .slice x.d.a x.d.n x.d.c, .int .i64 x.x, .slice x.b.a x.b.n x.b.c, .slice x.t.a x.t.n x.t.c, .int .i64 x.h.v, .int .i64 x.h.c, .int .i64 x.h.r, .int .i64 x.h.h, .int .i64 x.h.k, .int .i64 x.h.f, .int .i64 x.h.n] 30) = w1 at *;obtain ⟨c0, c1, c2, c3, c4, c5, c6, c7, c8, c9, c10, c11, c12, c13, c14⟩ := X1.out.cells
 go_wp2_with fail
 refine (lent8_any x p _ (HP.out.keptN G1.out) HF.out).mono ?_;rintro en w2 ⟨⟨y, b, rfl, hlt⟩, hg2⟩;have ga := gP w2 y;have L2 := hJ (hlt.keptN ga);have X2 := hJ ((X1.out.keptN hg2).keptN ga);have Y2 := hJ (Px.new w2 y);have G2 := hJ (gQ (gQ G1.out hg2) ga);clear hlt hg2 ga X1 G1 c0 c1 c2 c3 c4 c5 c6 c7 c8 c9 c10 c11 c12 c13 c14;go_upto_region 2 with fail
 generalize w2.alloc (.cells #[.int .i64 y.k, .slice y.i.a y.i.n y.i.c, .int .i64 y.l, .slice y.s.a y.s.n y.s.c, .slice y.d.a y.d.n y.d.c, .int .i64 y.x, .slice y.b.a y.b.n y.b.c, .slice y.t.a y.t.n y.t.c, .int .i64 y.h.v, .int .i64 y.h.c, .int .i64 y.h.r, .int .i64 y.h.h, .int .i64 y.h.k, .int .i64 y.h.f, .int .i64 y.h.n] 30) = w3 at *;generalize w2.heap.size = T at *;obtain ⟨d0, d1, d2, d3, d4, d5, d6, d7, d8, d9, d10, d11, d12, d13, d14⟩ := Y2.out.cells
 go_wp2_with fail
 refine (encode8_any y p _ L2.out.pm.1 (L2.out.en HF.out) (HT.out.keptN G2.out) (HM.out.keptN G2.out)).mono ?_;rintro en w4 ⟨⟨ao, n, zs, e, rfl, hpe, hb4, _, _, _⟩, hg4⟩;have PE := hJ hpe;have B4 := hJ hb4;have L4 := hJ (L2.out.keptN hg4);have X4 := hJ (X2.out.keptN hg4);have Y4 := hJ (Y2.out.keptN hg4);have G4 := hJ (gQ G2.out hg4);clear hpe hb4 hg4 L2 X2 Y2 G2 d0 d1 d2 d3 d4 d5 d6 d7 d8 d9 d10 d11 d12 d13 d14;obtain ⟨c0, c1, c2, c3, c4, c5, c6, c7, c8, c9, c10, c11, c12, c13, c14⟩ := X4.out.cells
 go_wp2_with fail
 refine (refEncode8_any x p _ (HP.out.keptN G4.out) HF.out).mono ?_;rintro en w5 ⟨⟨bo, m, mc, ys, f, rfl, hpf, hb5, _, _⟩, hg5⟩;obtain ⟨rfl, rfl⟩ := PE.out.uniq hpf;have C5 := hJ hb5;have B5 := hJ (B4.out.keptN hg5);have L5 := hJ (L4.out.keptN hg5);have X5 := hJ (X4.out.keptN hg5);have Y5 := hJ (Y4.out.keptN hg5);have G5 := hJ (gQ G4.out hg5);clear hpf hb5 hg5 B4 L4 X4 Y4 G4 PE c0 c1 c2 c3 c4 c5 c6 c7 c8 c9 c10 c11 c12 c13 c14
 go_wp2_with fail
 refine (same_yes ao bo n m n mc zs zs _ B5.out C5.out rfl).mono ?_;rintro en w6 ⟨rfl, hw6⟩;obtain rfl : w5 = w6 := hw6.symm;obtain ⟨c0, c1, c2, c3, c4, c5, c6, c7, c8, c9, c10, c11, c12, c13, c14⟩ := X5.out.cells;obtain ⟨d0, d1, d2, d3, d4, d5, d6, d7, d8, d9, d10, d11, d12, d13, d14⟩ := Y5.out.cells
 go_wp2_with fail
 refine (stays8_any y x p _ b _ L5.out (HP.out.keptN G5.out)).mono ?_;rintro en w7 ⟨rfl, hg7⟩;have G7 := hJ (gQ G5.out hg7);clear hg7 G5 B5 C5 L5 X5 Y5 c0 c1 c2 c3 c4 c5 c6 c7 c8 c9 c10 c11 c12 c13 c14 d0 d1 d2 d3 d4 d5 d6 d7 d8 d9 d10 d11 d12 d13 d14
 go_wp2_with fail
 refine (num8_any _ _).mono ?_;rintro en w8 ⟨rfl, hw8⟩;obtain rfl : w7 = w8 := hw8.symm;go_wp2;go_ret;exact ⟨rfl, G7.out⟩
end Go.Proofs.YtkiopabcnemgnaaGreatDoor
