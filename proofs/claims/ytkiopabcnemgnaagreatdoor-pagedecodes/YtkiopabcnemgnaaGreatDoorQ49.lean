import Derived.Test.YtkiopabcnemgnaaGreatDoorQ43
import Derived.Test.YtkiopabcnemgnaaGreatDoorQ24
namespace Go.Proofs.YtkiopabcnemgnaaGreatDoor
open Go.RowKit
set_option maxHeartbeats 4000000 in
set_option maxRecDepth 100000 in
theorem decodes8_any (ao : Option Addr) (n c : Nat) (zs : List Int) (w : World) (hb : Byt w ao n c zs) (hbt : Bt zs) (hn : n ≤ 100000) (hnc : n ≤ c) (ht : Tab w) (hm : Mk w) :
  Calls Tryz.prog 23 #[.slice ao n c] w fun en w' => en = .returned (.bool true) ∧ w.grownBy w' none := by
 have HB := hid_intro hb
 have HT := hid_intro ht
 have HM := hid_intro hm
 have hl := hb.len
 clear hb ht hm
 go_enter Tryz.func23, Tryz.ntmps23
 go_wp2_with fail
 refine (refBytes_any ao n c zs _ HB.out (by omega)).mono ?_
 rintro en w2 ⟨rfl, hown2, hg2, hs2⟩
 have O2 := hid_intro (hown2.alloc (.cells #[.int .u8 201, .int .u8 202] 5))
 have hown2' := hown2
 have HG2 := hid_intro hg2
 have BL := hid_intro (Byt.lit w2 5 #[.int .u8 201, .int .u8 202] [201, 202] 2 rfl rfl)
 clear hown2 hg2
 go_wp2_with (at_builtin; refine wpList_append_byt rfl _ _ rfl w.heap.size _ n zs rfl O2.out (some ⟨w2.heap.size, 0, none⟩) 2 2 [201, 202] rfl BL.out (by omega) (by simp; omega) ?_)
 intro v3 w3 ho3 hg3
 have ho3' : w3.ownsRow w.heap.size 5 1 v3 (n + 2) ((zs ++ [201, 202]).map (Value.int .u8)) := by simpa using ho3
 obtain ⟨g, cc, rfl, hgb, hgl, hgc⟩ := owns_shape ho3' (by omega)
 obtain ⟨hOw, _, _, _⟩ := Ow.of_owns ho3'
 have HG3 := hid_intro (grown_own HG2.out hown2' (Nat.le_refl _) hg3)
 have HOW := hid_intro hOw
 have hmx := hOw.max
 have B3 := hid_intro (ow_byt hOw n hl.symm)
 clear hg3 ho3 ho3' hOw HG2 O2 BL hown2'
 have g1 : (n : Int) ≤ (cc : Int) := by omega
 have g2 : (0 : Int) ≤ (n : Int) := by omega
 go_wp2_with fail
 refine (decode8_any _ n cc zs _ B3.out hbt (by omega) (HT.out.keptN HG3.out) (HM.out.keptN HG3.out)).mono ?_
 rintro en w4 ⟨⟨y, p, e, rfl, hpd, hpn, _⟩, hg4⟩
 have ga := World.grownBy_alloc w4 (.cells #[.int .i64 y.k, .slice y.i.a y.i.n y.i.c, .int .i64 y.l, .slice y.s.a y.s.n y.s.c, .slice y.d.a y.d.n y.d.c, .int .i64 y.x, .slice y.b.a y.b.n y.b.c, .slice y.t.a y.t.n y.t.c, .int .i64 y.h.v, .int .i64 y.h.c, .int .i64 y.h.r, .int .i64 y.h.h, .int .i64 y.h.k, .int .i64 y.h.f, .int .i64 y.h.n] 30) none
 have PD := hid_intro hpd
 have PN := hid_intro (hpn.keptN ga).pm
 have Y4 := hid_intro (Px.new w4 y)
 have G4 := hid_intro (grown_trans (grown_trans HG3.out hg4) ga)
 have W4 := hid_intro ((HOW.out.keptN hg4).keptN ga)
 clear hpd hpn hg4 ga HG3 HOW B3
 go_upto_region 4 with fail
 generalize w4.alloc (.cells #[.int .i64 y.k, .slice y.i.a y.i.n y.i.c, .int .i64 y.l, .slice y.s.a y.s.n y.s.c, .slice y.d.a y.d.n y.d.c, .int .i64 y.x, .slice y.b.a y.b.n y.b.c, .slice y.t.a y.t.n y.t.c, .int .i64 y.h.v, .int .i64 y.h.c, .int .i64 y.h.r, .int .i64 y.h.h, .int .i64 y.h.k, .int .i64 y.h.f, .int .i64 y.h.n] 30) = w5 at *
 generalize w4.heap.size = T at *
 go_wp2_with fail
 refine (refDecode8_any ao n c zs _ (HB.out.keptN G4.out) hbt hnc).mono ?_
 rintro en w6 ⟨⟨z, q, f, rfl, hpd6, hpn6⟩, hg6⟩
 obtain ⟨rfl, rfl⟩ := hpd6.uniq PD.out
 have ga := World.grownBy_alloc w6 (.cells #[.int .i64 z.k, .slice z.i.a z.i.n z.i.c, .int .i64 z.l, .slice z.s.a z.s.n z.s.c, .slice z.d.a z.d.n z.d.c, .int .i64 z.x, .slice z.b.a z.b.n z.b.c, .slice z.t.a z.t.n z.t.c, .int .i64 z.h.v, .int .i64 z.h.c, .int .i64 z.h.r, .int .i64 z.h.h, .int .i64 z.h.k, .int .i64 z.h.f, .int .i64 z.h.n] 30) none
 have QN := hid_intro (hpn6.keptN ga).pm
 have PN6 := hid_intro ((PN.out.keptN hg6).keptN ga)
 have Y6 := hid_intro ((Y4.out.keptN hg6).keptN ga)
 have Z6 := hid_intro (Px.new w6 z)
 have G6 := hid_intro (grown_trans (grown_trans G4.out hg6) ga)
 have W6 := hid_intro ((W4.out.keptN hg6).keptN ga)
 clear hpd6 hpn6 hg6 ga PN Y4 G4 W4 PD
 go_upto_region 5 with fail
 generalize w6.alloc (.cells #[.int .i64 z.k, .slice z.i.a z.i.n z.i.c, .int .i64 z.l, .slice z.s.a z.s.n z.s.c, .slice z.d.a z.d.n z.d.c, .int .i64 z.x, .slice z.b.a z.b.n z.b.c, .slice z.t.a z.t.n z.t.c, .int .i64 z.h.v, .int .i64 z.h.c, .int .i64 z.h.r, .int .i64 z.h.h, .int .i64 z.h.k, .int .i64 z.h.f, .int .i64 z.h.n] 30) = w7 at *
 generalize w6.heap.size = T2 at *
 obtain ⟨c0, c1, c2, c3, c4, c5, c6, c7, c8, c9, c10, c11, c12, c13, c14⟩ := Y6.out.cells
 obtain ⟨d0, d1, d2, d3, d4, d5, d6, d7, d8, d9, d10, d11, d12, d13, d14⟩ := Z6.out.cells
 go_wp2_with fail
 refine (samePage_any y z q q _ PN6.out QN.out).mono ?_
 rintro en w8 ⟨⟨b8, rfl, hb8⟩, hg8⟩
 obtain rfl : b8 = true := hb8.2 rfl
 have G8 := hid_intro (grown_trans G6.out hg8)
 have W8 := hid_intro (W6.out.keptN hg8)
 clear hb8 hg8 PN6 QN Y6 Z6 G6 W6 c0 c1 c2 c3 c4 c5 c6 c7 c8 c9 c10 c11 c12 c13 c14 d0 d1 d2 d3 d4 d5 d6 d7 d8 d9 d10 d11 d12 d13 d14
 have B8 := hid_intro (ow_byt W8.out n hl.symm)
 have c1 := W8.out.cell (j := n) (by rw [List.length_append]; simp; omega)
 have c2 := W8.out.cell (j := n + 1) (by rw [List.length_append]; simp; omega)
 have e1 : (zs ++ [201, 202]).getD n 0 = 201 := by subst hl; simp [List.getD]
 have e2 : (zs ++ [201, 202]).getD (n + 1) 0 = 202 := by subst hl; simp [List.getD]
 rw [e1] at c1
 rw [e2] at c2
 clear e1 e2 W8
 go_wp2_with fail
 refine (same_yes _ ao n n cc c zs zs _ B8.out (HB.out.keptN G8.out) rfl).mono ?_
 rintro en w9 ⟨rfl, rfl⟩
 clear B8
 have g3 : (n : Int) < (n : Int) + 2 := by omega
 have g4 : (n : Int) + 1 < (n : Int) + 2 := by omega
 go_wp2_with fail
 refine (num8_any _ _).mono ?_
 rintro en w10 ⟨rfl, rfl⟩
 go_wp2
 go_ret
 exact ⟨rfl, G8.out⟩
end Go.Proofs.YtkiopabcnemgnaaGreatDoor
