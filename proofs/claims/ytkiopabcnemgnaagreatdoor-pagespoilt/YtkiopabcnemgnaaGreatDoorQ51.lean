import Derived.Test.YtkiopabcnemgnaaGreatDoorQ43
namespace Go.Proofs.YtkiopabcnemgnaaGreatDoor
open Go.RowKit
theorem Fits.en {w : World} {x : Pv} {p : Pg} (h : Fits p) (hp : Pm w x p) (hr : Pr8 x) : En8 x p := ⟨by have := h.items; omega, by have := h.seps; omega, by have := h.kids; omega, hr.s, by have := hp.tl; have := hp.tc; have := h.list; omega⟩
theorem PEnc.bad {p : Pg} {zs : List Int} {e : Int} (h : PEnc p zs e) (he : e ≠ 0) : zs = [] := by
 rcases h with ⟨_, _, h⟩ | ⟨_, _, _, h⟩ | ⟨_, _, b, f, _, ⟨_, _, h⟩ | ⟨_, h1, h2⟩⟩
 ·exact h
 ·exact h
 ·exact h
 ·rw [h2]
  unfold sealE at h1
  unfold sealL
  split at h1
  ·exact absurd h1 he
  ·rename_i h3; rw [if_neg h3]
set_option maxHeartbeats 4000000 in
set_option maxRecDepth 100000 in
theorem back8_any (x : Pv) (p : Pg) (ao : Option Addr) (n : Nat) (zs : List Int) (e : Int) (w : World) (hp : Pm w x p) (hpe : PEnc p zs e) (hb : Byt w ao n n zs) (hbt : Bt zs) (ht : Tab w) (hm : Mk w) :
  Calls Tryz.prog 26 #[.agg #[.int .i64 x.k, .slice x.i.a x.i.n x.i.c, .int .i64 x.l, .slice x.s.a x.s.n x.s.c, .slice x.d.a x.d.n x.d.c, .int .i64 x.x, .slice x.b.a x.b.n x.b.c, .slice x.t.a x.t.n x.t.c, .int .i64 x.h.v, .int .i64 x.h.c, .int .i64 x.h.r, .int .i64 x.h.h, .int .i64 x.h.k, .int .i64 x.h.f, .int .i64 x.h.n], .slice ao n n, .int .i64 e] w fun en w' => en = .returned (.bool true) ∧ w.grownBy w' none := by
 have HP := hid_intro hp
 have HB := hid_intro hb
 have HT := hid_intro ht
 have HM := hid_intro hm
 clear hp ht hm
 by_cases he : e = 0
 ·subst he
  obtain ⟨hpd, hfi, hoe, hol, hkd, _, _⟩ := hpe.back
  have PD := hid_intro hpd
  have hn : n = 4096 := by rw [← hb.len]; exact hfi.1
  subst hn
  have OE := hid_intro hoe
  have OL := hid_intro hol
  have KD := hid_intro hkd
  have hk0 := okK_iff.1 hpe.back.2.2.2.2.2.1
  clear hpd hfi hoe hol hkd hb hpe
  go_enter Tryz.func26, Tryz.ntmps26
  go_upto_region 1 with fail
  have X1 := hid_intro (Px.new w x)
  have G1 := hid_intro (World.grownBy_alloc w (.cells #[.int .i64 x.k, .slice x.i.a x.i.n x.i.c, .int .i64 x.l, .slice x.s.a x.s.n x.s.c, .slice x.d.a x.d.n x.d.c, .int .i64 x.x, .slice x.b.a x.b.n x.b.c, .slice x.t.a x.t.n x.t.c, .int .i64 x.h.v, .int .i64 x.h.c, .int .i64 x.h.r, .int .i64 x.h.h, .int .i64 x.h.k, .int .i64 x.h.f, .int .i64 x.h.n] 30) none)
  generalize w.alloc (.cells #[.int .i64 x.k, .slice x.i.a x.i.n x.i.c, .int .i64 x.l, .slice x.s.a x.s.n x.s.c, .slice x.d.a x.d.n x.d.c, .int .i64 x.x, .slice x.b.a x.b.n x.b.c, .slice x.t.a x.t.n x.t.c, .int .i64 x.h.v, .int .i64 x.h.c, .int .i64 x.h.r, .int .i64 x.h.h, .int .i64 x.h.k, .int .i64 x.h.f, .int .i64 x.h.n] 30) = w1 at *
  go_wp2_with fail
  refine (decode8_any ao 4096 4096 zs _ (HB.out.keptN G1.out) hbt (Nat.le_refl _) (HT.out.keptN G1.out) (HM.out.keptN G1.out)).mono ?_
  rintro en w2 ⟨⟨y, q, f, rfl, hq, hpn, _⟩, hg2⟩
  obtain ⟨rfl, rfl⟩ := hq.uniq PD.out
  have PN := hid_intro hpn.pm
  have ga := World.grownBy_alloc w2 (.cells #[.int .i64 y.k, .slice y.i.a y.i.n y.i.c, .int .i64 y.l, .slice y.s.a y.s.n y.s.c, .slice y.d.a y.d.n y.d.c, .int .i64 y.x, .slice y.b.a y.b.n y.b.c, .slice y.t.a y.t.n y.t.c, .int .i64 y.h.v, .int .i64 y.h.c, .int .i64 y.h.r, .int .i64 y.h.h, .int .i64 y.h.k, .int .i64 y.h.f, .int .i64 y.h.n] 30) none
  have X2 := hid_intro ((X1.out.keptN hg2).keptN ga)
  have Y2 := hid_intro (Px.new w2 y)
  have PN2 := hid_intro (PN.out.keptN ga)
  have G2 := hid_intro (grown_trans (grown_trans G1.out hg2) ga)
  clear hq hpn hg2 ga X1 G1 PN
  go_upto_region 4 with fail
  generalize w2.alloc (.cells #[.int .i64 y.k, .slice y.i.a y.i.n y.i.c, .int .i64 y.l, .slice y.s.a y.s.n y.s.c, .slice y.d.a y.d.n y.d.c, .int .i64 y.x, .slice y.b.a y.b.n y.b.c, .slice y.t.a y.t.n y.t.c, .int .i64 y.h.v, .int .i64 y.h.c, .int .i64 y.h.r, .int .i64 y.h.h, .int .i64 y.h.k, .int .i64 y.h.f, .int .i64 y.h.n] 30) = w3 at *
  generalize w2.heap.size = T at *
  go_wp2_with fail
  refine (open8_any ao 4096 4096 zs _ (HB.out.keptN G2.out) hbt (HT.out.keptN G2.out) (Nat.le_refl _)).mono ?_
  rintro en w4 ⟨po, m, rfl, hb4, hg4⟩
  rw [OE.out]
  have hm4 : m = 4092 := by rw [← hb4.len]; exact OL.out
  subst hm4
  obtain ⟨g0, o0, rfl, hbs, hcell⟩ := hb4.at (by omega)
  have B4 := hid_intro hb4
  have X4 := hid_intro (X2.out.keptN hg4)
  have Y4 := hid_intro (Y2.out.keptN hg4)
  have PN4 := hid_intro (PN2.out.keptN hg4)
  have G4 := hid_intro (grown_trans G2.out hg4)
  clear hb4 hg4 hcell X2 Y2 PN2 G2 hbs
  obtain ⟨c0, c1, c2, c3, c4, c5, c6, c7, c8, c9, c10, c11, c12, c13, c14⟩ := X4.out.cells
  obtain ⟨d0, d1, d2, d3, d4, d5, d6, d7, d8, d9, d10, d11, d12, d13, d14⟩ := Y4.out.cells
  go_wp2_with fail
  refine (samePage_any x y q q _ (HP.out.keptN G4.out) PN4.out).mono ?_
  rintro en w5 ⟨⟨b5, rfl, hb5⟩, hg5⟩
  obtain rfl : b5 = true := hb5.2 rfl
  have B5 := hid_intro (B4.out.keptN hg5)
  have X5 := hid_intro (X4.out.keptN hg5)
  have G5 := hid_intro (grown_trans G4.out hg5)
  clear hb5 hg5 X4 Y4 PN4 G4 B4 c0 c1 c2 c3 c4 c5 c6 c7 c8 c9 c10 c11 c12 c13 c14 d0 d1 d2 d3 d4 d5 d6 d7 d8 d9 d10 d11 d12 d13 d14
  have c0 := X5.out.cells.1
  have cb : w5.cell? ⟨g0, o0, none⟩ = some (.int .u8 x.k) := by
   obtain ⟨b, off, e1, _, hc⟩ := B5.out.at (by omega)
   injection e1 with e1
   injection e1 with e1 e2 _
   subst e1 e2
   have := hc 0 (by omega)
   rw [Nat.add_zero, KD.out, ← HP.out.kind] at this
   exact this
  have hkx : x.k = q.kind := HP.out.kind
  have kw : IntKind.i64.wrap x.k = x.k := by rw [hkx]; simp [IntKind.wrap, IntKind.bits, IntKind.signed]; omega
  have ke : (x.k == x.k) = true := by simp
  clear hkx
  go_wp2_with fail
  go_quiet ((go_at_call 17; exact Calls.quiet_of_same (num8_any _ _)))
  go_wp2
  go_ret
  exact ⟨rfl, grown_trans G5.out ((Qt.drewN _ _).grown _)⟩
 ·have hz := hpe.bad he
  subst hz
  have hn : n = 0 := hb.len.symm
  subst hn
  have he1 : (e == 0) = false := by simp [he]
  have he2 : (e != 0) = true := by simp [he]
  clear hpe hb he
  go_enter Tryz.func26, Tryz.ntmps26
  go_wp2
  go_ret
  exact ⟨rfl, World.grownBy_alloc w _ none⟩
end Go.Proofs.YtkiopabcnemgnaaGreatDoor
