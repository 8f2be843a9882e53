import Derived.Test.YtkiopabcnemgnaaGreatDoorQ37
import Derived.Test.YtkiopabcnemgnaaGreatDoorQ44
import Derived.Test.YtkiopabcnemgnaaGreatDoorQ51
import Derived.Deep.CutBlock
namespace Go.Proofs.YtkiopabcnemgnaaGreatDoor
open Go.RowKit
set_option maxHeartbeats 8000000 in
set_option maxRecDepth 100000 in
theorem pageBack_walk (x y : Pv) (p q : Pg) (ao : Option Addr) (n c : Nat) (zs : List Int) (w : World) (hp : Pm w x p) (hr : Pr8 x) (hq : Pm w y q) (hs : Pr8 y) (hb : Byt w ao n c zs) (hbt : Bt zs) (hnc : n ≤ c) (ht : Tab w) (hm : Mk w) :
  Calls Tryz.prog 6 #[.agg #[.int .i64 x.k, .slice x.i.a x.i.n x.i.c, .int .i64 x.l, .slice x.s.a x.s.n x.s.c, .slice x.d.a x.d.n x.d.c, .int .i64 x.x, .slice x.b.a x.b.n x.b.c, .slice x.t.a x.t.n x.t.c, .int .i64 x.h.v, .int .i64 x.h.c, .int .i64 x.h.r, .int .i64 x.h.h, .int .i64 x.h.k, .int .i64 x.h.f, .int .i64 x.h.n], .agg #[.int .i64 y.k, .slice y.i.a y.i.n y.i.c, .int .i64 y.l, .slice y.s.a y.s.n y.s.c, .slice y.d.a y.d.n y.d.c, .int .i64 y.x, .slice y.b.a y.b.n y.b.c, .slice y.t.a y.t.n y.t.c, .int .i64 y.h.v, .int .i64 y.h.c, .int .i64 y.h.r, .int .i64 y.h.h, .int .i64 y.h.k, .int .i64 y.h.f, .int .i64 y.h.n], .slice ao n c] w fun en w' => en = .returned (.bool true) ∧ w.grownBy w' none := by
 have HP := hid_intro hp
 have HR := hid_intro hr
 have HQ := hid_intro hq
 have HS := hid_intro hs
 have HB := hid_intro hb
 have HT := hid_intro ht
 have HM := hid_intro hm
 clear hp hr hq hs hb ht hm
 go_enter Tryz.func6, Tryz.ntmps6
 go_upto_region 1 with fail
 have X1 := hid_intro ((Px.new w x).keptN (World.grownBy_alloc _ (.cells #[.int .i64 y.k, .slice y.i.a y.i.n y.i.c, .int .i64 y.l, .slice y.s.a y.s.n y.s.c, .slice y.d.a y.d.n y.d.c, .int .i64 y.x, .slice y.b.a y.b.n y.b.c, .slice y.t.a y.t.n y.t.c, .int .i64 y.h.v, .int .i64 y.h.c, .int .i64 y.h.r, .int .i64 y.h.h, .int .i64 y.h.k, .int .i64 y.h.f, .int .i64 y.h.n] 30) none))
 have Y1 : Hid (Px ((w.alloc (.cells #[.int .i64 x.k, .slice x.i.a x.i.n x.i.c, .int .i64 x.l, .slice x.s.a x.s.n x.s.c, .slice x.d.a x.d.n x.d.c, .int .i64 x.x, .slice x.b.a x.b.n x.b.c, .slice x.t.a x.t.n x.t.c, .int .i64 x.h.v, .int .i64 x.h.c, .int .i64 x.h.r, .int .i64 x.h.h, .int .i64 x.h.k, .int .i64 x.h.f, .int .i64 x.h.n] 30)).alloc (.cells #[.int .i64 y.k, .slice y.i.a y.i.n y.i.c, .int .i64 y.l, .slice y.s.a y.s.n y.s.c, .slice y.d.a y.d.n y.d.c, .int .i64 y.x, .slice y.b.a y.b.n y.b.c, .slice y.t.a y.t.n y.t.c, .int .i64 y.h.v, .int .i64 y.h.c, .int .i64 y.h.r, .int .i64 y.h.h, .int .i64 y.h.k, .int .i64 y.h.f, .int .i64 y.h.n] 30)) (w.heap.size + 1) y) := heap_alloc2_new w _ _
 have G1 := hid_intro (grown_two w (.cells #[.int .i64 x.k, .slice x.i.a x.i.n x.i.c, .int .i64 x.l, .slice x.s.a x.s.n x.s.c, .slice x.d.a x.d.n x.d.c, .int .i64 x.x, .slice x.b.a x.b.n x.b.c, .slice x.t.a x.t.n x.t.c, .int .i64 x.h.v, .int .i64 x.h.c, .int .i64 x.h.r, .int .i64 x.h.h, .int .i64 x.h.k, .int .i64 x.h.f, .int .i64 x.h.n] 30) (.cells #[.int .i64 y.k, .slice y.i.a y.i.n y.i.c, .int .i64 y.l, .slice y.s.a y.s.n y.s.c, .slice y.d.a y.d.n y.d.c, .int .i64 y.x, .slice y.b.a y.b.n y.b.c, .slice y.t.a y.t.n y.t.c, .int .i64 y.h.v, .int .i64 y.h.c, .int .i64 y.h.r, .int .i64 y.h.h, .int .i64 y.h.k, .int .i64 y.h.f, .int .i64 y.h.n] 30))
 generalize (w.alloc (.cells #[.int .i64 x.k, .slice x.i.a x.i.n x.i.c, .int .i64 x.l, .slice x.s.a x.s.n x.s.c, .slice x.d.a x.d.n x.d.c, .int .i64 x.x, .slice x.b.a x.b.n x.b.c, .slice x.t.a x.t.n x.t.c, .int .i64 x.h.v, .int .i64 x.h.c, .int .i64 x.h.r, .int .i64 x.h.h, .int .i64 x.h.k, .int .i64 x.h.f, .int .i64 x.h.n] 30)).alloc (.cells #[.int .i64 y.k, .slice y.i.a y.i.n y.i.c, .int .i64 y.l, .slice y.s.a y.s.n y.s.c, .slice y.d.a y.d.n y.d.c, .int .i64 y.x, .slice y.b.a y.b.n y.b.c, .slice y.t.a y.t.n y.t.c, .int .i64 y.h.v, .int .i64 y.h.c, .int .i64 y.h.r, .int .i64 y.h.h, .int .i64 y.h.k, .int .i64 y.h.f, .int .i64 y.h.n] 30) = w1 at *
 go_wp2_with fail
 refine (first8_any _ (HT.out.keptN G1.out) (HM.out.keptN G1.out)).mono ?_
 rintro en w2 ⟨rfl, hg2⟩
 have X2 := hid_intro (X1.out.keptN hg2)
 have Y2 := hid_intro (Y1.out.keptN hg2)
 have G2 := hid_intro (grown_trans G1.out hg2)
 clear hg2 X1 Y1 G1
 obtain ⟨c0, c1, c2, c3, c4, c5, c6, c7, c8, c9, c10, c11, c12, c13, c14⟩ := X2.out.cells
 go_wp2_with fail
 refine (fits8_any x p _ (HP.out.keptN G2.out)).mono ?_
 rintro en w3 ⟨⟨b3, rfl, hb3⟩, hg3⟩
 have X3 := hid_intro (X2.out.keptN hg3)
 have Y3 := hid_intro (Y2.out.keptN hg3)
 have G3 := hid_intro (grown_trans G2.out hg3)
 clear hg3 X2 Y2 G2 c0 c1 c2 c3 c4 c5 c6 c7 c8 c9 c10 c11 c12 c13 c14
 cases b3 with
 | false =>
  clear hb3
  go_wp2
  go_ret
  exact ⟨rfl, G3.out⟩
 | true =>
  have FP := hid_intro (hb3 rfl)
  clear hb3
  obtain ⟨d0, d1, d2, d3, d4, d5, d6, d7, d8, d9, d10, d11, d12, d13, d14⟩ := Y3.out.cells
  go_wp2_with fail
  refine (fits8_any y q _ (HQ.out.keptN G3.out)).mono ?_
  rintro en w4 ⟨⟨b4, rfl, hb4⟩, hg4⟩
  have X4 := hid_intro (X3.out.keptN hg4)
  have Y4 := hid_intro (Y3.out.keptN hg4)
  have G4 := hid_intro (grown_trans G3.out hg4)
  clear hg4 X3 Y3 G3 d0 d1 d2 d3 d4 d5 d6 d7 d8 d9 d10 d11 d12 d13 d14
  cases b4 with
  | false =>
   clear hb4
   go_wp2
   go_ret
   exact ⟨rfl, G4.out⟩
  | true =>
   have FQ := hid_intro (hb4 rfl)
   clear hb4
   by_cases hn : 65536 < n
   ·have hn' : (65536 : Int) < (n : Int) := by omega
    go_wp2
    go_ret
    exact ⟨rfl, G4.out⟩
   ·have hn' : ¬ (65536 : Int) < (n : Int) := by omega
    obtain ⟨c0, c1, c2, c3, c4, c5, c6, c7, c8, c9, c10, c11, c12, c13, c14⟩ := X4.out.cells
    go_wp2_with fail
    refine (encode8_any x p _ (HP.out.keptN G4.out) (FP.out.en HP.out HR.out) (HT.out.keptN G4.out) (HM.out.keptN G4.out)).mono ?_
    rintro en w5 ⟨⟨a5, n5, z5, e5, rfl, hp5, hb5, ht5, hl5, _⟩, hg5⟩
    have P5 := hid_intro hp5
    have B5 := hid_intro hb5
    have T5 := hid_intro ht5
    have X5 := hid_intro (X4.out.keptN hg5)
    have Y5 := hid_intro (Y4.out.keptN hg5)
    have G5 := hid_intro (grown_trans G4.out hg5)
    clear hp5 hb5 ht5 hg5 X4 Y4 G4 c0 c1 c2 c3 c4 c5 c6 c7 c8 c9 c10 c11 c12 c13 c14
    obtain ⟨d0, d1, d2, d3, d4, d5, d6, d7, d8, d9, d10, d11, d12, d13, d14⟩ := Y5.out.cells
    go_wp2_with fail
    refine (encode8_any y q _ (HQ.out.keptN G5.out) (FQ.out.en HQ.out HS.out) (HT.out.keptN G5.out) (HM.out.keptN G5.out)).mono ?_
    rintro en w6 ⟨⟨a6, n6, z6, e6, rfl, hp6, hb6, ht6, hl6, _⟩, hg6⟩
    have P6 := hid_intro hp6
    have B6 := hid_intro hb6
    have T6 := hid_intro ht6
    have C6 := hid_intro (B5.out.keptN hg6)
    have X6 := hid_intro (X5.out.keptN hg6)
    have Y6 := hid_intro (Y5.out.keptN hg6)
    have G6 := hid_intro (grown_trans G5.out hg6)
    clear hp6 hb6 ht6 hg6 X5 Y5 G5 B5 d0 d1 d2 d3 d4 d5 d6 d7 d8 d9 d10 d11 d12 d13 d14
    obtain ⟨c0, c1, c2, c3, c4, c5, c6, c7, c8, c9, c10, c11, c12, c13, c14⟩ := X6.out.cells
    go_upto_region 6 with fail
    go_cut [12] from 47 to 51 (fun s wx => s = .bool true ∧ w6.grownBy wx none)
    case first =>
     as_aux_lemma =>
      go_region_law
       (first
        | (have zz := hq7; go_simp; go_at_call 26; refine (back8_any x p a5 n5 z5 e5 _ (by exact HP.out.keptN (grown_trans G6.out hq7)) P5.out (by exact C6.out.keptN hq7) T5.out (by exact HT.out.keptN (grown_trans G6.out hq7)) (by exact HM.out.keptN (grown_trans G6.out hq7))).mono ?_; rintro en w8 ⟨rfl, hg8⟩)
        | (go_simp; go_at_call 17; refine (num8_any _ _).mono ?_; rintro en w7 ⟨rfl, rfl⟩; have hq7 := (Qt.refl w6).drew.grown none))
      all_goals
       go_wp2_with fail
       go_meet
       case rel => exact ⟨rfl, grown_trans hq7 hg8⟩
    case rest =>
     obtain ⟨rfl, hg68⟩ := hcut
     have X8 := hid_intro (X6.out.keptN hg68)
     have Y8 := hid_intro (Y6.out.keptN hg68)
     have C8 := hid_intro (C6.out.keptN hg68)
     have B8 := hid_intro (B6.out.keptN hg68)
     have G8 := hid_intro (grown_trans G6.out hg68)
     clear hg68 X6 Y6 C6 B6 G6 c0 c1 c2 c3 c4 c5 c6 c7 c8 c9 c10 c11 c12 c13 c14
     generalize wc = w8 at *
     obtain ⟨d0, d1, d2, d3, d4, d5, d6, d7, d8, d9, d10, d11, d12, d13, d14⟩ := Y8.out.cells
     go_upto_region 7 with fail
     go_cut [13] from 52 to 56 (fun s wx => s = .bool true ∧ w8.grownBy wx none)
     case first =>
      as_aux_lemma =>
       go_region_law
        (first
         | (have zz := hq9; go_simp; go_at_call 26; refine (back8_any y q a6 n6 z6 e6 _ (by exact HQ.out.keptN (grown_trans G8.out hq9)) P6.out (by exact B8.out.keptN hq9) T6.out (by exact HT.out.keptN (grown_trans G8.out hq9)) (by exact HM.out.keptN (grown_trans G8.out hq9))).mono ?_; rintro en w10 ⟨rfl, hg10⟩)
         | (go_simp; go_at_call 17; refine (num8_any _ _).mono ?_; rintro en w9 ⟨rfl, rfl⟩; have hq9 := (Qt.refl w8).drew.grown none))
       all_goals
        go_wp2_with fail
        go_meet
        case rel => exact ⟨rfl, grown_trans hq9 hg10⟩
     case rest =>
      obtain ⟨rfl, hg810⟩ := hcut
      have X10 := hid_intro (X8.out.keptN hg810)
      have Y10 := hid_intro (Y8.out.keptN hg810)
      have C10 := hid_intro (C8.out.keptN hg810)
      have B10 := hid_intro (B8.out.keptN hg810)
      have G10 := hid_intro (grown_trans G8.out hg810)
      clear hg810 X8 Y8 C8 B8 G8 d0 d1 d2 d3 d4 d5 d6 d7 d8 d9 d10 d11 d12 d13 d14
      generalize wc = w10 at *
      go_upto_region 10 with fail
      go_cut [79] from 63 to 78 (fun s wx => s = .bool false ∧ w.grownBy wx none)
      case first =>
       as_aux_lemma =>
        by_cases h5 : e5 = 0
        ·subst h5
         by_cases h6 : e6 = 0
         ·subst h6
          have HUQ : Hid (z5 = z6 ↔ p = q) := by
           constructor
           ·rintro rfl
            exact (P5.out.back.1.uniq P6.out.back.1).1
           ·rintro rfl
            exact (P5.out.uniq P6.out).1
          obtain ⟨c0, c1, c2, c3, c4, c5, c6, c7, c8, c9, c10, c11, c12, c13, c14⟩ := X10.out.cells
          obtain ⟨d0, d1, d2, d3, d4, d5, d6, d7, d8, d9, d10, d11, d12, d13, d14⟩ := Y10.out.cells
          have gd := (Qt.refl w10).drew.grown none
          go_region_law
           (first
            | (have zz := hsb; go_simp; go_at_call 22; refine (samePage_any x y p q _ (by exact HP.out.keptN (grown_trans G10.out gd)) (by exact HQ.out.keptN (grown_trans G10.out gd))).mono ?_; rintro en w13 ⟨⟨bp, rfl, hbp⟩, hg13⟩; have hbb : bs = bp := (by rw [Bool.eq_iff_iff, hsb, hbp]; exact HUQ.out); subst hbb)
            | (go_simp; go_at_call 18; refine (same_bytes_any a5 a6 n5 n6 n5 n6 z5 z6 _ (by exact C10.out.keptN gd) (by exact B10.out.keptN gd) T5.out T6.out).mono ?_; rintro en w12 ⟨⟨bs, rfl, hsb⟩, rfl⟩)
            | (go_simp; go_at_call 17; refine (num8_any _ _).mono ?_; rintro en w11 ⟨rfl, rfl⟩))
          all_goals
           cases bs
           all_goals
            go_wp2_with fail
            go_meet
            case rel => exact ⟨rfl, grown_trans (grown_trans G10.out gd) hg13⟩
         ·have he1 : (e6 == 0) = false := by simp [h6]
          clear h6
          go_quiet ((go_at_call 17; exact Calls.quiet_of_same (num8_any _ _)))
          go_wp2_with fail
          go_meet
          case rel => exact ⟨rfl, grown_trans G10.out ((Qt.drewN w10 nq).grown none)⟩
        ·have he1 : (e5 == 0) = false := by simp [h5]
         clear h5
         go_quiet ((go_at_call 17; exact Calls.quiet_of_same (num8_any _ _)))
         go_wp2_with fail
         go_meet
         case rel => exact ⟨rfl, grown_trans G10.out ((Qt.drewN w10 nq).grown none)⟩
      case rest =>
       as_aux_lemma =>
        obtain ⟨rfl, hg13⟩ := hcut
        have G13 := hid_intro hg13
        clear hg13 X10 Y10 C10 B10 G10 P5 P6 T5 T6
        generalize wc = w13 at *
        go_wp2_with fail
        refine (decode8_any ao n c zs _ (HB.out.keptN G13.out) hbt hnc (HT.out.keptN G13.out) (HM.out.keptN G13.out)).mono ?_
        rintro en w14 ⟨⟨r, pr, f, rfl, hpd, hpn, hen⟩, hg14⟩
        have ga := World.grownBy_alloc w14 (.cells #[.int .i64 r.k, .slice r.i.a r.i.n r.i.c, .int .i64 r.l, .slice r.s.a r.s.n r.s.c, .slice r.d.a r.d.n r.d.c, .int .i64 r.x, .slice r.b.a r.b.n r.b.c, .slice r.t.a r.t.n r.t.c, .int .i64 r.h.v, .int .i64 r.h.c, .int .i64 r.h.r, .int .i64 r.h.h, .int .i64 r.h.k, .int .i64 r.h.f, .int .i64 r.h.n] 30) none
        have G14 := hid_intro (grown_trans (grown_trans G13.out hg14) ga)
        have PN := hid_intro (hpn.keptN ga).pm
        have PD := hid_intro hpd
        have EN := hid_intro hen
        have R14 := hid_intro (Px.new w14 r)
        clear hpd hpn hen hg14 ga G13
        go_upto_region 13 with fail
        generalize w14.alloc (.cells #[.int .i64 r.k, .slice r.i.a r.i.n r.i.c, .int .i64 r.l, .slice r.s.a r.s.n r.s.c, .slice r.d.a r.d.n r.d.c, .int .i64 r.x, .slice r.b.a r.b.n r.b.c, .slice r.t.a r.t.n r.t.c, .int .i64 r.h.v, .int .i64 r.h.c, .int .i64 r.h.r, .int .i64 r.h.h, .int .i64 r.h.k, .int .i64 r.h.f, .int .i64 r.h.n] 30) = w15 at *
        generalize w14.heap.size = T at *
        obtain ⟨c0, c1, c2, c3, c4, c5, c6, c7, c8, c9, c10, c11, c12, c13, c14⟩ := R14.out.cells
        go_wp2_with fail
        refine (num8_any _ _).mono ?_
        rintro en w16 ⟨rfl, rfl⟩
        by_cases hf : f = 0
        ·subst hf
         go_wp2_with fail
         refine (encode8_any r pr _ PN.out EN.out (HT.out.keptN G14.out) (HM.out.keptN G14.out)).mono ?_
         rintro en w17 ⟨⟨a17, n17, z17, e17, rfl, hp17, hb17, _, _, _⟩, hg17⟩
         obtain ⟨rfl, rfl⟩ := hp17.uniq PD.out.fore
         have B17 := hid_intro hb17
         have G17 := hid_intro (grown_trans G14.out hg17)
         clear hp17 hb17 hg17 G14 R14 PN c0 c1 c2 c3 c4 c5 c6 c7 c8 c9 c10 c11 c12 c13 c14
         go_wp2_with fail
         refine (num8_any _ _).mono ?_
         rintro en w18 ⟨rfl, rfl⟩
         go_wp2_with fail
         refine (same_yes a17 ao n17 n n17 c z17 z17 _ B17.out (HB.out.keptN G17.out) rfl).mono ?_
         rintro en w19 ⟨rfl, rfl⟩
         go_wp2
         go_ret
         exact ⟨rfl, G17.out⟩
        ·have hz : pr = zP := PD.out.1 hf
         subst hz
         have hf1 : (f == 0) = false := by simp [hf]
         have hf2 : (f != 0) = true := by simp [hf]
         clear hf
         go_wp2_with fail
         refine (samePage_any r zV zP zP _ PN.out (pm_zero _)).mono ?_
         rintro en w17 ⟨⟨b17, rfl, hb17⟩, hg17⟩
         obtain rfl : b17 = true := hb17.2 rfl
         have G17 := hid_intro (grown_trans G14.out hg17)
         clear hb17 hg17 G14 R14 PN c0 c1 c2 c3 c4 c5 c6 c7 c8 c9 c10 c11 c12 c13 c14
         go_wp2
         go_ret
         exact ⟨rfl, G17.out⟩
end Go.Proofs.YtkiopabcnemgnaaGreatDoor
