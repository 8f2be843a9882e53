import Derived.Test.YtkiopabcnemgnaaGreatDoorQ37
import Derived.Test.YtkiopabcnemgnaaGreatDoorQ44
import Derived.Test.YtkiopabcnemgnaaGreatDoorQ50
namespace Go.Proofs.YtkiopabcnemgnaaGreatDoor
open Go.RowKit
theorem PEnc.bt {p : Pg} {zs : List Int} {e : Int} (h : PEnc p zs e) (hi : Ib p.items) (hs : Lb p.seps) (hd : Bt p.data) : Bt zs := by
 rcases h with ⟨_, _, h⟩ | ⟨_, _, _, h⟩ | ⟨_, _, b, f, h1, ⟨_, _, h⟩ | ⟨_, _, h2⟩⟩
 ·rw [h]; exact Bt.nil
 ·rw [h]; exact Bt.nil
 ·rw [h]; exact Bt.nil
 ·rw [h2]; exact sealL_bt (h1.bt hi hs hd)
set_option maxHeartbeats 4000000 in
set_option maxRecDepth 100000 in
theorem pageDecodes_walk (ao : Option Addr) (n c : Nat) (zs : List Int) (x : Pv) (p : Pg) (a : Option Addr) (m cap : Nat) (w : World) (hb : Byt w ao n c zs) (hbt : Bt zs) (hnc : n ≤ c) (hp : Pm w x p) (hel : El8 w a m) (ht : Tab w) (hm : Mk w) :
  Calls Tryz.prog 5 #[.slice ao n c, .agg #[.int .i64 x.k, .slice x.i.a x.i.n x.i.c, .int .i64 x.l, .slice x.s.a x.s.n x.s.c, .slice x.d.a x.d.n x.d.c, .int .i64 x.x, .slice x.b.a x.b.n x.b.c, .slice x.t.a x.t.n x.t.c, .int .i64 x.h.v, .int .i64 x.h.c, .int .i64 x.h.r, .int .i64 x.h.h, .int .i64 x.h.k, .int .i64 x.h.f, .int .i64 x.h.n], .slice a m cap] w fun en w' => en = .returned (.bool true) ∧ w.grownBy w' none := by
 have HB := hid_intro hb
 have HP := hid_intro hp
 have HE := hid_intro hel
 have HT := hid_intro ht
 have HM := hid_intro hm
 clear hb hp hel ht hm
 go_enter Tryz.func5, Tryz.ntmps5
 go_upto_region 1 with fail
 have X1 := hid_intro (Px.new w x)
 have G1 := hid_intro (World.grownBy_alloc w (.cells #[.int .i64 x.k, .slice x.i.a x.i.n x.i.c, .int .i64 x.l, .slice x.s.a x.s.n x.s.c, .slice x.d.a x.d.n x.d.c, .int .i64 x.x, .slice x.b.a x.b.n x.b.c, .slice x.t.a x.t.n x.t.c, .int .i64 x.h.v, .int .i64 x.h.c, .int .i64 x.h.r, .int .i64 x.h.h, .int .i64 x.h.k, .int .i64 x.h.f, .int .i64 x.h.n] 30) none)
 generalize w.alloc (.cells #[.int .i64 x.k, .slice x.i.a x.i.n x.i.c, .int .i64 x.l, .slice x.s.a x.s.n x.s.c, .slice x.d.a x.d.n x.d.c, .int .i64 x.x, .slice x.b.a x.b.n x.b.c, .slice x.t.a x.t.n x.t.c, .int .i64 x.h.v, .int .i64 x.h.c, .int .i64 x.h.r, .int .i64 x.h.h, .int .i64 x.h.k, .int .i64 x.h.f, .int .i64 x.h.n] 30) = w1 at *
 go_wp2_with fail
 refine (first8_any _ (HT.out.keptN G1.out) (HM.out.keptN G1.out)).mono ?_
 rintro en w2 ⟨rfl, hg2⟩
 have X2 := hid_intro (X1.out.keptN hg2)
 have G2 := hid_intro (grown_trans G1.out hg2)
 clear hg2 X1 G1
 by_cases hn : 65536 < n
 ·have hn' : (65536 : Int) < (n : Int) := by omega
  go_wp2
  go_ret
  exact ⟨rfl, G2.out⟩
 ·have hn' : ¬ (65536 : Int) < (n : Int) := by omega
  obtain ⟨c0, c1, c2, c3, c4, c5, c6, c7, c8, c9, c10, c11, c12, c13, c14⟩ := X2.out.cells
  go_wp2_with fail
  refine (fits8_any x p _ (HP.out.keptN G2.out)).mono ?_
  rintro en w3 ⟨⟨b3, rfl, hb3⟩, hg3⟩
  have X3 := hid_intro (X2.out.keptN hg3)
  have G3 := hid_intro (grown_trans G2.out hg3)
  clear hg3 X2 G2 c0 c1 c2 c3 c4 c5 c6 c7 c8 c9 c10 c11 c12 c13 c14
  cases b3 with
  | false =>
   clear hb3
   go_wp2
   go_ret
   exact ⟨rfl, G3.out⟩
  | true =>
   have FP := hid_intro (hb3 rfl)
   clear hb3
   go_wp2_with fail
   refine (decodes8_any ao n c zs _ (HB.out.keptN G3.out) hbt (by omega) hnc (HT.out.keptN G3.out) (HM.out.keptN G3.out)).mono ?_
   rintro en w4 ⟨rfl, hg4⟩
   have X4 := hid_intro (X3.out.keptN hg4)
   have G4 := hid_intro (grown_trans G3.out hg4)
   clear hg4 X3 G3
   go_wp2_with fail
   refine (refSeal_any ao n c zs _ (HB.out.keptN G4.out) hbt).mono ?_
   rintro en w5 ⟨po, k, d, rfl, hb5, hk5, hd5, hg5⟩
   have B5 := hid_intro hb5
   have X5 := hid_intro (X4.out.keptN hg5)
   have G5 := hid_intro (grown_trans G4.out hg5)
   clear hb5 hg5 X4 G4
   by_cases he : sealE zs = 0
   ·rw [he]
    clear he
    go_wp2_with fail
    refine (decodes8_any po k d (sealL zs) _ B5.out (sealL_bt hbt) (by omega) hd5 (HT.out.keptN G5.out) (HM.out.keptN G5.out)).mono ?_
    rintro en w6 ⟨rfl, hg6⟩
    have X6 := hid_intro (X5.out.keptN hg6)
    have G6 := hid_intro (grown_trans G5.out hg6)
    clear hg6 X5 G5 B5
    obtain ⟨c0, c1, c2, c3, c4, c5, c6, c7, c8, c9, c10, c11, c12, c13, c14⟩ := X6.out.cells
    go_wp2_with fail
    refine (refEncode8_any x p _ (HP.out.keptN G6.out) FP.out).mono ?_
    rintro en w7 ⟨⟨qo, r, cr, ys, e, rfl, hpe, hb7, hr7, hc7⟩, hg7⟩
    have PE := hid_intro hpe
    have B7 := hid_intro hb7
    have G7 := hid_intro (grown_trans G6.out hg7)
    clear hpe hb7 hg7 X6 G6 c0 c1 c2 c3 c4 c5 c6 c7 c8 c9 c10 c11 c12 c13 c14
    by_cases hf : e = 0
    ·subst hf
     have hfi := PE.out.back.2.1
     have hr : r = 4096 := by rw [← B7.out.len]; exact hfi.1
     subst hr
     have BT : Hid (Bt ys) := PE.out.bt HP.out.ib HP.out.sb HP.out.db
     clear hfi
     go_wp2_with fail
     refine (decodes8_any qo 4096 cr ys _ B7.out BT.out (by omega) hc7 (HT.out.keptN G7.out) (HM.out.keptN G7.out)).mono ?_
     rintro en w8 ⟨rfl, hg8⟩
     have B8 := hid_intro (B7.out.keptN hg8)
     have G8 := hid_intro (grown_trans G7.out hg8)
     clear hg8 B7 G7
     go_wp2_with fail
     refine (edited8_any qo cr ys a m cap _ B8.out BT.out (HE.out.keptN G8.out)).mono ?_
     rintro en w9 ⟨⟨g, dd, rfl, es, hb9, ht9, hd9⟩, hg9⟩
     have B9 := hid_intro hb9
     have T9 := hid_intro ht9
     have G9 := hid_intro (grown_trans G8.out hg9)
     clear hb9 ht9 hg9 B8 G8
     go_wp2_with fail
     refine (decodes8_any _ 4096 dd es _ B9.out T9.out (by omega) hd9 (HT.out.keptN G9.out) (HM.out.keptN G9.out)).mono ?_
     rintro en w10 ⟨rfl, hg10⟩
     have G10 := hid_intro (grown_trans G9.out hg10)
     clear hg10 G9 B9
     go_wp2
     go_ret
     exact ⟨rfl, G10.out⟩
    ·have hf1 : (e == 0) = false := by simp [hf]
     have hf2 : (e != 0) = true := by simp [hf]
     clear hf
     go_wp2
     go_ret
     exact ⟨rfl, G7.out⟩
   ·have he1 : (sealE zs == 0) = false := by simp [he]
    clear he
    generalize sealE zs = e5 at *
    have X6 := hid_intro X5.out
    have G6 := hid_intro G5.out
    clear X5 G5 B5
    obtain ⟨c0, c1, c2, c3, c4, c5, c6, c7, c8, c9, c10, c11, c12, c13, c14⟩ := X6.out.cells
    go_wp2_with fail
    refine (refEncode8_any x p _ (HP.out.keptN G6.out) FP.out).mono ?_
    rintro en w7 ⟨⟨qo, r, cr, ys, e, rfl, hpe, hb7, hr7, hc7⟩, hg7⟩
    have PE := hid_intro hpe
    have B7 := hid_intro hb7
    have G7 := hid_intro (grown_trans G6.out hg7)
    clear hpe hb7 hg7 X6 G6 c0 c1 c2 c3 c4 c5 c6 c7 c8 c9 c10 c11 c12 c13 c14
    by_cases hf : e = 0
    ·subst hf
     have hfi := PE.out.back.2.1
     have hr : r = 4096 := by rw [← B7.out.len]; exact hfi.1
     subst hr
     have BT : Hid (Bt ys) := PE.out.bt HP.out.ib HP.out.sb HP.out.db
     clear hfi
     go_wp2_with fail
     refine (decodes8_any qo 4096 cr ys _ B7.out BT.out (by omega) hc7 (HT.out.keptN G7.out) (HM.out.keptN G7.out)).mono ?_
     rintro en w8 ⟨rfl, hg8⟩
     have B8 := hid_intro (B7.out.keptN hg8)
     have G8 := hid_intro (grown_trans G7.out hg8)
     clear hg8 B7 G7
     go_wp2_with fail
     refine (edited8_any qo cr ys a m cap _ B8.out BT.out (HE.out.keptN G8.out)).mono ?_
     rintro en w9 ⟨⟨g, dd, rfl, es, hb9, ht9, hd9⟩, hg9⟩
     have B9 := hid_intro hb9
     have T9 := hid_intro ht9
     have G9 := hid_intro (grown_trans G8.out hg9)
     clear hb9 ht9 hg9 B8 G8
     go_wp2_with fail
     refine (decodes8_any _ 4096 dd es _ B9.out T9.out (by omega) hd9 (HT.out.keptN G9.out) (HM.out.keptN G9.out)).mono ?_
     rintro en w10 ⟨rfl, hg10⟩
     have G10 := hid_intro (grown_trans G9.out hg10)
     clear hg10 G9 B9
     go_wp2
     go_ret
     exact ⟨rfl, G10.out⟩
    ·have hf1 : (e == 0) = false := by simp [hf]
     have hf2 : (e != 0) = true := by simp [hf]
     clear hf
     go_wp2
     go_ret
     exact ⟨rfl, G7.out⟩
end Go.Proofs.YtkiopabcnemgnaaGreatDoor
