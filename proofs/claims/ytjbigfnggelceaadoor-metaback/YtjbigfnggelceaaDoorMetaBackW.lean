import Derived.Test.YtjbigfnggelceaaDoorMeF
namespace Go.Proofs.YtjbigfnggelceaaDoor
open Go.RowKit

set_option maxHeartbeats 4000000 in
set_option maxRecDepth 100000 in
theorem metaBack_walk (v c r t k f n : Int) (bo : Option Addr) (m q : Nat) (zs : List Int) (w : World) (hb : Byt w bo m q zs) (hbt : Bt zs) (hk : Mk w) :
    Calls Tryd.prog 7 #[.agg #[.int .i64 v, .int .i64 c, .int .i64 r, .int .i64 t, .int .i64 k, .int .i64 f, .int .i64 n], .slice bo m q] w fun en w' => en = .returned (.bool true) ∧ w.grownBy w' none := by
  have HK := hid_intro hk
  have HB := hid_intro hb
  clear hk hb
  go_enter Tryd.func7, Tryd.ntmps7
  go_upto_region 1 with fail
  have X1 := hid_intro (Hx.new w v c r t k f n)
  have G1 := hid_intro (World.grownBy_alloc w (.cells #[.int .i64 v, .int .i64 c, .int .i64 r, .int .i64 t, .int .i64 k, .int .i64 f, .int .i64 n] 23) none)
  generalize w.alloc (.cells #[.int .i64 v, .int .i64 c, .int .i64 r, .int .i64 t, .int .i64 k, .int .i64 f, .int .i64 n] 23) = w1 at *
  go_wp2_with fail
  refine (first7_any _ (HK.out.keptN G1.out)).mono ?_
  rintro en w2 ⟨rfl, hg2⟩
  have X2 := hid_intro (X1.out.keptN hg2)
  have G2 := hid_intro (grown_trans G1.out hg2)
  clear hg2 X1 G1
  by_cases h1 : 65536 < m
  · have h1' : (65536 : Int) < (m : Int) := by omega
    go_wp2
    go_ret
    exact ⟨rfl, G2.out⟩
  · have h1' : ¬ (65536 : Int) < (m : Int) := by omega
    obtain ⟨c0, c1, c2, c3, c4, c5, c6⟩ := X2.out.cells
    go_wp2_with fail
    cases hm : may ⟨v, c, r, t, k, f, n⟩ with
    | true =>
      have HM := hid_intro hm
      clear hm
      refine (encode_ok v c r t k f n _ HM.out (HK.out.keptN G2.out)).mono ?_
      rintro en w3 ⟨g3, rfl, hr3, hs3, hg3⟩
      have X3 := hid_intro (X2.out.keptN hg3)
      have G3 := hid_intro (grown_trans G2.out hg3)
      have R3 := hid_intro hr3
      clear hg3 hr3 hs3 X2 G2 c0 c1 c2 c3 c4 c5 c6
      go_wp2_with fail
      refine (num7_any _ _).mono ?_
      rintro en w3 ⟨rfl, rfl⟩
      go_wp2_with fail
      refine (decode_any _ 4092 4092 _ _ (R3.out.all 4092 4092 (mB_len _).symm) (mB_bt _) (HK.out.keptN G3.out)).mono ?_
      rw [(a_yes (dM_mB HM.out)).1, (a_yes (dM_mB HM.out)).2, rH_mB HM.out]
      rintro en w4 ⟨rfl, hg4⟩
      have X4 := hid_intro (X3.out.keptN hg4)
      have G4 := hid_intro (grown_trans G3.out hg4)
      clear hg4 X3 G3 R3
      go_upto_region 7 with fail
      have Y5 := hid_intro (Hx.new w4 v c r t k f n)
      have gg := World.grownBy_alloc w4 (.cells #[.int .i64 v, .int .i64 c, .int .i64 r, .int .i64 t, .int .i64 k, .int .i64 f, .int .i64 n] 23) none
      have X5 := hid_intro (X4.out.keptN gg)
      have G5 := hid_intro (grown_trans G4.out gg)
      clear gg X4 G4
      generalize w4.alloc (.cells #[.int .i64 v, .int .i64 c, .int .i64 r, .int .i64 t, .int .i64 k, .int .i64 f, .int .i64 n] 23) = w5 at *
      generalize w4.heap.size = T5 at *
      obtain ⟨c0, c1, c2, c3, c4, c5, c6⟩ := X5.out.cells
      obtain ⟨d0, d1, d2, d3, d4, d5, d6⟩ := Y5.out.cells
      go_wp2_with fail
      refine (sameHead_yes v c r t k f n _).mono ?_
      rintro en w6 ⟨rfl, hg6⟩
      have G6 := hid_intro (grown_trans G5.out hg6)
      clear hg6 X5 Y5 G5 c0 c1 c2 c3 c4 c5 c6 d0 d1 d2 d3 d4 d5 d6
      go_wp2_with fail
      refine (num7_any _ _).mono ?_
      rintro en w6 ⟨rfl, rfl⟩
      go_wp2_with fail
      refine (decode_any bo m q zs _ (HB.out.keptN G6.out) hbt (HK.out.keptN G6.out)).mono ?_
      cases hd : dM zs with
      | false =>
        rw [(a_no hd).1, (a_no hd).2]
        simp only [zH]
        clear hd
        rintro en wa ⟨rfl, hga⟩
        have GA := hid_intro (grown_trans G6.out hga)
        clear hga
        go_upto_region 13 with fail
        have YB := hid_intro (Hx.new wa 0 0 0 0 0 0 0)
        have gg := World.grownBy_alloc wa (.cells #[.int .i64 0, .int .i64 0, .int .i64 0, .int .i64 0, .int .i64 0, .int .i64 0, .int .i64 0] 23) none
        have GB := hid_intro (grown_trans GA.out gg)
        clear gg
        generalize wa.alloc (.cells #[.int .i64 0, .int .i64 0, .int .i64 0, .int .i64 0, .int .i64 0, .int .i64 0, .int .i64 0] 23) = wb at *
        generalize wa.heap.size = TB at *
        obtain ⟨d0, d1, d2, d3, d4, d5, d6⟩ := YB.out.cells
        go_wp2_with fail
        refine (num7_any _ _).mono ?_
        rintro en wb ⟨rfl, rfl⟩
        go_wp2_with fail
        refine (sameHead_yes 0 0 0 0 0 0 0 _).mono ?_
        rintro en wc ⟨rfl, hgc⟩
        have GC := hid_intro (grown_trans GB.out hgc)
        clear hgc d0 d1 d2 d3 d4 d5 d6
        go_wp2_with fail
        refine (num7_any _ _).mono ?_
        rintro en wc ⟨rfl, rfl⟩
        go_wp2
        go_ret
        exact ⟨rfl, GC.out⟩
      | true =>
        have hz := (dM_parts hd).2.2
        have hmz := (dM_parts hd).2.1
        rw [(a_yes hd).1, (a_yes hd).2]
        have HL92 : Hid (4092 = zs.length) := (dM_parts hd).1.symm
        clear hd
        obtain ⟨⟨v2, c2, r2, t2, k2, f2, n2⟩, hH⟩ : ∃ H, H = rH zs := ⟨_, rfl⟩
        rw [← hH] at hz hmz
        rw [← hH]
        have HZ := hid_intro hz
        have HMZ := hid_intro hmz
        clear hH hz hmz
        rintro en wa ⟨rfl, hga⟩
        have GA := hid_intro (grown_trans G6.out hga)
        clear hga
        go_upto_region 13 with fail
        have YB := hid_intro (Hx.new wa v2 c2 r2 t2 k2 f2 n2)
        have gg := World.grownBy_alloc wa (.cells #[.int .i64 v2, .int .i64 c2, .int .i64 r2, .int .i64 t2, .int .i64 k2, .int .i64 f2, .int .i64 n2] 23) none
        have GB := hid_intro (grown_trans GA.out gg)
        clear gg
        generalize wa.alloc (.cells #[.int .i64 v2, .int .i64 c2, .int .i64 r2, .int .i64 t2, .int .i64 k2, .int .i64 f2, .int .i64 n2] 23) = wb at *
        generalize wa.heap.size = TB at *
        obtain ⟨d0, d1, d2, d3, d4, d5, d6⟩ := YB.out.cells
        go_wp2_with fail
        refine (num7_any _ _).mono ?_
        rintro en wb ⟨rfl, rfl⟩
        go_wp2_with fail
        refine (encode_ok v2 c2 r2 t2 k2 f2 n2 _ HMZ.out (HK.out.keptN GB.out)).mono ?_
        rw [HZ.out]
        rintro en wc ⟨gc, rfl, hrc, hsc, hgc⟩
        have GC := hid_intro (grown_trans GB.out hgc)
        have RC := hid_intro hrc
        clear hgc hsc hrc d0 d1 d2 d3 d4 d5 d6
        go_wp2_with fail
        refine (same_yes _ _ 4092 m 4092 q zs zs _ (RC.out.all 4092 4092 HL92.out) (HB.out.keptN GC.out) rfl).mono ?_
        rintro en wc ⟨rfl, rfl⟩
        go_wp2_with fail
        refine (num7_any _ _).mono ?_
        rintro en wc ⟨rfl, rfl⟩
        go_wp2
        go_ret
        exact ⟨rfl, GC.out⟩
    | false =>
      have HM := hid_intro hm
      clear hm
      refine (encode_no v c r t k f n _ HM.out).mono ?_
      rintro en w3 ⟨rfl, hg3⟩
      have G3 := hid_intro (grown_trans G2.out hg3)
      clear hg3 X2 G2 c0 c1 c2 c3 c4 c5 c6
      go_wp2_with fail
      refine (num7_any _ _).mono ?_
      rintro en w3 ⟨rfl, rfl⟩
      go_wp2_with fail
      refine (num7_any _ _).mono ?_
      rintro en w3 ⟨rfl, rfl⟩
      go_wp2_with fail
      refine (decode_any bo m q zs _ (HB.out.keptN G3.out) hbt (HK.out.keptN G3.out)).mono ?_
      cases hd : dM zs with
      | false =>
        rw [(a_no hd).1, (a_no hd).2]
        simp only [zH]
        clear hd
        rintro en wa ⟨rfl, hga⟩
        have GA := hid_intro (grown_trans G3.out hga)
        clear hga
        go_upto_region 13 with fail
        have YB := hid_intro (Hx.new wa 0 0 0 0 0 0 0)
        have gg := World.grownBy_alloc wa (.cells #[.int .i64 0, .int .i64 0, .int .i64 0, .int .i64 0, .int .i64 0, .int .i64 0, .int .i64 0] 23) none
        have GB := hid_intro (grown_trans GA.out gg)
        clear gg
        generalize wa.alloc (.cells #[.int .i64 0, .int .i64 0, .int .i64 0, .int .i64 0, .int .i64 0, .int .i64 0, .int .i64 0] 23) = wb at *
        generalize wa.heap.size = TB at *
        obtain ⟨d0, d1, d2, d3, d4, d5, d6⟩ := YB.out.cells
        go_wp2_with fail
        refine (num7_any _ _).mono ?_
        rintro en wb ⟨rfl, rfl⟩
        go_wp2_with fail
        refine (sameHead_yes 0 0 0 0 0 0 0 _).mono ?_
        rintro en wc ⟨rfl, hgc⟩
        have GC := hid_intro (grown_trans GB.out hgc)
        clear hgc d0 d1 d2 d3 d4 d5 d6
        go_wp2_with fail
        refine (num7_any _ _).mono ?_
        rintro en wc ⟨rfl, rfl⟩
        go_wp2
        go_ret
        exact ⟨rfl, GC.out⟩
      | true =>
        have hz := (dM_parts hd).2.2
        have hmz := (dM_parts hd).2.1
        rw [(a_yes hd).1, (a_yes hd).2]
        have HL92 : Hid (4092 = zs.length) := (dM_parts hd).1.symm
        clear hd
        obtain ⟨⟨v2, c2, r2, t2, k2, f2, n2⟩, hH⟩ : ∃ H, H = rH zs := ⟨_, rfl⟩
        rw [← hH] at hz hmz
        rw [← hH]
        have HZ := hid_intro hz
        have HMZ := hid_intro hmz
        clear hH hz hmz
        rintro en wa ⟨rfl, hga⟩
        have GA := hid_intro (grown_trans G3.out hga)
        clear hga
        go_upto_region 13 with fail
        have YB := hid_intro (Hx.new wa v2 c2 r2 t2 k2 f2 n2)
        have gg := World.grownBy_alloc wa (.cells #[.int .i64 v2, .int .i64 c2, .int .i64 r2, .int .i64 t2, .int .i64 k2, .int .i64 f2, .int .i64 n2] 23) none
        have GB := hid_intro (grown_trans GA.out gg)
        clear gg
        generalize wa.alloc (.cells #[.int .i64 v2, .int .i64 c2, .int .i64 r2, .int .i64 t2, .int .i64 k2, .int .i64 f2, .int .i64 n2] 23) = wb at *
        generalize wa.heap.size = TB at *
        obtain ⟨d0, d1, d2, d3, d4, d5, d6⟩ := YB.out.cells
        go_wp2_with fail
        refine (num7_any _ _).mono ?_
        rintro en wb ⟨rfl, rfl⟩
        go_wp2_with fail
        refine (encode_ok v2 c2 r2 t2 k2 f2 n2 _ HMZ.out (HK.out.keptN GB.out)).mono ?_
        rw [HZ.out]
        rintro en wc ⟨gc, rfl, hrc, hsc, hgc⟩
        have GC := hid_intro (grown_trans GB.out hgc)
        have RC := hid_intro hrc
        clear hgc hsc hrc d0 d1 d2 d3 d4 d5 d6
        go_wp2_with fail
        refine (same_yes _ _ 4092 m 4092 q zs zs _ (RC.out.all 4092 4092 HL92.out) (HB.out.keptN GC.out) rfl).mono ?_
        rintro en wc ⟨rfl, rfl⟩
        go_wp2_with fail
        refine (num7_any _ _).mono ?_
        rintro en wc ⟨rfl, rfl⟩
        go_wp2
        go_ret
        exact ⟨rfl, GC.out⟩
end Go.Proofs.YtjbigfnggelceaaDoor
