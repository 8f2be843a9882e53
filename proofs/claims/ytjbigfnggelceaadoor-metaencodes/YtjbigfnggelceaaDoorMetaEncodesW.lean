import Derived.Test.YtjbigfnggelceaaDoorMeV
namespace Go.Proofs.YtjbigfnggelceaaDoor
open Go.RowKit

set_option maxHeartbeats 2000000 in
set_option maxRecDepth 100000 in
theorem metaEncodes_walk (v c r t k f n : Int) (w : World) (hk : Mk w) :
    Calls Tryd.prog 3 #[.agg #[.int .i64 v, .int .i64 c, .int .i64 r, .int .i64 t, .int .i64 k, .int .i64 f, .int .i64 n]] w fun en w' => en = .returned (.bool true) ∧ w.grownBy w' none := by
  have HK := hid_intro hk
  clear hk
  go_enter Tryd.func3, Tryd.ntmps3
  go_upto_region 1 with fail
  have X1 := hid_intro (Hx.new w v c r t k f n)
  have G1 := hid_intro (World.grownBy_alloc w (.cells #[.int .i64 v, .int .i64 c, .int .i64 r, .int .i64 t, .int .i64 k, .int .i64 f, .int .i64 n] 23) none)
  generalize w.alloc (.cells #[.int .i64 v, .int .i64 c, .int .i64 r, .int .i64 t, .int .i64 k, .int .i64 f, .int .i64 n] 23) = w1 at *
  go_wp2_with fail
  refine (first7_any _ (HK.out.keptN G1.out)).mono ?_
  rintro en w2 ⟨rfl, hg2⟩
  have X2 := hid_intro (X1.out.keptN hg2)
  have G2 := hid_intro (grown_trans G1.out hg2)
  clear hg2 X1 G1
  obtain ⟨c0, c1, c2, c3, c4, c5, c6⟩ := X2.out.cells
  go_wp2_with fail
  refine (encode_any v c r t k f n _ (HK.out.keptN G2.out)).mono ?_
  rintro en w3 ⟨bo, m, rfl, hb3, hx3, hg3⟩
  have X3 := hid_intro (X2.out.keptN hg3)
  have G3 := hid_intro (grown_trans G2.out hg3)
  have B3 := hid_intro hb3
  clear hg3 hb3 hx3 X2 G2 c0 c1 c2 c3 c4 c5 c6
  obtain ⟨c0, c1, c2, c3, c4, c5, c6⟩ := X3.out.cells
  go_wp2_with fail
  refine (refEncode_any v c r t k f n _).mono ?_
  rintro en w4 ⟨bo4, m4, q4, rfl, hb4, hg4⟩
  have G4 := hid_intro (grown_trans G3.out hg4)
  have B4 := hid_intro (B3.out.keptN hg4)
  have C4 := hid_intro hb4
  clear hg4 hb4 X3 G3 B3 c0 c1 c2 c3 c4 c5 c6
  go_wp2_with fail
  refine (same_yes _ _ _ _ _ _ _ _ _ B4.out C4.out rfl).mono ?_
  rintro en w4 ⟨rfl, rfl⟩
  go_wp2_with fail
  refine (num7_any _ _).mono ?_
  rintro en w4 ⟨rfl, rfl⟩
  generalize eM ⟨v, c, r, t, k, f, n⟩ = e at *
  go_wp2
  go_ret
  exact ⟨rfl, G4.out⟩
end Go.Proofs.YtjbigfnggelceaaDoor
