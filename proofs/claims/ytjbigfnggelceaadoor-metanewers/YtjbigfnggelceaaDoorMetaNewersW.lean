import Derived.Test.YtjbigfnggelceaaDoorMeF
namespace Go.Proofs.YtjbigfnggelceaaDoor
open Go.RowKit

set_option maxHeartbeats 2000000 in
set_option maxRecDepth 100000 in
theorem metaNewers_walk (v c r t k f n v' c' r' t' k' f' n' : Int) (a b : Bool) (w : World) (hk : Mk w) :
    Calls Tryd.prog 5 #[.agg #[.int .i64 v, .int .i64 c, .int .i64 r, .int .i64 t, .int .i64 k, .int .i64 f, .int .i64 n], .agg #[.int .i64 v', .int .i64 c', .int .i64 r', .int .i64 t', .int .i64 k', .int .i64 f', .int .i64 n'], .bool a, .bool b] w fun en w' => en = .returned (.bool true) ∧ w.grownBy w' none := by
  have HK := hid_intro hk
  clear hk
  go_enter Tryd.func5, Tryd.ntmps5
  go_upto_region 1 with fail
  have X1 := hid_intro ((Hx.new w v c r t k f n).keptN (World.grownBy_alloc _ (.cells #[.int .i64 v', .int .i64 c', .int .i64 r', .int .i64 t', .int .i64 k', .int .i64 f', .int .i64 n'] 23) none))
  have Y1 := hid_intro (Hx.new2 w (.cells #[.int .i64 v, .int .i64 c, .int .i64 r, .int .i64 t, .int .i64 k, .int .i64 f, .int .i64 n] 23) v' c' r' t' k' f' n')
  have G1 := hid_intro (grown_two w (.cells #[.int .i64 v, .int .i64 c, .int .i64 r, .int .i64 t, .int .i64 k, .int .i64 f, .int .i64 n] 23) (.cells #[.int .i64 v', .int .i64 c', .int .i64 r', .int .i64 t', .int .i64 k', .int .i64 f', .int .i64 n'] 23))
  generalize (w.alloc (.cells #[.int .i64 v, .int .i64 c, .int .i64 r, .int .i64 t, .int .i64 k, .int .i64 f, .int .i64 n] 23)).alloc (.cells #[.int .i64 v', .int .i64 c', .int .i64 r', .int .i64 t', .int .i64 k', .int .i64 f', .int .i64 n'] 23) = w1 at *
  go_wp2_with fail
  refine (first7_any _ (HK.out.keptN G1.out)).mono ?_
  rintro en w2 ⟨rfl, hg2⟩
  have X2 := hid_intro (X1.out.keptN hg2)
  have Y2 := hid_intro (Y1.out.keptN hg2)
  have G2 := hid_intro (grown_trans G1.out hg2)
  clear hg2 X1 Y1 G1
  obtain ⟨c0, c1, c2, c3, c4, c5, c6⟩ := X2.out.cells
  obtain ⟨d0, d1, d2, d3, d4, d5, d6⟩ := Y2.out.cells
  go_upto_region 2 with fail
  go_region_law
    (first
      | (have zz := X3; go_simp; go_at_call 17; refine (refNewer_any v c r t k f n v' c' r' t' k' f' n' a b _).mono ?_; rintro en w4 ⟨rfl, hg4⟩)
      | (go_simp; go_at_call 16; refine (newer_any v c r t k f n v' c' r' t' k' f' n' a b _).mono ?_; rintro en w3 ⟨rfl, hg3⟩; have hg3' := grown_trans ((Qt.refl w2).drew.grown none) hg3; have X3 := X2.out.keptN hg3'; have Y3 := Y2.out.keptN hg3'; obtain ⟨e0, e1, e2, e3, e4, e5, e6⟩ := X3.cells; obtain ⟨f0, f1, f2, f3, f4, f5, f6⟩ := Y3.cells))
  all_goals
    have G4 := hid_intro (grown_trans (grown_trans G2.out hg3') hg4)
    clear hg4 hg3 hg3' X3 Y3 X2 Y2 G2 c0 c1 c2 c3 c4 c5 c6 d0 d1 d2 d3 d4 d5 d6 e0 e1 e2 e3 e4 e5 e6 f0 f1 f2 f3 f4 f5 f6
    generalize nw v v' a b = e at *
    go_wp2
    go_ret
    exact ⟨rfl, G4.out⟩
end Go.Proofs.YtjbigfnggelceaaDoor
