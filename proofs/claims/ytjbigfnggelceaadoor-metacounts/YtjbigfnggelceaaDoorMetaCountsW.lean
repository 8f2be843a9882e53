import Derived.Test.YtjbigfnggelceaaDoorMeF
import Derived.Laws.BitsAllLaws
namespace Go.Proofs.YtjbigfnggelceaaDoor
open Go.RowKit

theorem and1 (v : Int) : bits .and .i64 v 1 = v % 2 := by
  have h1 : ((BitVec.ofInt 64 v) &&& (BitVec.ofInt 64 1)).toNat = (v % 2).toNat := by
    rw [BitVec.toNat_and, show (BitVec.ofInt 64 1).toNat = 1 from rfl, Nat.and_one_is_mod, BitVec.toNat_ofInt]
    omega
  have h2 : bits .and .i64 v 1 = IntKind.i64.wrap (((BitVec.ofInt 64 v) &&& (BitVec.ofInt 64 1)).toNat : Nat) := rfl
  rw [h2, h1, IntKind.wrap_i64]
  omega
theorem tmod_two (v : Int) : v.tmod 2 = 0 ↔ v % 2 = 0 := by
  rw [← Int.dvd_iff_tmod_eq_zero, ← Int.dvd_iff_emod_eq_zero]
set_option maxHeartbeats 4000000 in
set_option maxRecDepth 100000 in
theorem metaCounts_walk (v c r t k f n v' c' r' t' k' f' n' : Int) (a b : Bool) (w : World) (hk : Mk w) :
    Calls Tryd.prog 6 #[.agg #[.int .i64 v, .int .i64 c, .int .i64 r, .int .i64 t, .int .i64 k, .int .i64 f, .int .i64 n], .agg #[.int .i64 v', .int .i64 c', .int .i64 r', .int .i64 t', .int .i64 k', .int .i64 f', .int .i64 n'], .bool a, .bool b] w fun en w' => en = .returned (.bool true) ∧ w.grownBy w' none := by
  have HK := hid_intro hk
  clear hk
  go_enter Tryd.func6, Tryd.ntmps6
  go_upto_region 1 with fail
  have X1 := hid_intro ((Hx.new w v c r t k f n).keptN (World.grownBy_alloc _ (.cells #[.int .i64 v', .int .i64 c', .int .i64 r', .int .i64 t', .int .i64 k', .int .i64 f', .int .i64 n'] 23) none))
  have Y1 := hid_intro (Hx.new2 w (.cells #[.int .i64 v, .int .i64 c, .int .i64 r, .int .i64 t, .int .i64 k, .int .i64 f, .int .i64 n] 23) v' c' r' t' k' f' n')
  have G1 := hid_intro (grown_two w (.cells #[.int .i64 v, .int .i64 c, .int .i64 r, .int .i64 t, .int .i64 k, .int .i64 f, .int .i64 n] 23) (.cells #[.int .i64 v', .int .i64 c', .int .i64 r', .int .i64 t', .int .i64 k', .int .i64 f', .int .i64 n'] 23))
  generalize (w.alloc (.cells #[.int .i64 v, .int .i64 c, .int .i64 r, .int .i64 t, .int .i64 k, .int .i64 f, .int .i64 n] 23)).alloc (.cells #[.int .i64 v', .int .i64 c', .int .i64 r', .int .i64 t', .int .i64 k', .int .i64 f', .int .i64 n'] 23) = w1 at *
  go_wp2_with fail
  refine (first7_any _ (HK.out.keptN G1.out)).mono ?_
  rintro en w2 ⟨rfl, hg2⟩
  have X2 := hid_intro (X1.out.keptN hg2)
  have Y2 := hid_intro (Y1.out.keptN hg2)
  have G2 := hid_intro (grown_trans G1.out hg2)
  clear hg2 X1 Y1 G1
  obtain ⟨c0, c1, c2, c3, c4, c5, c6⟩ := X2.out.cells
  obtain ⟨d0, d1, d2, d3, d4, d5, d6⟩ := Y2.out.cells
  go_wp2_with fail
  refine (newer_any v c r t k f n v' c' r' t' k' f' n' a b _).mono ?_
  rintro en w3 ⟨rfl, hg3⟩
  have X3 := hid_intro (X2.out.keptN hg3)
  have Y3 := hid_intro (Y2.out.keptN hg3)
  have G3 := hid_intro (grown_trans G2.out hg3)
  clear hg3 X2 Y2 G2 c0 c1 c2 c3 c4 c5 c6 d0 d1 d2 d3 d4 d5 d6
  obtain ⟨c0, c1, c2, c3, c4, c5, c6⟩ := X3.out.cells
  obtain ⟨d0, d1, d2, d3, d4, d5, d6⟩ := Y3.out.cells
  go_wp2_with fail
  refine (newer_any v 0 0 0 0 0 0 v' 9 0 0 (-3) 0 0 a b _).mono ?_
  rintro en w4 ⟨rfl, hg4⟩
  have X4 := hid_intro (X3.out.keptN hg4)
  have Y4 := hid_intro (Y3.out.keptN hg4)
  have G4 := hid_intro (grown_trans G3.out hg4)
  clear hg4 X3 Y3 G3 c0 c1 c2 c3 c4 c5 c6 d0 d1 d2 d3 d4 d5 d6
  obtain ⟨c0, c1, c2, c3, c4, c5, c6⟩ := X4.out.cells
  obtain ⟨d0, d1, d2, d3, d4, d5, d6⟩ := Y4.out.cells
  clear c1 c2 c3 c4 c5 c6 d1 d2 d3 d4 d5 d6
  have ta := tmod_two v
  have tb := tmod_two v'
  have e1 := and1 v
  have e2 := and1 v'
  obtain ⟨p, hp⟩ : ∃ p, p = v % 2 := ⟨_, rfl⟩
  obtain ⟨q, hq⟩ : ∃ q, q = v' % 2 := ⟨_, rfl⟩
  rw [← hp] at ta e1
  rw [← hq] at tb e2
  have hp01 : p = 0 ∨ p = 1 := by omega
  have hq01 : q = 0 ∨ q = 1 := by omega
  have HTA := hid_intro ta
  have HTB := hid_intro tb
  have HNE : Hid (p ≠ q → v ≠ v') := by intro h e; rw [hp, hq, e] at h; exact h rfl
  clear hp hq ta tb
  rcases hp01 with rfl | rfl
  · have ha : v.tmod 2 = 0 := HTA.out.2 rfl
    rcases hq01 with rfl | rfl
    · have hb : v'.tmod 2 = 0 := HTB.out.2 rfl
      cases a
      · cases b
        · have e : nw v v' false false = -1 := by unfold nw; simp []
          rw [e]
          clear e HTA HTB HNE
          go_wp2
          go_ret
          exact ⟨rfl, G4.out⟩
        · have e : nw v v' false true = -1 := by unfold nw; simp [hb]
          rw [e]
          clear e HTA HTB HNE
          go_wp2
          go_ret
          exact ⟨rfl, G4.out⟩
      · cases b
        · have e : nw v v' true false = 0 := by unfold nw; simp [ha]
          rw [e]
          clear e HTA HTB HNE
          go_wp2
          go_ret
          exact ⟨rfl, G4.out⟩
        · have e : nw v v' true true = 0 := by unfold nw; simp [ha, hb]
          rw [e]
          clear e HTA HTB HNE
          go_wp2
          go_ret
          exact ⟨rfl, G4.out⟩
    · have hb : ¬ v'.tmod 2 = 0 := fun e => absurd (HTB.out.1 e) (by decide)
      cases a
      · cases b
        · have e : nw v v' false false = -1 := by unfold nw; simp []
          rw [e]
          clear e HTA HTB HNE
          go_wp2
          go_ret
          exact ⟨rfl, G4.out⟩
        · have e : nw v v' false true = 1 := by unfold nw; simp [hb]
          rw [e]
          clear e HTA HTB HNE
          go_wp2
          go_ret
          exact ⟨rfl, G4.out⟩
      · cases b
        · have e : nw v v' true false = 0 := by unfold nw; simp [ha]
          rw [e]
          clear e HTA HTB HNE
          go_wp2
          go_ret
          exact ⟨rfl, G4.out⟩
        · have hne := HNE.out (by decide)
          by_cases hl : v < v'
          · have g1 : v ≤ v' := by omega
            clear hne
            have e : nw v v' true true = 1 := by unfold nw; simp [ha, hb, hl]
            rw [e]
            clear e HTA HTB HNE
            go_wp2
            go_ret
            exact ⟨rfl, G4.out⟩
          · have g1 : v' ≤ v := by omega
            clear hne
            have e : nw v v' true true = 0 := by unfold nw; simp [ha, hl]
            rw [e]
            clear e HTA HTB HNE
            go_wp2
            go_ret
            exact ⟨rfl, G4.out⟩
  · have ha : ¬ v.tmod 2 = 0 := fun e => absurd (HTA.out.1 e) (by decide)
    rcases hq01 with rfl | rfl
    · have hb : v'.tmod 2 = 0 := HTB.out.2 rfl
      cases a
      · cases b
        · have e : nw v v' false false = -1 := by unfold nw; simp []
          rw [e]
          clear e HTA HTB HNE
          go_wp2
          go_ret
          exact ⟨rfl, G4.out⟩
        · have e : nw v v' false true = -1 := by unfold nw; simp [hb]
          rw [e]
          clear e HTA HTB HNE
          go_wp2
          go_ret
          exact ⟨rfl, G4.out⟩
      · cases b
        · have e : nw v v' true false = -1 := by unfold nw; simp [ha]
          rw [e]
          clear e HTA HTB HNE
          go_wp2
          go_ret
          exact ⟨rfl, G4.out⟩
        · have e : nw v v' true true = -1 := by unfold nw; simp [ha, hb]
          rw [e]
          clear e HTA HTB HNE
          go_wp2
          go_ret
          exact ⟨rfl, G4.out⟩
    · have hb : ¬ v'.tmod 2 = 0 := fun e => absurd (HTB.out.1 e) (by decide)
      cases a
      · cases b
        · have e : nw v v' false false = -1 := by unfold nw; simp []
          rw [e]
          clear e HTA HTB HNE
          go_wp2
          go_ret
          exact ⟨rfl, G4.out⟩
        · have e : nw v v' false true = 1 := by unfold nw; simp [hb]
          rw [e]
          clear e HTA HTB HNE
          go_wp2
          go_ret
          exact ⟨rfl, G4.out⟩
      · cases b
        · have e : nw v v' true false = -1 := by unfold nw; simp [ha]
          rw [e]
          clear e HTA HTB HNE
          go_wp2
          go_ret
          exact ⟨rfl, G4.out⟩
        · have e : nw v v' true true = 1 := by unfold nw; simp [ha, hb]
          rw [e]
          clear e HTA HTB HNE
          go_wp2
          go_ret
          exact ⟨rfl, G4.out⟩
end Go.Proofs.YtjbigfnggelceaaDoor
