import Derived.Test.YthkjdoipblcfkaaKeys5
namespace Go.Proofs.Ythkjdoipblcfkaa
open Go.RowKit

theorem same_any (ao bo : Option Addr) (n m c d : Nat) (za zb : List Int) (w : World) (ha : Byt w ao n c za) (hb : Byt w bo m d zb) (ba : Bt za) (bb : Bt zb) :
    Calls Try.prog 18 #[.slice ao n c, .slice bo m d] w fun en w' => en = .returned (.bool (decide (za = zb))) ∧ w' = w := by
  by_cases h : za = zb
  · rw [decide_eq_true h]; exact same_yes _ _ _ _ _ _ za zb w ha hb h
  · rw [decide_eq_false h]; exact same_no _ _ _ _ _ _ za zb w ha hb ba bb h

/-- How three strings can stand to each other. -/
theorem ways (a b c : List Int) : cmpZ a b = 1 ∨ (cmpZ a b = -1 ∧ cmpZ b c = 1) ∨ (cmpZ a b = -1 ∧ cmpZ b c = -1 ∧ cmpZ a c = -1) ∨ (cmpZ a b = -1 ∧ cmpZ b c = 0 ∧ cmpZ a c = -1) ∨
    (cmpZ a b = 0 ∧ cmpZ b c = 1) ∨ (cmpZ a b = 0 ∧ cmpZ b c = -1 ∧ cmpZ a c = -1) ∨ (cmpZ a b = 0 ∧ cmpZ b c = 0 ∧ cmpZ a c = 0) := by
  have h1 := cmp_range a b
  have h2 := cmp_range b c
  have h3 := cmp_range a c
  by_cases hx : cmpZ a b ≤ 0
  · by_cases hz : cmpZ b c ≤ 0
    · have ht := cmp_trans hx hz
      by_cases h0 : cmpZ a b = 0
      · have e := cmp_zero h0
        subst e
        omega
      · have : cmpZ a c ≠ 0 := fun e => h0 (ht.2 e).1
        omega
    · omega
  · omega

theorem same_zero (a b : List Int) : decide (a = b) = (cmpZ a b == 0) := by
  by_cases h : a = b
  · subst h; rw [cmp_self]; simp
  · rw [decide_eq_false h]
    symm
    rw [beq_eq_false_iff_ne]
    exact fun e => h (cmp_zero e)

set_option maxHeartbeats 20000000 in
set_option maxRecDepth 100000 in
theorem order_walk (a0 : Option Addr) (n0 c0 : Nat) (z0 : List Int) (a1 : Option Addr) (n1 c1 : Nat) (z1 : List Int) (a2 : Option Addr) (n2 c2 : Nat) (z2 : List Int) (a3 : Option Addr) (n3 c3 : Nat) (z3 : List Int) (w : World) (b0 : Byt w a0 n0 c0 z0) (t0 : Bt z0) (_l0 : n0 ≤ c0) (_k0 : c0 ≤ 140737488351232) (b1 : Byt w a1 n1 c1 z1) (t1 : Bt z1) (_l1 : n1 ≤ c1) (_k1 : c1 ≤ 140737488351232) (b2 : Byt w a2 n2 c2 z2) (t2 : Bt z2) (_l2 : n2 ≤ c2) (_k2 : c2 ≤ 140737488351232) (b3 : Byt w a3 n3 c3 z3) (t3 : Bt z3) (_l3 : n3 ≤ c3) (_k3 : c3 ≤ 140737488351232) :
    Calls Try.prog 7 #[.slice a0 n0 c0, .slice a1 n1 c1, .slice a2 n2 c2, .slice a3 n3 c3] w fun en w' => en = .returned (.bool true) ∧ w.grownBy w' none := by
  have H0 := hid_intro b0
  have H1 := hid_intro b1
  have H2 := hid_intro b2
  have H3 := hid_intro b3
  have HA := hid_intro (cmp_ahead z3 z0 z1)
  have hs := same_zero z0 z1
  have hways := ways z0 z1 z2
  have hanti := cmp_anti z0 z1
  clear b0 b1 b2 b3
  go_enter Try.func7, Try.ntmps7
  go_wp2_with fail
  refine (first3_any w).mono ?_
  rintro en w1 ⟨rfl, hg⟩
  have G1 := hid_intro hg
  clear hg
  have B0 := hid_intro (H0.out.keptN G1.out)
  have B1 := hid_intro (H1.out.keptN G1.out)
  have B2 := hid_intro (H2.out.keptN G1.out)
  have B3 := hid_intro (H3.out.keptN G1.out)
  clear H0 H1 H2 H3
  go_wp2_with fail
  refine (compare_any _ _ _ _ _ _ z0 z1 w1 B0.out B1.out t0 t1).mono ?_
  rintro en w2 ⟨rfl, rfl⟩
  go_wp2_with fail
  refine (compare_any _ _ _ _ _ _ z1 z0 _ B1.out B0.out t1 t0).mono ?_
  rintro en w3 ⟨rfl, rfl⟩
  rw [hanti]
  go_wp2_with fail
  refine (compare_any _ _ _ _ _ _ z1 z2 _ B1.out B2.out t1 t2).mono ?_
  rintro en w4 ⟨rfl, rfl⟩
  go_wp2_with fail
  refine (compare_any _ _ _ _ _ _ z0 z2 _ B0.out B2.out t0 t2).mono ?_
  rintro en w5 ⟨rfl, rfl⟩
  go_wp2_with fail
  refine (same_any _ _ _ _ _ _ z0 z1 _ B0.out B1.out t0 t1).mono ?_
  rintro en w6 ⟨rfl, rfl⟩
  rw [hs]
  clear hs hanti
  generalize hx : cmpZ z0 z1 = x at *
  generalize cmpZ z1 z2 = y at *
  generalize cmpZ z0 z2 = z at *
  have HX := hid_intro hx
  clear hx
  by_cases hsm : n3 ≤ 65536 ∧ n0 ≤ 65536 ∧ n1 ≤ 65536
  · obtain ⟨s3, s0, s1⟩ := hsm
    have g3 : ¬ (65536 : Int) < (n3 : Int) := by omega
    have g0 : ¬ (65536 : Int) < (n0 : Int) := by omega
    have g1 : ¬ (65536 : Int) < (n1 : Int) := by omega
    rcases hways with rfl | ⟨rfl, rfl⟩ | ⟨rfl, rfl, rfl⟩ | ⟨rfl, rfl, rfl⟩ | ⟨rfl, rfl⟩ | ⟨rfl, rfl, rfl⟩ | ⟨rfl, rfl, rfl⟩
    all_goals
      go_wp2_with fail
      refine (refBytes_any _ n3 c3 z3 _ B3.out (by omega)).mono ?_
      rintro en wa ⟨rfl, hoa, hga, hsa⟩
      have Oa := hid_intro hoa
      have Ga := hid_intro hga
      clear hoa hga
      go_wp2_with (at_builtin; refine wpList_append_byt rfl _ _ rfl _ _ n3 z3 rfl Oa.out a0 n0 c0 z0 rfl (by exact B0.out.keptN Ga.out) (by omega) (by omega) ?_)
      intro vb wb hob hgb
      rw [← List.map_append] at hob
      obtain ⟨ab, cb, rfl, hbb⟩ := owns_any hob
      have Gb := hid_intro (grown_new Ga.out (by simpa [Value.ownBlock] using hgb) (Nat.le_refl _))
      have Bb := hid_intro hbb
      clear hob hgb hbb Oa Ga
      go_wp2_with fail
      refine (refBytes_any _ n3 c3 z3 _ (B3.out.keptN Gb.out) (by omega)).mono ?_
      rintro en wc ⟨rfl, hoc, hgc, hsc⟩
      have Oc := hid_intro hoc
      have Gc := hid_intro hgc
      clear hoc hgc
      go_wp2_with (at_builtin; refine wpList_append_byt rfl _ _ rfl _ _ n3 z3 rfl Oc.out a1 n1 c1 z1 rfl (by exact B1.out.keptN (grown_trans Gb.out Gc.out)) (by omega) (by omega) ?_)
      intro vd wd hod hgd
      rw [← List.map_append] at hod
      obtain ⟨ad, cd, rfl, hbd⟩ := owns_any hod
      have Gd := hid_intro (grown_new Gc.out (by simpa [Value.ownBlock] using hgd) (Nat.le_refl _))
      have Bd := hid_intro hbd
      clear hod hgd hbd Oc Gc
      go_wp2_with fail
      refine (compare_any _ _ _ _ _ _ (z3 ++ z0) (z3 ++ z1) _ (Bb.out.keptN Gd.out) Bd.out (t3.app t0) (t3.app t1)).mono ?_
      rintro en we ⟨rfl, rfl⟩
      rw [HA.out]
      have GE := hid_intro (grown_trans G1.out (grown_trans Gb.out Gd.out))
      go_wp2
      go_ret
      exact ⟨rfl, GE.out⟩
  · rcases hways with rfl | ⟨rfl, rfl⟩ | ⟨rfl, rfl, rfl⟩ | ⟨rfl, rfl, rfl⟩ | ⟨rfl, rfl⟩ | ⟨rfl, rfl, rfl⟩ | ⟨rfl, rfl, rfl⟩
    all_goals
      by_cases g3 : (65536 : Int) < (n3 : Int)
      · go_wp2
        go_ret
        exact ⟨rfl, G1.out⟩
      · by_cases g0 : (65536 : Int) < (n0 : Int)
        · go_wp2
          go_ret
          exact ⟨rfl, G1.out⟩
        · have g1 : (65536 : Int) < (n1 : Int) := by omega
          go_wp2
          go_ret
          exact ⟨rfl, G1.out⟩
end Go.Proofs.Ythkjdoipblcfkaa
