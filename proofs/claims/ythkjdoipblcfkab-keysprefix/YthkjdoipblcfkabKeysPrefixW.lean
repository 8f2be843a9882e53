import Derived.Test.YthkjdoipblcfkabKeys5
namespace Go.Proofs.Ythkjdoipblcfkab
open Go.RowKit

theorem prefix_all {a b c : List Int} (h : cmpZ a b ≤ 0) (k : cmpZ b c ≤ 0) : comList [a, b, c] = com a c ∧ com a c = min (com a b) (com b c) ∧ com a c ≤ a.length ∧ com a c ≤ b.length ∧ com a c ≤ c.length := by
  have e := com_mid h k
  have h1 := com_le1 a b
  have h2 := com_le1 a c
  have h3 := com_le2 a c
  have h4 := com_le2 a b
  refine ⟨?_, e, h2, by omega, h3⟩
  show min (min a.length (com a b)) (com a c) = com a c
  omega

set_option maxHeartbeats 20000000 in
set_option maxRecDepth 100000 in
theorem prefix_walk (a0 : Option Addr) (n0 c0 : Nat) (z0 : List Int) (a1 : Option Addr) (n1 c1 : Nat) (z1 : List Int) (a2 : Option Addr) (n2 c2 : Nat) (z2 : List Int) (w : World) (b0 : Byt w a0 n0 c0 z0) (t0 : Bt z0) (l0 : n0 ≤ c0) (k0 : c0 ≤ 140737488351232) (b1 : Byt w a1 n1 c1 z1) (t1 : Bt z1) (l1 : n1 ≤ c1) (k1 : c1 ≤ 140737488351232) (b2 : Byt w a2 n2 c2 z2) (t2 : Bt z2) (l2 : n2 ≤ c2) (k2 : c2 ≤ 140737488351232) :
    Calls Try.prog 3 #[.slice a0 n0 c0, .slice a1 n1 c1, .slice a2 n2 c2] w fun en w' => en = .returned (.bool true) ∧ w.grownBy w' none := by
  have e0 := b0.len
  have e1 := b1.len
  have e2 := b2.len
  have H0 := hid_intro b0
  have H1 := hid_intro b1
  have H2 := hid_intro b2
  clear b0 b1 b2
  go_enter Try.func3, Try.ntmps3
  go_wp2_with fail
  refine (first3_any w).mono ?_
  rintro en w1 ⟨rfl, hg⟩
  have G1 := hid_intro hg
  clear hg
  have B0 := hid_intro (H0.out.keptN G1.out)
  have B1 := hid_intro (H1.out.keptN G1.out)
  have B2 := hid_intro (H2.out.keptN G1.out)
  clear H0 H1 H2
  go_wp2_with fail
  refine (compare_any _ _ _ _ _ _ z0 z1 w1 B0.out B1.out t0 t1).mono ?_
  rintro en w2 ⟨rfl, rfl⟩
  go_wp2_with fail
  refine (compare_any _ _ _ _ _ _ z1 z2 _ B1.out B2.out t1 t2).mono ?_
  rintro en w3 ⟨rfl, rfl⟩
  by_cases h : 0 < cmpZ z0 z1
  · go_wp2
    go_ret
    exact ⟨rfl, G1.out⟩
  · by_cases h2 : 0 < cmpZ z1 z2
    · go_wp2
      go_ret
      exact ⟨rfl, G1.out⟩
    · obtain ⟨f1, f2, f3, f4, f5⟩ := prefix_all (show cmpZ z0 z1 ≤ 0 by omega) (show cmpZ z1 z2 ≤ 0 by omega)
      rw [e0] at f3
      rw [e1] at f4
      rw [e2] at f5
      clear e0 e1 e2
      have F1 := hid_intro f1
      clear f1
      go_wp2_with fail
      refine (common_any _ _ _ _ _ _ z0 z2 _ B0.out B2.out (by omega) (by omega)).mono ?_
      rintro en w4 ⟨rfl, hq⟩
      have Q4 := hid_intro (hq.qt.grown none)
      clear hq
      go_wp2_with fail
      refine (commonAll_some _ 3 z0 [z1, z2] _ (Lz.lit3 _ 22 _ _ _ _ _ _ _ _ _ z0 z1 z2 _ rfl (B0.out.keptN Q4.out) (B1.out.keptN Q4.out) (B2.out.keptN Q4.out) l0 l1 l2 (by omega) (by omega) (by omega)) (by simp) (by decide)).mono ?_
      rintro en w5 ⟨rfl, hq⟩
      rw [F1.out]
      have Q5 := hid_intro (grown_trans Q4.out (grown_trans (World.grownBy_alloc w4 _ none) hq))
      clear hq Q4
      go_wp2_with fail
      refine (common_any _ _ _ _ _ _ z0 z1 _ (B0.out.keptN Q5.out) (B1.out.keptN Q5.out) (by omega) (by omega)).mono ?_
      rintro en w6 ⟨rfl, hq⟩
      have Q6 := hid_intro (grown_trans Q5.out (hq.qt.grown none))
      clear hq Q5
      go_wp2_with fail
      refine (common_any _ _ _ _ _ _ z1 z2 _ (B1.out.keptN Q6.out) (B2.out.keptN Q6.out) (by omega) (by omega)).mono ?_
      rintro en w7 ⟨rfl, hq⟩
      have G := hid_intro (grown_trans G1.out (grown_trans Q6.out (hq.qt.grown none)))
      clear hq Q6
      generalize com z0 z2 = n at *
      generalize com z0 z1 = p at *
      generalize com z1 z2 = q at *
      by_cases hpq : q < p
      · have : n = q := by omega
        subst this
        have g1 : (n : Int) ≤ (p : Int) := by omega
        have g2 : (n : Int) ≤ (n0 : Int) := by omega
        have g3 : (n : Int) ≤ (n1 : Int) := by omega
        have g4 : (n : Int) ≤ (n2 : Int) := by omega
        clear f2
        go_wp2
        go_ret
        exact ⟨ret_bool (by simp; omega), G.out⟩
      · have : n = p := by omega
        subst this
        have g1 : (n : Int) ≤ (q : Int) := by omega
        have g2 : (n : Int) ≤ (n0 : Int) := by omega
        have g3 : (n : Int) ≤ (n1 : Int) := by omega
        have g4 : (n : Int) ≤ (n2 : Int) := by omega
        clear f2
        go_wp2
        go_ret
        exact ⟨ret_bool (by simp; omega), G.out⟩
end Go.Proofs.Ythkjdoipblcfkab
