import Derived.Test.YthkjdoipblcfkaaKeys5
namespace Go.Proofs.Ythkjdoipblcfkaa
open Go.RowKit

set_option maxHeartbeats 2000000 in
theorem separates_walk (a0 : Option Addr) (n0 c0 : Nat) (z0 : List Int) (a1 : Option Addr) (n1 c1 : Nat) (z1 : List Int) (w : World) (b0 : Byt w a0 n0 c0 z0) (t0 : Bt z0) (l0 : n0 ≤ c0) (k0 : c0 ≤ 140737488351232) (b1 : Byt w a1 n1 c1 z1) (t1 : Bt z1) (l1 : n1 ≤ c1) (k1 : c1 ≤ 140737488351232) :
    Calls Try.prog 5 #[.slice a0 n0 c0, .slice a1 n1 c1] w fun en w' => en = .returned (.bool true) ∧ w.grownBy w' none := by
  have H0 := hid_intro b0
  have H1 := hid_intro b1
  clear b0 b1
  go_enter Try.func5, Try.ntmps5
  go_wp2_with fail
  refine (first3_any w).mono ?_
  rintro en w1 ⟨rfl, hg⟩
  have G1 := hid_intro hg
  clear hg
  by_cases h : 0 ≤ cmpZ z0 z1
  · go_wp2_with fail
    refine (sep_no _ _ _ _ _ _ z0 z1 _ (H0.out.keptN G1.out) (H1.out.keptN G1.out) t0 t1 h).mono ?_
    rintro en w2 ⟨rfl, rfl⟩
    go_wp2_with fail
    refine (refSep_no _ _ _ _ _ _ z0 z1 _ (H0.out.keptN G1.out) (H1.out.keptN G1.out) (by omega) (by omega) h).mono ?_
    rintro en w3 ⟨rfl, hq⟩
    have G3 := hid_intro (grown_trans G1.out (hq.grown none))
    clear hq
    go_wp2_with fail
    refine (same_yes _ _ 0 0 0 0 [] [] _ (Byt.empty _) (Byt.empty _) rfl).mono ?_
    rintro en w4 ⟨rfl, rfl⟩
    go_wp2_with fail
    refine (num3_any _ _).mono ?_
    rintro en w5 ⟨rfl, rfl⟩
    go_wp2
    go_ret
    exact ⟨rfl, G3.out⟩
  · have h' := neg_of h
    go_wp2_with fail
    refine (sep_yes _ _ _ _ _ _ z0 z1 _ (H0.out.keptN G1.out) (H1.out.keptN G1.out) t0 t1 (by omega) (by omega) l1 h').mono ?_
    rintro en w2 ⟨g2, p2, rfl, ho, hg⟩
    have B2 := hid_intro (Byt.of_owns ho)
    have G2 := hid_intro (grown_trans G1.out hg)
    clear ho hg
    go_wp2_with fail
    refine (refSep_yes _ _ _ _ _ _ z0 z1 _ (H0.out.keptN G2.out) (H1.out.keptN G2.out) (by omega) (by omega) l1 h').mono ?_
    rintro en w3 ⟨g3, rfl, hb, hg⟩
    have B3 := hid_intro hb
    have B2' := hid_intro (B2.out.keptN hg)
    have G3 := hid_intro (grown_trans G2.out hg)
    clear hb hg
    go_wp2_with fail
    refine (same_yes _ _ _ _ _ _ _ _ _ B2'.out B3.out rfl).mono ?_
    rintro en w4 ⟨rfl, rfl⟩
    go_wp2_with fail
    refine (num3_any _ _).mono ?_
    rintro en w5 ⟨rfl, rfl⟩
    go_wp2
    go_ret
    exact ⟨rfl, G3.out⟩
end Go.Proofs.Ythkjdoipblcfkaa
