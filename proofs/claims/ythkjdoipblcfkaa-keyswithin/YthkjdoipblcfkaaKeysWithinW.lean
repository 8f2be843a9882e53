import Derived.Test.YthkjdoipblcfkaaKeys5
namespace Go.Proofs.Ythkjdoipblcfkaa
open Go.RowKit

set_option maxHeartbeats 1000000 in
theorem within_walk (a0 : Option Addr) (n0 c0 : Nat) (z0 : List Int) (a1 : Option Addr) (n1 c1 : Nat) (z1 : List Int) (a2 : Option Addr) (n2 c2 : Nat) (z2 : List Int) (w : World) (b0 : Byt w a0 n0 c0 z0) (t0 : Bt z0) (l0 : n0 ≤ c0) (k0 : c0 ≤ 140737488351232) (b1 : Byt w a1 n1 c1 z1) (t1 : Bt z1) (l1 : n1 ≤ c1) (k1 : c1 ≤ 140737488351232) (b2 : Byt w a2 n2 c2 z2) (t2 : Bt z2) (l2 : n2 ≤ c2) (k2 : c2 ≤ 140737488351232) :
    Calls Try.prog 6 #[.slice a0 n0 c0, .slice a1 n1 c1, .slice a2 n2 c2] w fun en w' => en = .returned (.bool true) ∧ w.grownBy w' none := by
  have H0 := hid_intro b0
  have H1 := hid_intro b1
  have H2 := hid_intro b2
  clear b0 b1 b2
  go_enter Try.func6, Try.ntmps6
  go_wp2_with fail
  refine (first3_any w).mono ?_
  rintro en w1 ⟨rfl, hg⟩
  have G1 := hid_intro hg
  clear hg
  go_wp2_with fail
  refine (valid_any _ _ _ w1).mono ?_
  rintro en w2 ⟨rfl, rfl⟩
  go_wp2_with fail
  refine (within_any _ _ _ _ _ _ _ _ _ z0 z1 z2 _ (H0.out.keptN G1.out) (H1.out.keptN G1.out) (H2.out.keptN G1.out) t0 t1 t2).mono ?_
  rintro en w3 ⟨rfl, rfl⟩
  go_wp2_with fail
  refine (refValid_any _ _ _ _).mono ?_
  rintro en w4 ⟨rfl, rfl⟩
  have hv : (valid n0 == valid n0) = true := by simp
  go_wp2_with fail
  refine (refWithin_any _ _ _ _ _ _ _ _ _ z0 z1 z2 _ (H0.out.keptN G1.out) (H1.out.keptN G1.out) (H2.out.keptN G1.out) (by omega) (by omega) (by omega)).mono ?_
  rintro en w5 ⟨rfl, hq⟩
  have G5 := hid_intro (grown_trans G1.out (hq.grown none))
  clear hq
  go_wp2
  go_ret
  exact ⟨ret_bool (by simp), G5.out⟩
end Go.Proofs.Ythkjdoipblcfkaa
