import Derived.Test.YthkjdoipblcfkaaKeys5
namespace Go.Proofs.Ythkjdoipblcfkaa
open Go.RowKit

set_option maxHeartbeats 20000000 in
set_option maxRecDepth 100000 in
theorem between_walk (a0 : Option Addr) (n0 c0 : Nat) (z0 : List Int) (a1 : Option Addr) (n1 c1 : Nat) (z1 : List Int) (a2 : Option Addr) (n2 c2 : Nat) (z2 : List Int) (w : World) (b0 : Byt w a0 n0 c0 z0) (t0 : Bt z0) (l0 : n0 ≤ c0) (k0 : c0 ≤ 140737488351232) (b1 : Byt w a1 n1 c1 z1) (t1 : Bt z1) (l1 : n1 ≤ c1) (k1 : c1 ≤ 140737488351232) (b2 : Byt w a2 n2 c2 z2) (t2 : Bt z2) (_l2 : n2 ≤ c2) (_k2 : c2 ≤ 140737488351232) :
    Calls Try.prog 8 #[.slice a0 n0 c0, .slice a1 n1 c1, .slice a2 n2 c2] w fun en w' => en = .returned (.bool true) ∧ w.grownBy w' none := by
  have e1 := b1.len
  have e2 := b2.len
  have H0 := hid_intro b0
  have H1 := hid_intro b1
  have H2 := hid_intro b2
  clear b0 b1 b2
  go_enter Try.func8, Try.ntmps8
  go_wp2_with fail
  refine (first3_any w).mono ?_
  rintro en w1 ⟨rfl, hg⟩
  have G1 := hid_intro hg
  clear hg
  have B0 := hid_intro (H0.out.keptN G1.out)
  have B1 := hid_intro (H1.out.keptN G1.out)
  have B2 := hid_intro (H2.out.keptN G1.out)
  clear H0 H1 H2
  go_wp2_with fail
  refine (compare_any _ _ _ _ _ _ z0 z1 w1 B0.out B1.out t0 t1).mono ?_
  rintro en w2 ⟨rfl, rfl⟩
  by_cases h : 0 ≤ cmpZ z0 z1
  · go_wp2_with fail
    refine (sep_no _ _ _ _ _ _ z0 z1 _ B0.out B1.out t0 t1 h).mono ?_
    rintro en w3 ⟨rfl, rfl⟩
    go_wp2_with fail
    refine (num3_any _ _).mono ?_
    rintro en w4 ⟨rfl, rfl⟩
    go_wp2
    go_ret
    exact ⟨rfl, G1.out⟩
  · have h' := neg_of h
    have hr := sep_room h'
    have hlow := sep_low h'
    have hhigh := cmp_take (com z0 z1 + 1) z1
    have HL : Hid (n2 < com z0 z1 + 1 → 0 ≤ cmpZ z0 z2 ∨ 0 < cmpZ z2 z1) := fun hx => sep_least h' (by rw [e2]; exact hx)
    rw [e1] at hr
    obtain ⟨bb, ob, rfl, _, _⟩ := B1.out.at (by omega)
    have HT := hid_intro (B1.out.take (com z0 z1 + 1) c1 hr (fun e => by cases e))
    go_wp2_with fail
    refine (sep_yes _ _ _ _ _ _ z0 z1 _ B0.out B1.out t0 t1 (by omega) (by omega) l1 h').mono ?_
    rintro en w3 ⟨g3, p3, rfl, ho, hg⟩
    have S3 := hid_intro (Byt.of_owns ho)
    have G3 := hid_intro hg
    have G := hid_intro (grown_trans G1.out hg)
    clear ho hg
    generalize hK : com z0 z1 + 1 = k at *
    clear hK
    go_wp2_with fail
    refine (num3_any _ _).mono ?_
    rintro en w4 ⟨rfl, rfl⟩
    have g1 : ¬ (n1 : Int) < (k : Int) := by omega
    have g2 : ((k : Int) ≤ (c1 : Int)) := by omega
    go_wp2_with fail
    refine (compare_any _ _ _ _ _ _ z0 (z1.take k) _ (B0.out.keptN G3.out) S3.out t0 (t1.take k)).mono ?_
    rintro en w5 ⟨rfl, rfl⟩
    go_wp2_with fail
    refine (compare_any _ _ _ _ _ _ (z1.take k) z1 _ S3.out (B1.out.keptN G3.out) (t1.take k) t1).mono ?_
    rintro en w6 ⟨rfl, rfl⟩
    have d1 : ¬ 0 ≤ cmpZ z0 (z1.take k) := by omega
    have d2 : ¬ 0 < cmpZ (z1.take k) z1 := by omega
    go_wp2_with fail
    refine (same_yes _ _ _ _ _ _ _ _ _ S3.out (HT.out.keptN G3.out) rfl).mono ?_
    rintro en w7 ⟨rfl, rfl⟩
    by_cases hs : n2 < k
    · rcases HL.out hs with hp | hp
      · go_wp2_with fail
        refine (compare_any _ _ _ _ _ _ z0 z2 _ (B0.out.keptN G3.out) (B2.out.keptN G3.out) t0 t2).mono ?_
        rintro en w8 ⟨rfl, rfl⟩
        go_wp2_with fail
        refine (compare_any _ _ _ _ _ _ z2 z1 _ (B2.out.keptN G3.out) (B1.out.keptN G3.out) t2 t1).mono ?_
        rintro en w9 ⟨rfl, rfl⟩
        go_wp2
        go_ret
        exact ⟨ret_bool (by simp), G.out⟩
      · by_cases hp2 : 0 ≤ cmpZ z0 z2
        · go_wp2_with fail
          refine (compare_any _ _ _ _ _ _ z0 z2 _ (B0.out.keptN G3.out) (B2.out.keptN G3.out) t0 t2).mono ?_
          rintro en w8 ⟨rfl, rfl⟩
          go_wp2_with fail
          refine (compare_any _ _ _ _ _ _ z2 z1 _ (B2.out.keptN G3.out) (B1.out.keptN G3.out) t2 t1).mono ?_
          rintro en w9 ⟨rfl, rfl⟩
          go_wp2
          go_ret
          exact ⟨ret_bool (by simp), G.out⟩
        · go_wp2_with fail
          refine (compare_any _ _ _ _ _ _ z0 z2 _ (B0.out.keptN G3.out) (B2.out.keptN G3.out) t0 t2).mono ?_
          rintro en w8 ⟨rfl, rfl⟩
          go_wp2_with fail
          refine (compare_any _ _ _ _ _ _ z2 z1 _ (B2.out.keptN G3.out) (B1.out.keptN G3.out) t2 t1).mono ?_
          rintro en w9 ⟨rfl, rfl⟩
          go_wp2
          go_ret
          exact ⟨ret_bool (by simp), G.out⟩
    · go_wp2
      go_ret
      exact ⟨rfl, G.out⟩
end Go.Proofs.Ythkjdoipblcfkaa
