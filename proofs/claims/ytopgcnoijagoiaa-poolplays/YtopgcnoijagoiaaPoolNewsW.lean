import Derived.Test.YtopgcnoijagoiaaRr5
namespace Go.Proofs.Ytopgcnoijagoiaa
open Go.RowKit Go.Maps

set_option maxHeartbeats 4000000 in
set_option maxRecDepth 100000 in
theorem poolNews_walk (c k : Int) (a : Option Addr) (n cap : Nat) (fr : List Int) (w : World) (hl : Nt w a fr) (hn : fr.length = n) (hb : n ≤ 9000000000000000000) :
    Calls Try.prog 3 #[.int .i64 c, .int .i64 k, .slice a n cap] w fun en w' => en = .returned (.bool true) ∧ w.grownBy w' none := by
  have HL := hid_intro hl
  clear hl
  rcases (show (20000 < k ∧ k ≤ 524287) ∨ (¬ (20000 < k ∧ k ≤ 524287) ∧ 4000 < n) ∨ (¬ (20000 < k ∧ k ≤ 524287) ∧ n ≤ 4000) by omega) with ⟨h1, h2⟩ | ⟨h1, h2⟩ | ⟨h1, h2⟩
  · go_enter Try.func3, Try.ntmps3
    go_wp2_with (first
      | (go_at_call 7; refine (first17_any _).mono ?_; rintro en w1 ⟨rfl, hg1⟩; have HG1 := hid_intro hg1; clear hg1))
    go_ret
    exact ⟨rfl, HG1.out⟩
  · have h2' : (4000 : Int) < (n : Int) := by omega
    go_enter Try.func3, Try.ntmps3
    by_cases h3 : 20000 < k
    · have h4 : ¬ k ≤ 524287 := by omega
      go_wp2_with (first
        | (go_at_call 7; refine (first17_any _).mono ?_; rintro en w1 ⟨rfl, hg1⟩; have HG1 := hid_intro hg1; clear hg1))
      go_ret
      exact ⟨rfl, HG1.out⟩
    · go_wp2_with (first
        | (go_at_call 7; refine (first17_any _).mono ?_; rintro en w1 ⟨rfl, hg1⟩; have HG1 := hid_intro hg1; clear hg1))
      go_ret
      exact ⟨rfl, HG1.out⟩
  · have h2' : ¬ (4000 : Int) < (n : Int) := by omega
    have h2d : decide ((4000 : Int) < (n : Int)) = false := by simp; omega
    go_enter Try.func3, Try.ntmps3
    go_wp2_with fail
    refine (first17_any _).mono ?_
    rintro en w1 ⟨rfl, hg1⟩
    have HG1 := hid_intro hg1
    clear hg1
    rcases (show (20000 < k ∧ 524287 < k) ∨ k ≤ 20000 by omega) with ⟨h3, h4⟩ | h3
    · have h3d : decide (20000 < k) = true := by simp [h3]
      have h4d : decide (k ≤ 524287) = false := by simp; omega
      have hok : newOk c k fr = false := by unfold newOk; simp [show ¬ k ≤ 524287 by omega]
      go_wp2_with fail
      refine (begin_no c k a n cap fr _ (HL.out.keptN HG1.out) hn h2 hok).mono ?_
      rintro en w2 ⟨Q, rfl, hq, hg2, -⟩
      have c0 : w2.cell? ⟨Q, 0, none⟩ = some (.pointer none) := cell_of_row w2 Q 0 _ _ _ hq
      have HG2 := hid_intro (grown_trans HG1.out hg2)
      clear hq hg2
      go_wp2
      go_ret
      exact ⟨rfl, HG2.out⟩
    · have h3d : decide (20000 < k) = false := by simp; omega
      cases hok : newOk c k fr with
      | false =>
        go_wp2_with fail
        refine (begin_no c k a n cap fr _ (HL.out.keptN HG1.out) hn h2 hok).mono ?_
        rintro en w2 ⟨Q, rfl, hq, hg2, -⟩
        have c0 : w2.cell? ⟨Q, 0, none⟩ = some (.pointer none) := cell_of_row w2 Q 0 _ _ _ hq
        have HG2 := hid_intro (grown_trans HG1.out hg2)
        clear hq hg2
        go_wp2
        go_ret
        exact ⟨rfl, HG2.out⟩
      | true =>
        go_wp2_with fail
        refine (begin_yes c k a n cap fr _ (HL.out.keptN HG1.out) hn h2 hok).mono ?_
        rintro en w2 ⟨Q, B, s, q, R, F, rfl, hp, hg2, -⟩
        have c0 := hp.c0
        have HP := hid_intro hp
        have HG2 := hid_intro (grown_trans HG1.out hg2)
        clear hp hg2
        go_wp2_with fail
        refine (tells_any HP.out).mono ?_
        rintro en w3 ⟨rfl, hg3⟩
        have HG3 := hid_intro (grown_trans HG2.out hg3)
        clear hg3
        go_wp2
        go_ret
        exact ⟨rfl, HG3.out⟩
end Go.Proofs.Ytopgcnoijagoiaa
