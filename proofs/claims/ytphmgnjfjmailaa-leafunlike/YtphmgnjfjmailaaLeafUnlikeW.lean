import Derived.Test.YtphmgnjfjmailaaItemsIn
namespace Go.Proofs.Ytphmgnjfjmailaa
open Go.RowKit

set_option maxHeartbeats 4000000 in
set_option maxRecDepth 100000 in
theorem unlike_walk (a : Option Addr) (n cap : Nat) (L : List It) (a' : Option Addr) (n' cap' : Nat) (M : List It) (w : World) (hl : Il w a L) (hib : Ib L) (hn : L.length = n) (_hnc : n ≤ cap) (_hcm : cap ≤ 9223372036854775807) (hl' : Il w a' M) (hib' : Ib M) (hn' : M.length = n') (_hnc' : n' ≤ cap') (_hcm' : cap' ≤ 9223372036854775807) :
    Calls Try.prog 7 #[.slice a n cap, .slice a' n' cap'] w fun en w' => en = .returned (.bool true) ∧ w.grownBy w' none := by
  have HL := hid_intro hl
  have HM := hid_intro hl'
  clear hl hl'
  go_enter Try.func7, Try.ntmps7
  go_wp2_with fail
  refine (first4_any _).mono ?_
  rintro en w1 ⟨rfl, hg1⟩
  have G1 := hid_intro hg1
  clear hg1
  go_wp2_with fail
  refine (short_any a n cap L _ (HL.out.keptN G1.out) hn).mono ?_
  rintro en w2 ⟨rfl, hq2⟩
  have G2 := hid_intro (grown_trans G1.out (hq2.grown none))
  clear hq2 G1
  cases hsh : sh L with
  | false =>
    clear hsh
    go_wp2
    go_ret
    exact ⟨rfl, G2.out⟩
  | true =>
    have hsp := (sh_parts hsh).1
    clear hsh
    go_wp2_with fail
    refine (short_any a' n' cap' M _ (HM.out.keptN G2.out) hn').mono ?_
    rintro en w3 ⟨rfl, hq3⟩
    have G3 := hid_intro (grown_trans G2.out (hq3.grown none))
    clear hq3 G2
    cases hsh : sh M with
    | false =>
      clear hsh
      go_wp2
      go_ret
      exact ⟨rfl, G3.out⟩
    | true =>
      have hsp' := (sh_parts hsh).1
      clear hsh
      have HE1 : Hid ((enc L).2 = 0 → Good (enc L).1 L) := fun e => (enc_good _ L).1 ⟨rfl, e⟩
      have HE2 : Hid ((enc M).2 = 0 → Good (enc M).1 M) := fun e => (enc_good _ M).1 ⟨rfl, e⟩
      have HT1 := hid_intro (enc_bt hib)
      have HT2 := hid_intro (enc_bt hib')
      have HEN := hid_intro (fun (W : World) (hW : Il W a L) => encode_any a n cap L W hW hib hn (by omega))
      have HEM := hid_intro (fun (W : World) (hW : Il W a' M) => encode_any a' n' cap' M W hW hib' hn' (by omega))
      have HEQ : Hid (L = M → (enc L).1 = (enc M).1) := fun e => by rw [e]
      generalize (enc L).1 = xs at *
      generalize (enc L).2 = e1 at *
      generalize (enc M).1 = ys at *
      generalize (enc M).2 = e2 at *
      go_wp2_with fail
      refine (HEN.out _ (HL.out.keptN G3.out)).mono ?_
      rintro en w4 ⟨⟨b1, k1, c1, rfl, hb4, _⟩, hg4⟩
      have G4 := hid_intro (grown_trans G3.out hg4)
      have B4 := hid_intro hb4
      clear hb4 hg4 G3 HEN
      go_wp2_with fail
      refine (HEM.out _ (HM.out.keptN G4.out)).mono ?_
      rintro en w5 ⟨⟨b2, k2, c2, rfl, hb5, _⟩, hg5⟩
      have G5 := hid_intro (grown_trans G4.out hg5)
      have B5 := hid_intro hb5
      have X5 := hid_intro (B4.out.keptN hg5)
      clear hb5 hg5 G4 B4 HEM
      go_wp2_with fail
      refine (num4_any _ _).mono ?_
      rintro en wz ⟨rfl, rfl⟩
      by_cases h1 : e1 = 0
      · subst h1
        have g1 := hid_intro (HE1.out rfl)
        clear HE1
        go_wp2_with fail
        refine (num4_any _ _).mono ?_
        rintro en wz ⟨rfl, rfl⟩
        by_cases h2 : e2 = 0
        · subst h2
          have g2 := hid_intro (HE2.out rfl)
          clear HE2
          go_wp2_with fail
          refine (sameItems_any _ n cap L _ n' cap' M _ (HL.out.keptN G5.out) hib hn (HM.out.keptN G5.out) hib' hn' (by omega)).mono ?_
          rintro en w6 ⟨⟨b, rfl, hbb⟩, hg6⟩
          have HBB := hid_intro hbb
          have G6 := hid_intro (grown_trans G5.out hg6)
          have X6 := hid_intro (X5.out.keptN hg6)
          have Y6 := hid_intro (B5.out.keptN hg6)
          clear hbb hg6 G5 X5 B5
          by_cases hxy : xs = ys
          · have hbt : b = true := HBB.out.2 (by subst hxy; exact good_one g1.out g2.out)
            subst hbt
            clear HBB HEQ
            go_wp2_with fail
            refine (same_yes _ _ _ _ _ _ _ _ _ X6.out Y6.out hxy).mono ?_
            rintro en w7 ⟨rfl, rfl⟩
            clear hxy g1 g2
            go_wp2
            go_ret
            exact ⟨rfl, G6.out⟩
          · have hbf : b = false := by
              cases b with
              | false => rfl
              | true => exact absurd (HEQ.out (HBB.out.1 rfl)) hxy
            subst hbf
            clear HBB HEQ
            go_wp2_with fail
            refine (same_no _ _ _ _ _ _ _ _ _ X6.out Y6.out HT1.out HT2.out hxy).mono ?_
            rintro en w7 ⟨rfl, rfl⟩
            clear hxy g1 g2
            go_wp2
            go_ret
            exact ⟨rfl, G6.out⟩
        · clear HE2
          go_wp2
          go_ret
          exact ⟨rfl, G5.out⟩
      · clear HE1 HE2
        go_wp2
        go_ret
        exact ⟨rfl, G5.out⟩
end Go.Proofs.Ytphmgnjfjmailaa
