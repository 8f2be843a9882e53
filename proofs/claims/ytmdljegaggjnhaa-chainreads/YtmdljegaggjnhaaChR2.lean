import Derived.Test.YtmdljegaggjnhaaChR1
namespace Go.Proofs.Ytmdljegaggjnhaa
open Go.RowKit

set_option maxHeartbeats 1000000 in
set_option maxRecDepth 100000 in
theorem refEncodeData_any (x : Int) (ao : Option Addr) (n cap : Nat) (zs : List Int) (w : World) (hb : Byt w ao n cap zs) (hn : n ≤ 9223372036854775807) :
    Calls Try.prog 16 #[.int .i64 x, .slice ao n cap] w fun en w' => ∃ bo m c, en = .returned (.tuple #[.slice bo m c, .int .i64 (eD x n)]) ∧ Byt w' bo m c (oD x zs) ∧ w.grownBy w' none := by
  have hl := hb.len
  have HB := hid_intro hb
  clear hb
  cases hk : nOk x with
  | false =>
    have e : Hid (eD x n = 51) := by show _ = _; unfold eD; rw [if_pos hk]
    have e2 : Hid (oD x zs = []) := oD_no (by rw [hl, e.out]; decide)
    clear hl
    go_enter Try.func16, Try.ntmps16
    go_wp2_with fail
    refine (refKid_any x _).mono ?_
    rintro en w ⟨rfl, rfl⟩
    rw [hk]
    go_wp2
    go_ret2
    rw [e.out, e2.out]
    exact ⟨none, 0, 0, rfl, Byt.empty _, World.grownBy.refl _ _⟩
  | true =>
    cases hc : (decide (n = 0) || cnt x n 4085) with
    | true =>
      have e : Hid (eD x n = 62) := by show _ = _; unfold eD; rw [if_neg (by rw [hk]; decide), if_pos hc]
      have e2 : Hid (oD x zs = []) := oD_no (by rw [hl, e.out]; decide)
      clear hl
      simp only [cnt, Bool.or_eq_true, decide_eq_true_eq, Bool.and_eq_true] at hc
      by_cases h1 : n < 1
      · go_enter Try.func16, Try.ntmps16
        go_wp2_with fail
        refine (refKid_any x _).mono ?_
        rintro en w ⟨rfl, rfl⟩
        rw [hk]
        have h1' : (n : Int) < 1 := by omega
        clear hc
        go_wp2
        go_ret2
        rw [e.out, e2.out]
        exact ⟨none, 0, 0, rfl, Byt.empty _, World.grownBy.refl _ _⟩
      · by_cases h2 : 4085 < n
        · go_enter Try.func16, Try.ntmps16
          go_wp2_with fail
          refine (refKid_any x _).mono ?_
          rintro en w ⟨rfl, rfl⟩
          rw [hk]
          have h1' : ¬ (n : Int) < 1 := by omega
          have h2' : (4085 : Int) < (n : Int) := by omega
          clear hc
          go_wp2
          go_ret2
          rw [e.out, e2.out]
          exact ⟨none, 0, 0, rfl, Byt.empty _, World.grownBy.refl _ _⟩
        · have h3 : x ≠ 0 := by omega
          have h4 : n < 4085 := by omega
          have h3a : (x != 0) = true := by simp [h3]
          have h3b : (x == 0) = false := by simp [h3]
          have h1' : ¬ (n : Int) < 1 := by omega
          have h2' : ¬ (4085 : Int) < (n : Int) := by omega
          have h4' : ((n : Int) != 4085) = true := by simp; omega
          have h4b : ((n : Int) == 4085) = false := by simp; omega
          clear hc
          go_enter Try.func16, Try.ntmps16
          go_wp2_with fail
          refine (refKid_any x _).mono ?_
          rintro en w ⟨rfl, rfl⟩
          rw [hk]
          go_wp2
          go_ret2
          rw [e.out, e2.out]
          exact ⟨none, 0, 0, rfl, Byt.empty _, World.grownBy.refl _ _⟩
    | false =>
      have e : Hid (eD x n = 0) := by show _ = _; unfold eD; rw [if_neg (by rw [hk]; decide), if_neg (by rw [hc]; simp)]
      have e2 : Hid (oD x zs = dB x.toNat zs) := oD_yes (by rw [hl, e.out])
      obtain ⟨_, h0, hm, _⟩ := eD_zero e.out
      obtain ⟨y, hy, hy2⟩ := nOk_nat hk
      subst hy
      have e2 : Hid (oD y zs = dB y zs) := e2
      have HD : Hid (dB y zs = hd 3 y n ++ (zs ++ List.replicate (4085 - n) 0)) := by show _ = _; unfold dB; rw [hl]
      simp only [cnt, Bool.or_eq_false_iff, decide_eq_false_iff_not, Bool.and_eq_false_iff, Decidable.not_not] at hc
      have h1' : ¬ (n : Int) < 1 := by omega
      have h2' : ¬ (4085 : Int) < (n : Int) := by omega
      by_cases h3 : y = 0
      · subst h3
        clear hc hl
        go_enter Try.func16, Try.ntmps16
        go_wp2_with fail
        refine (refKid_any _ _).mono ?_
        rintro en w ⟨rfl, rfl⟩
        rw [show nOk 0 = true from rfl]
        go_wp2_with fail
        refine (body_any 3 0 n ao n cap zs _ HB.out (by omega) (by omega)).mono ?_
        rintro en w2 ⟨bo, c, rfl, hb2, hg2⟩
        have B2 := hid_intro hb2
        have G2 := hid_intro hg2
        clear hb2 hg2
        go_wp2
        go_ret2
        rw [e.out, e2.out, HD.out]
        exact ⟨_, _, _, rfl, B2.out, G2.out⟩
      · have h4 : n = 4085 := by omega
        have h3a : ((y : Int) != 0) = true := by simp [h3]
        have h3b : ((y : Int) == 0) = false := by simp [h3]
        have h4' : ((n : Int) != 4085) = false := by simp; omega
        have h4b : ((n : Int) == 4085) = true := by simp; omega
        have H4 := hid_intro h4
        clear hc hl h4
        go_enter Try.func16, Try.ntmps16
        go_wp2_with fail
        refine (refKid_any _ _).mono ?_
        rintro en w ⟨rfl, rfl⟩
        rw [hk]
        go_wp2_with fail
        refine (body_any 3 y n ao n cap zs _ HB.out (by omega) (by omega)).mono ?_
        rintro en w2 ⟨bo, c, rfl, hb2, hg2⟩
        have B2 := hid_intro hb2
        have G2 := hid_intro hg2
        clear hb2 hg2
        go_wp2
        go_ret2
        rw [e.out, e2.out, HD.out]
        exact ⟨_, _, _, rfl, B2.out, G2.out⟩

set_option maxHeartbeats 2000000 in
set_option maxRecDepth 100000 in
theorem refDecodeData_any (ao : Option Addr) (n cap : Nat) (zs : List Int) (w : World) (hb : Byt w ao n cap zs) (hbt : Bt zs) (hcap : n ≤ cap ∧ cap ≤ 9223372036854775807) :
    Calls Try.prog 22 #[.slice ao n cap] w fun en w' => ∃ bo m c, en = .returned (.tuple #[.int .i64 (vN zs), .slice bo m c, .int .i64 (vE zs)]) ∧ Byt w' bo m c (vD zs) ∧ w.grownBy w' none := by
  have hl := hb.len
  have HB := hid_intro hb
  by_cases h0 : n = 4092
  · subst h0
    obtain ⟨b, off, hao, _, _⟩ := hb.at (by omega)
    subst hao
    clear hb
    have HRB := hid_intro (rD_bt hbt)
    have HIF := hid_intro (dD_iff hl)
    obtain ⟨x, hx⟩ : ∃ x, x = rN zs := ⟨_, rfl⟩
    obtain ⟨c, hc⟩ : ∃ c, c = rC zs := ⟨_, rfl⟩
    have HX := hid_intro hx
    have HC := hid_intro hc
    have hc2 : c < 65536 := by rw [hc]; exact rC_lt hbt
    clear hx hc
    go_enter Try.func22, Try.ntmps22
    go_wp2_with fail
    refine (read_any _ 4092 cap 1 4 1 zs _ HB.out hbt (by omega) (by omega) (by omega) rfl).mono ?_
    rintro en w ⟨rfl, rfl⟩
    have hx : (le 4 (zs.drop 1) : Nat) = x := HX.out.symm
    rw [hx]
    clear hx
    go_wp2_with fail
    refine (read_any _ 4092 cap 5 2 5 zs _ HB.out hbt (by omega) (by omega) (by omega) rfl).mono ?_
    rintro en w ⟨rfl, rfl⟩
    have hc : (le 2 (zs.drop 5) : Nat) = c := HC.out.symm
    rw [hc]
    clear hc
    by_cases hbig : 4085 < c
    · have HT : Hid (dD zs = false) := by
        cases hh : dD zs with
        | false => rfl
        | true =>
          have := (eD_zero (HIF.out.1 hh).1).2.1
          unfold rD at this
          rw [if_neg (by rw [← HC.out]; omega)] at this
          simp at this
      have hbig' : (4085 : Int) < (c : Int) := by omega
      go_wp2
      go_ret3
      rw [(v_no HT.out).1, (v_no HT.out).2.1, (v_no HT.out).2.2]
      exact ⟨none, 0, 0, rfl, Byt.empty _, World.grownBy.refl _ _⟩
    · have hbig' : ¬ (4085 : Int) < (c : Int) := by omega
      have HBB : Hid (Byt w (some ⟨b, off + 7, none⟩) c (cap - 7) (rD zs)) := by
        have := (HB.out.drop 7 (cap - 7) (by omega)).take c (cap - 7) (by omega) (fun e => by cases e)
        unfold rD
        rw [if_pos (by rw [← HC.out]; omega), ← HC.out]
        exact this
      go_wp2_with fail
      refine (refBytes_any _ c (cap - 7) (rD zs) _ HBB.out (by omega)).mono ?_
      rintro en w1 ⟨rfl, ho1, hg1, _⟩
      have D1 := hid_intro (Byt.of_owns ho1)
      have B1 := hid_intro (HB.out.keptN hg1)
      have G1 := hid_intro hg1
      have hk := (Byt.of_owns ho1).len
      clear ho1 hg1 HB HBB
      go_wp2_with fail
      refine (refEncodeData_any (x : Int) _ c c (rD zs) _ D1.out (by omega)).mono ?_
      rintro en w4 ⟨so, m, sc, rfl, hb4, hg4⟩
      have B4 := hid_intro (B1.out.keptN hg4)
      have G4 := hid_intro (grown_trans G1.out hg4)
      have D4 := hid_intro (D1.out.keptN hg4)
      have S4 := hid_intro hb4
      obtain ⟨er, her⟩ : ∃ er, er = eD (x : Int) c := ⟨_, rfl⟩
      rw [← her]
      rw [← hk] at her
      have HER := hid_intro her
      clear hg4 G1 B1 D1 hb4 her hk
      by_cases hq : oD (x : Int) (rD zs) = zs
      · have HQ := hid_intro hq
        clear hq
        go_wp2_with fail
        refine (same_yes so _ m 4092 sc cap _ _ _ S4.out B4.out HQ.out).mono ?_
        rintro en w5 ⟨rfl, rfl⟩
        by_cases he : er = 0
        · subst he
          have HT : Hid (dD zs = true) := HIF.out.2 ⟨by rw [← HX.out]; exact HER.out.symm, by rw [← HX.out]; exact HQ.out⟩
          go_wp2
          go_ret3
          rw [(v_yes HT.out).1, (v_yes HT.out).2.1, (v_yes HT.out).2.2, ← HX.out]
          exact ⟨_, _, _, rfl, D4.out, G4.out⟩
        · have HT : Hid (dD zs = false) := by
            cases hh : dD zs with
            | false => rfl
            | true => exact absurd (by rw [HER.out, HX.out]; exact (HIF.out.1 hh).1) he
          have he2 : (er == 0) = false := by simp [he]
          have he3 : (er != 0) = true := by simp [he]
          go_wp2
          go_ret3
          rw [(v_no HT.out).1, (v_no HT.out).2.1, (v_no HT.out).2.2]
          exact ⟨none, 0, 0, rfl, Byt.empty _, G4.out⟩
      · have HT : Hid (dD zs = false) := by
          cases hh : dD zs with
          | false => rfl
          | true => exact absurd (by rw [HX.out]; exact (HIF.out.1 hh).2) hq
        have HQ := hid_intro hq
        clear hq
        go_wp2_with fail
        refine (same_no so _ m 4092 sc cap _ _ _ S4.out B4.out (oD_bt HRB.out) hbt HQ.out).mono ?_
        rintro en w5 ⟨rfl, rfl⟩
        by_cases he : er = 0
        · subst he
          go_wp2
          go_ret3
          rw [(v_no HT.out).1, (v_no HT.out).2.1, (v_no HT.out).2.2]
          exact ⟨none, 0, 0, rfl, Byt.empty _, G4.out⟩
        · have he2 : (er == 0) = false := by simp [he]
          have he3 : (er != 0) = true := by simp [he]
          go_wp2
          go_ret3
          rw [(v_no HT.out).1, (v_no HT.out).2.1, (v_no HT.out).2.2]
          exact ⟨none, 0, 0, rfl, Byt.empty _, G4.out⟩
  · have HT : Hid (dD zs = false) := by show _ = _; simp [dD, hl, h0]
    have h0' : ¬ (n : Int) = 4092 := by omega
    clear hb
    go_enter Try.func22, Try.ntmps22
    go_wp2
    go_ret3
    rw [(v_no HT.out).1, (v_no HT.out).2.1, (v_no HT.out).2.2]
    exact ⟨none, 0, 0, rfl, Byt.empty _, World.grownBy.refl _ _⟩
end Go.Proofs.Ytmdljegaggjnhaa
