import Derived.Test.YtioleabkbkmggaaDoorDuJ
namespace Go.Proofs.YtioleabkbkmggaaDoor
open Go.RowKit

theorem tx_len20 {l : List Pq} (hn : l.length ≤ 2000) (hj : jdg [] l = 0) : (tx l).length ≤ 2000000000 := by
  rw [← txi_all]
  have := txi_len (by omega) (jdg_small hj) l.length (Nat.le_refl _)
  omega
theorem tx_many {l : List Pq} (hb : BtP l) : l.length + 1 ≤ (tx l).length := by
  have := count_tx hb
  have := List.count_le_length (a := (10 : UInt8)) (l := tx l)
  omega
theorem txt_ok {l : List Pq} (h : jdg [] l = 0) : txt l = tx l := by unfold txt; rw [if_pos h]
theorem tstr_inj {a b : List UInt8} (h : tstr a = tstr b) : a = b := by
  have := congrArg (fun s : ByteArray => s.data.toList) h
  exact this
theorem str_eq20 (a b : List UInt8) : ((tstr a).toList == (tstr b).toList) = decide (a = b) := by
  have e1 : (tstr a).toList = a := by rw [ByteArray.toList_eq]; rfl
  have e2 : (tstr b).toList = b := by rw [ByteArray.toList_eq]; rfl
  rw [e1, e2, Bool.eq_iff_iff]; simp
set_option maxHeartbeats 16000000 in
set_option maxRecDepth 100000 in
theorem dumpBack_walk (a b : Option Addr) (n m c d : Nat) (l k : List Pq) (T : List UInt8) (w : World) (hl : Pm w a l) (hk : Pm w b k) (hn : l.length = n) (hm : k.length = m) (ht : Tzd w) :
    Calls Tryd.prog 7 #[.slice a n c, .slice b m d, .string (tstr T)] w fun en w' => en = .returned (.bool true) ∧ w.grownBy w' none := by
  have HF := hid_intro (first20 w ht)
  have HL := hid_intro hl
  have HK := hid_intro hk
  have HN := hid_intro hn
  have HM := hid_intro hm
  have HT := hid_intro ht
  have HBL := hid_intro hl.bt
  have HBK := hid_intro hk.bt
  clear hl hk hn hm ht
  go_enter Tryd.func7, Tryd.ntmps7
  go_wp2_with fail
  refine HF.out.mono ?_
  rintro en w1 ⟨rfl, hg1⟩
  have G1 := hid_intro hg1
  clear hg1 HF
  go_wp2_with fail
  refine (few20 a n c l w1 (HL.out.keptN G1.out) HN.out).mono ?_
  rintro en w2 ⟨f1, rfl, hq2, hf1⟩
  have G2 := hid_intro (grown_trans G1.out (hq2.grown none))
  have F1 := hid_intro hf1
  clear hq2 hf1 G1
  cases f1 with
  | false =>
    go_wp2
    go_ret
    exact ⟨rfl, G2.out⟩
  | true =>
    have F1' := hid_intro (F1.out rfl).1
    clear F1
    go_wp2_with fail
    refine (few20 b m d k w2 (HK.out.keptN G2.out) HM.out).mono ?_
    rintro en w3 ⟨f2, rfl, hq3, hf2⟩
    have G3 := hid_intro (grown_trans G2.out (hq3.grown none))
    have F2 := hid_intro hf2
    clear hq3 hf2 G2
    cases f2 with
    | false =>
      go_wp2
      go_ret
      exact ⟨rfl, G3.out⟩
    | true =>
      have hn2 := F1'.out
      have hm2 := (F2.out rfl).1
      clear F2 F1'
      have hsz := tstr_size T
      by_cases htl : 1048576 < T.length
      · have g1 : (1048576 : Int) < ((tstr T).size : Int) := by omega
        generalize tstr T = s at *
        go_wp2
        go_ret
        exact ⟨rfl, G3.out⟩
      · have g1 : ¬ (1048576 : Int) < ((tstr T).size : Int) := by omega
        have HPT := hid_intro (fun W => parse_any T W (by omega))
        have HTX : Hid (∀ q, prs T = .ok q → tx q = T ∧ jdg [] q = 0 ∧ q.length ≤ T.length) := fun q h => ⟨(tx_prs h).1, (tx_prs h).2.1, by have := tx_many (tx_prs h).2.2.1; rw [(tx_prs h).1] at this; omega⟩
        have HBD : Hid (∀ j e, prs T = .error (j, e) → 1 ≤ j ∧ e ≠ 0) := fun j e h => prs_bad h
        have hsame : ∀ x, ((tstr x).toList == (tstr T).toList) = decide (x = T) := fun x => str_eq20 x T
        have HSM := hid_intro hsame
        clear hsame hsz
        generalize hTs : tstr T = s at *
        clear hTs
        go_wp2_with fail
        refine (text_any a n c l w3 (HL.out.keptN G3.out) HN.out (by omega) (HT.out.keptN G3.out)).mono ?_
        rintro en w4 ⟨rfl, hg4⟩
        have G4 := hid_intro (grown_trans G3.out hg4)
        clear hg4 G3
        go_wp2_with fail
        refine (text_any b m d k w4 (HK.out.keptN G4.out) HM.out (by omega) (HT.out.keptN G4.out)).mono ?_
        rintro en w5 ⟨rfl, hg5⟩
        have G5 := hid_intro (grown_trans G4.out hg5)
        clear hg5 G4
        have HY1 := hid_intro (fun W hp => may20 a n c l W hp HN.out (by omega))
        have HY2 := hid_intro (fun W hp => may20 b m d k W hp HM.out (by omega))
        by_cases h1 : jdg [] l = 0
        · rw [decide_eq_true h1] at HY1
          rw [h1, txt_ok h1]
          have HP1 := hid_intro (fun W => parse_any (tx l) W (tx_len20 (by have := HN.out; omega) h1))
          rw [prs_tx h1 HBL.out (by have := HN.out; omega)] at HP1
          by_cases h2 : jdg [] k = 0
          · rw [decide_eq_true h2] at HY2
            rw [h2, txt_ok h2]
            have hcmp := str_eq20 (tx l) (tx k)
            have HIJ : Hid (decide (tx l = tx k) = decide (l = k)) := by
              show _ = _
              rw [Bool.eq_iff_iff]
              simp only [decide_eq_true_eq]
              exact ⟨fun e => tx_inj h1 HBL.out (by have := HN.out; omega) h2 HBK.out (by have := HM.out; omega) e, fun e => by rw [e]⟩
            rw [HIJ.out] at hcmp
            have HSP := hid_intro (fun W p1 p2 => samePairs20 a b n m c d l k W p1 p2 HN.out HM.out (by omega) (by omega))
            clear h1 h2 HIJ
            generalize tstr (tx l) = s1 at *
            generalize tstr (tx k) = s2 at *
            generalize decide (l = k) = f3 at *
            go_wp2_with (first
              | (go_at_call 15; refine (num20 _ _).mono ?_; rintro en wB ⟨rfl, hwB⟩; subst hwB)
              | (go_at_call_of 25 (Value.slice a n c); refine (HY1.out _ (HL.out.keptN G5.out)).mono ?_; rintro en w6 ⟨rfl, hq6⟩; have G6 := hid_intro (grown_trans G5.out (hq6.grown none)); clear hq6)
              | (go_at_call 25; refine (HY2.out _ (HK.out.keptN G6.out)).mono ?_; rintro en w7 ⟨rfl, hq7⟩; have G7 := hid_intro (grown_trans G6.out (hq7.grown none)); clear hq7))
            refine (HP1.out _).mono ?_
            rintro en w8 ⟨hg8, ⟨_, _, hr, _⟩ | ⟨l8, a8, c8, xs8, hr, rfl, ho8, hpw8⟩⟩
            · cases hr
            simp only [Except.ok.injEq] at hr
            subst hr
            have G8 := hid_intro (grown_trans G7.out hg8)
            have P8 := hid_intro (hpw8.pm ho8).1
            have hln := HN.out
            rw [hln]
            clear hg8 ho8 hpw8 hln HP1
            have HS1 := hid_intro (fun W p1 p2 => samePairs20 a8 a n n c8 c l l W p1 p2 HN.out HN.out (by omega) (by omega))
            rw [decide_eq_true (rfl : l = l)] at HS1
            go_wp2_with (first
              | (go_at_call 15; refine (num20 _ _).mono ?_; rintro en wB ⟨rfl, hwB⟩; subst hwB)
              | (go_at_call_of 27 (Value.slice a8 n c8); refine (HS1.out _ P8.out (HL.out.keptN G8.out)).mono ?_; rintro en w9 ⟨rfl, hg9⟩; have G9 := hid_intro (grown_trans G8.out hg9); clear hg9)
              | (go_at_call 27; refine (HSP.out _ (HL.out.keptN G9.out) (HK.out.keptN G9.out)).mono ?_; rintro en w10 ⟨rfl, hg10⟩; have G10 := hid_intro (grown_trans G9.out hg10); clear hg10; cases f3))
            all_goals
              refine (HPT.out _).mono ?_
              rintro en wA ⟨hgA, ⟨kk, ee, hr, rfl⟩ | ⟨q, qa, qc, xs, hr, rfl, hoA, hpw⟩⟩
              · have GA := hid_intro (grown_trans G10.out hgA)
                obtain ⟨hk1, he1⟩ := HBD.out kk ee hr
                have y1 : (ee == 0) = false := by rw [beq_eq_false_iff_ne]; exact he1
                have y2 : (ee != 0) = true := by simp only [bne, y1]; rfl
                have y3 : (1 : Int) ≤ (kk : Int) := by omega
                clear hgA hr he1
                go_wp2_with (go_at_call 15; refine (num20 _ _).mono ?_; rintro en wB ⟨rfl, hwB⟩; subst hwB)
                go_ret
                exact ⟨rfl, GA.out⟩
              · have GA := hid_intro (grown_trans G10.out hgA)
                obtain ⟨hx1, hx2, hx3⟩ := HTX.out q hr
                have PA := hid_intro (hpw.pm hoA).1
                have hs9 := HSM.out (tx q)
                rw [decide_eq_true hx1] at hs9
                have HQT : Hid (∀ W, Pm W qa q → Tzd W → Calls Tryd.prog 19 #[.slice qa q.length qc] W fun en w' => en = .returned (.tuple #[.string (tstr (tx q)), .int .i64 0]) ∧ W.grownBy w' none) := fun W hp htz => by
                  have := text_any qa q.length qc q W hp rfl (by omega) htz
                  rwa [txt_ok hx2, hx2] at this
                clear hgA hr hx1 hx2 hx3 hoA hpw
                generalize tstr (tx q) = s9 at *
                generalize q.length = nq at *
                go_wp2_with (first
                  | (go_at_call 15; refine (num20 _ _).mono ?_; rintro en wB ⟨rfl, hwB⟩; subst hwB)
                  | (go_at_call 19; refine (HQT.out _ PA.out (HT.out.keptN GA.out)).mono ?_; rintro en wC ⟨rfl, hgC⟩; have GC := hid_intro (grown_trans GA.out hgC); clear hgC))
                go_ret
                exact ⟨rfl, GC.out⟩
          · rw [decide_eq_false h2] at HY2
            have HE2 := hid_intro h2
            clear h1 h2
            generalize tstr (tx l) = s1 at *
            generalize tstr (txt k) = s2 at *
            generalize jdg [] k = e2 at *
            have y5 : (e2 == 0) = false := by rw [beq_eq_false_iff_ne]; exact HE2.out
            go_wp2_with (first
              | (go_at_call 15; refine (num20 _ _).mono ?_; rintro en wB ⟨rfl, hwB⟩; subst hwB)
              | (go_at_call_of 25 (Value.slice a n c); refine (HY1.out _ (HL.out.keptN G5.out)).mono ?_; rintro en w6 ⟨rfl, hq6⟩; have G6 := hid_intro (grown_trans G5.out (hq6.grown none)); clear hq6)
              | (go_at_call 25; refine (HY2.out _ (HK.out.keptN G6.out)).mono ?_; rintro en w7 ⟨rfl, hq7⟩; have G7 := hid_intro (grown_trans G6.out (hq7.grown none)); clear hq7))
            refine (HP1.out _).mono ?_
            rintro en w8 ⟨hg8, ⟨_, _, hr, _⟩ | ⟨l8, a8, c8, xs8, hr, rfl, ho8, hpw8⟩⟩
            · cases hr
            simp only [Except.ok.injEq] at hr
            subst hr
            have G8 := hid_intro (grown_trans G7.out hg8)
            have P8 := hid_intro (hpw8.pm ho8).1
            have hln := HN.out
            rw [hln]
            clear hg8 ho8 hpw8 hln HP1
            have HS1 := hid_intro (fun W p1 p2 => samePairs20 a8 a n n c8 c l l W p1 p2 HN.out HN.out (by omega) (by omega))
            rw [decide_eq_true (rfl : l = l)] at HS1
            have y6 : (e2 != 0) = true := by simp only [bne, y5]; rfl
            go_wp2_with (first
              | (go_at_call 15; refine (num20 _ _).mono ?_; rintro en wB ⟨rfl, hwB⟩; subst hwB)
              | (go_at_call_of 27 (Value.slice a8 n c8); refine (HS1.out _ P8.out (HL.out.keptN G8.out)).mono ?_; rintro en w9 ⟨rfl, hg9⟩; have G9 := hid_intro (grown_trans G8.out hg9); clear hg9))
            refine (HPT.out _).mono ?_
            rintro en wA ⟨hgA, ⟨kk, ee, hr, rfl⟩ | ⟨q, qa, qc, xs, hr, rfl, hoA, hpw⟩⟩
            · have GA := hid_intro (grown_trans G9.out hgA)
              obtain ⟨hk1, he1⟩ := HBD.out kk ee hr
              have y1 : (ee == 0) = false := by rw [beq_eq_false_iff_ne]; exact he1
              have y2 : (ee != 0) = true := by simp only [bne, y1]; rfl
              have y3 : (1 : Int) ≤ (kk : Int) := by omega
              clear hgA hr he1
              go_wp2_with (go_at_call 15; refine (num20 _ _).mono ?_; rintro en wB ⟨rfl, hwB⟩; subst hwB)
              go_ret
              exact ⟨rfl, GA.out⟩
            · have GA := hid_intro (grown_trans G9.out hgA)
              obtain ⟨hx1, hx2, hx3⟩ := HTX.out q hr
              have PA := hid_intro (hpw.pm hoA).1
              have hs9 := HSM.out (tx q)
              rw [decide_eq_true hx1] at hs9
              have HQT : Hid (∀ W, Pm W qa q → Tzd W → Calls Tryd.prog 19 #[.slice qa q.length qc] W fun en w' => en = .returned (.tuple #[.string (tstr (tx q)), .int .i64 0]) ∧ W.grownBy w' none) := fun W hp htz => by
                have := text_any qa q.length qc q W hp rfl (by omega) htz
                rwa [txt_ok hx2, hx2] at this
              clear hgA hr hx1 hx2 hx3 hoA hpw
              generalize tstr (tx q) = s9 at *
              generalize q.length = nq at *
              go_wp2_with (first
                | (go_at_call 15; refine (num20 _ _).mono ?_; rintro en wB ⟨rfl, hwB⟩; subst hwB)
                | (go_at_call 19; refine (HQT.out _ PA.out (HT.out.keptN GA.out)).mono ?_; rintro en wC ⟨rfl, hgC⟩; have GC := hid_intro (grown_trans GA.out hgC); clear hgC))
              go_ret
              exact ⟨rfl, GC.out⟩
        · rw [decide_eq_false h1] at HY1
          have HE1 := hid_intro h1
          clear h1
          generalize tstr (txt l) = s1 at *
          generalize jdg [] l = e1 at *
          have y7 : (e1 == 0) = false := by rw [beq_eq_false_iff_ne]; exact HE1.out
          have HY3 : Hid (∀ W : World, Pm W b k → Calls Tryd.prog 25 #[.slice b m d] W fun en w' => en = .returned (.bool (jdg [] k == 0)) ∧ Qt W w') := fun W hp => by
            have := HY2.out W hp
            have e : decide (jdg [] k = 0) = (jdg [] k == 0) := by rw [Bool.eq_iff_iff]; simp
            rwa [e] at this
          clear HY2
          generalize tstr (txt k) = s2 at *
          generalize hk0 : (jdg [] k == 0) = f4 at *
          generalize jdg [] k = e2 at *
          cases f4
          all_goals
            go_wp2_with (first
              | (go_at_call 15; refine (num20 _ _).mono ?_; rintro en wB ⟨rfl, hwB⟩; subst hwB)
              | (go_at_call_of 25 (Value.slice a n c); refine (HY1.out _ (HL.out.keptN G5.out)).mono ?_; rintro en w6 ⟨rfl, hq6⟩; have G6 := hid_intro (grown_trans G5.out (hq6.grown none)); clear hq6)
              | (go_at_call 25; refine (HY3.out _ (HK.out.keptN G6.out)).mono ?_; rintro en w7 ⟨rfl, hq7⟩; have G7 := hid_intro (grown_trans G6.out (hq7.grown none)); clear hq7))
            refine (HPT.out _).mono ?_
            rintro en wA ⟨hgA, ⟨kk, ee, hr, rfl⟩ | ⟨q, qa, qc, xs, hr, rfl, hoA, hpw⟩⟩
            · have GA := hid_intro (grown_trans G7.out hgA)
              obtain ⟨hk1, he1⟩ := HBD.out kk ee hr
              have y1 : (ee == 0) = false := by rw [beq_eq_false_iff_ne]; exact he1
              have y2 : (ee != 0) = true := by simp only [bne, y1]; rfl
              have y3 : (1 : Int) ≤ (kk : Int) := by omega
              clear hgA hr he1
              go_wp2_with (go_at_call 15; refine (num20 _ _).mono ?_; rintro en wB ⟨rfl, hwB⟩; subst hwB)
              go_ret
              exact ⟨rfl, GA.out⟩
            · have GA := hid_intro (grown_trans G7.out hgA)
              obtain ⟨hx1, hx2, hx3⟩ := HTX.out q hr
              have PA := hid_intro (hpw.pm hoA).1
              have hs9 := HSM.out (tx q)
              rw [decide_eq_true hx1] at hs9
              have HQT : Hid (∀ W, Pm W qa q → Tzd W → Calls Tryd.prog 19 #[.slice qa q.length qc] W fun en w' => en = .returned (.tuple #[.string (tstr (tx q)), .int .i64 0]) ∧ W.grownBy w' none) := fun W hp htz => by
                have := text_any qa q.length qc q W hp rfl (by omega) htz
                rwa [txt_ok hx2, hx2] at this
              clear hgA hr hx1 hx2 hx3 hoA hpw
              generalize tstr (tx q) = s9 at *
              generalize q.length = nq at *
              go_wp2_with (first
                | (go_at_call 15; refine (num20 _ _).mono ?_; rintro en wB ⟨rfl, hwB⟩; subst hwB)
                | (go_at_call 19; refine (HQT.out _ PA.out (HT.out.keptN GA.out)).mono ?_; rintro en wC ⟨rfl, hgC⟩; have GC := hid_intro (grown_trans GA.out hgC); clear hgC))
              go_ret
              exact ⟨rfl, GC.out⟩
theorem dumpBack_walkS (a b : Option Addr) (n m c d : Nat) (l k : List Pq) (s : ByteArray) (w : World) (hl : Pm w a l) (hk : Pm w b k) (hn : l.length = n) (hm : k.length = m) (ht : Tzd w) :
    Calls Tryd.prog 7 #[.slice a n c, .slice b m d, .string s] w fun en w' => en = .returned (.bool true) ∧ w.grownBy w' none := by
  have h := dumpBack_walk a b n m c d l k s.data.toList w hl hk hn hm ht
  rwa [tstr_mk] at h
end Go.Proofs.YtioleabkbkmggaaDoor
