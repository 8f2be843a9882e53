import Derived.Test.YtioleabkbkmggaaDoorDuD
namespace Go.Proofs.YtioleabkbkmggaaDoor
open Go.RowKit

set_option maxHeartbeats 400000 in
set_option maxRecDepth 100000 in
theorem num20 (n : Int) (w : World) : Calls Tryd.prog 15 #[.int .i64 n] w fun en w' => en = .returned (.int .i64 n) ∧ w' = w := by
  go_enter Tryd.func15, Tryd.ntmps15
  go_wp2
  go_ret
  exact ⟨rfl, rfl⟩
theorem same20 (ao bo : Option Addr) (n m c d : Nat) (za zb : List Int) (w : World) (ha : Byt w ao n c za) (hb : Byt w bo m d zb) (ba : Bt za) (bb : Bt zb) :
    Calls Tryd.prog 14 #[.slice ao n c, .slice bo m d] w fun en w' => en = .returned (.bool (decide (za = zb))) ∧ w' = w := by
  by_cases e : za = zb
  · rw [decide_eq_true e]; exact same_yes ao bo n m c d za zb w ha hb e
  · rw [decide_eq_false e]; exact same_no ao bo n m c d za zb w ha hb ba bb e
set_option maxHeartbeats 1000000 in
set_option maxRecDepth 100000 in
theorem samePair20 (a1 b1 a2 b2 : Option Addr) (n1 m1 n2 m2 c1 d1 c2 d2 : Nat) (k1 v1 k2 v2 : List Int) (w : World) (h1 : Byt w a1 n1 c1 k1) (h2 : Byt w b1 m1 d1 v1) (h3 : Byt w a2 n2 c2 k2) (h4 : Byt w b2 m2 d2 v2) (t1 : Bt k1) (t2 : Bt v1) (t3 : Bt k2) (t4 : Bt v2) :
    Calls Tryd.prog 42 #[.agg #[.slice a1 n1 c1, .slice b1 m1 d1], .agg #[.slice a2 n2 c2, .slice b2 m2 d2]] w fun en w' => en = .returned (.bool (decide (k1 = k2) && decide (v1 = v2))) ∧ w.grownBy w' none := by
  have ga := World.grownBy_alloc w (.cells #[.slice a1 n1 c1, .slice b1 m1 d1] 44) none
  have gb := grown_trans ga (World.grownBy_alloc (w.alloc (.cells #[.slice a1 n1 c1, .slice b1 m1 d1] 44)) (.cells #[.slice a2 n2 c2, .slice b2 m2 d2] 44) none)
  have HG := hid_intro gb
  have HC1 := hid_intro (same20 a1 a2 n1 n2 c1 c2 k1 k2 _ (h1.keptN gb) (h3.keptN gb) t1 t3)
  have HC2 := hid_intro (same20 b1 b2 m1 m2 d1 d2 v1 v2 _ (h2.keptN gb) (h4.keptN gb) t2 t4)
  clear h1 h2 h3 h4 ga gb t1 t2 t3 t4
  generalize decide (k1 = k2) = f1 at *
  generalize decide (v1 = v2) = f2 at *
  cases f1
  all_goals
    go_enter Tryd.func42, Tryd.ntmps42
    go_wp2_with fail
    refine HC1.out.mono ?_
    rintro en w2 ⟨rfl, hw2⟩
    subst hw2
    go_wp2_with fail
    refine HC2.out.mono ?_
    rintro en w3 ⟨rfl, hw3⟩
    subst hw3
    go_wp2
    go_ret
    exact ⟨rfl, HG.out⟩
/-- How long two lists are the same. -/
theorem same_drop {l m : List Pq} {i : Nat} {p q : Pq} (hp : l[i]? = some p) (hq : m[i]? = some q) (hl : l.length = m.length) (h : l.take i = m.take i) : (l = m ↔ p = q ∧ l.drop (i + 1) = m.drop (i + 1)) := by
  obtain ⟨h1, e1⟩ := List.getElem?_eq_some_iff.1 hp
  obtain ⟨h2, e2⟩ := List.getElem?_eq_some_iff.1 hq
  constructor
  · intro e
    subst e
    rw [hp] at hq
    exact ⟨Option.some.inj hq, rfl⟩
  · rintro ⟨e3, e4⟩
    have a := List.take_append_drop i l
    have b := List.take_append_drop i m
    rw [List.drop_eq_getElem_cons h1, e1] at a
    rw [List.drop_eq_getElem_cons h2, e2] at b
    rw [← a, ← b, h, e3, e4]
set_option maxHeartbeats 4000000 in
set_option maxRecDepth 100000 in
theorem samePairs20 (a b : Option Addr) (n m c d : Nat) (l k : List Pq) (w : World) (hl : Pm w a l) (hk : Pm w b k) (hn : l.length = n) (hm : k.length = m) (h0 : n ≤ 2000000000) (h1 : m ≤ 2000000000) :
    Calls Tryd.prog 27 #[.slice a n c, .slice b m d] w fun en w' => en = .returned (.bool (decide (l = k))) ∧ w.grownBy w' none := by
  have HL := hid_intro hl
  have HK := hid_intro hk
  have HN := hid_intro hn
  have HM := hid_intro hm
  clear hl hk hn hm
  by_cases hne : n = m
  · subst hne
    have g0 : ((n : Int) == (n : Int)) = true := by simp
    go_enter Tryd.func27, Tryd.ntmps27
    go_wp2
    go_loopw [5, 6] (fun si _ wr => ∃ i : Nat, i ≤ n ∧ si = .int .i64 (i : Nat) ∧ w.grownBy wr none ∧ l.take i = k.take i) (fun si _ _ => n - (intOf si).toNat)
    case atStart => exact ⟨0, Nat.zero_le _, rfl, World.grownBy.refl _ _, rfl⟩
    case round =>
      obtain ⟨i, hi, rfl, hg, htk⟩ := hrel
      have HG := hid_intro hg
      have HTK := hid_intro htk
      clear hg htk
      by_cases hlt : i < n
      · obtain ⟨p, hp⟩ : ∃ p, l[i]? = some p := ⟨_, List.getElem?_eq_getElem (by have := HN.out; omega)⟩
        obtain ⟨q, hq⟩ : ∃ q, k[i]? = some q := ⟨_, List.getElem?_eq_getElem (by have := HM.out; omega)⟩
        have HSD := hid_intro (same_drop hp hq (HN.out.trans HM.out.symm) HTK.out)
        have HTS : Hid (p = q → l.take (i + 1) = k.take (i + 1)) := fun e => by
          obtain ⟨h1, e1⟩ := List.getElem?_eq_some_iff.1 hp
          obtain ⟨h2, e2⟩ := List.getElem?_eq_some_iff.1 hq
          rw [List.take_succ_eq_append_getElem h1, List.take_succ_eq_append_getElem h2, HTK.out, e1, e2, e]
        obtain ⟨b1, off1, ao1, c1, bo1, d1, rfl, q1, q2, q3, q4, q5, q6⟩ := HL.out.el i p hp
        obtain ⟨b2, off2, ao2, c2, bo2, d2, rfl, r1, r2, r3, r4, r5, r6⟩ := HK.out.el i q hq
        obtain ⟨k1, v1⟩ := p
        obtain ⟨k2, v2⟩ := q
        simp only at q1 q2 q3 q4 q5 q6 r1 r2 r3 r4 r5 r6
        have HSP : Hid (∀ W : World, W.heap = wr.heap → Calls Tryd.prog 42 #[.agg #[.slice ao1 k1.length c1, .slice bo1 v1.length d1], .agg #[.slice ao2 k2.length c2, .slice bo2 v2.length d2]] W fun en w' => en = .returned (.bool (decide (k1 = k2) && decide (v1 = v2))) ∧ W.grownBy w' none) := fun W hW => samePair20 ao1 bo1 ao2 bo2 _ _ _ _ c1 d1 c2 d2 k1 v1 k2 v2 W ((q3.keptN HG.out).heap hW) ((q5.keptN HG.out).heap hW) ((r3.keptN HG.out).heap hW) ((r5.keptN HG.out).heap hW) q4 q6 r4 r6
        have x1 := HG.out.cell q1 (by simp)
        have x2 := HG.out.cell q2 (by simp)
        have y1 := HG.out.cell r1 (by simp)
        have y2 := HG.out.cell r2 (by simp)
        have HPQ : Hid ((k1, v1) = (k2, v2) ↔ (decide (k1 = k2) && decide (v1 = v2)) = true) := by
          show _ ↔ _
          simp
        clear q1 q2 q3 q4 q5 q6 r1 r2 r3 r4 r5 r6 hp hq
        generalize k1.length = n1 at *
        generalize v1.length = m1 at *
        generalize k2.length = n2 at *
        generalize v2.length = m2 at *
        generalize (decide (k1 = k2) && decide (v1 = v2)) = f at *
        have g1 : (0 : Int) ≤ (i : Int) := by omega
        have g2 : (i : Int) < (n : Int) := by omega
        go_upto_region 6 with fail
        go_region_with ((go_at_call 42; refine (HSP.out wr.drew rfl).mono ?_; rintro en w3 ⟨rfl, hg3⟩; have G3 := hid_intro (grown_trans HG.out (grown_undrew hg3)); clear hg3))
        all_goals
          cases f with
          | false =>
            have HF : Hid (decide (l = k) = false) := decide_eq_false (fun e => by have := HPQ.out.1 (HSD.out.1 e).1; cases this)
            go_wp2
            go_ret
            exact ⟨by rw [HF.out]; rfl, G3.out⟩
          | true =>
            go_wp2
            go_roundw
            case rel => exact ⟨i + 1, by omega, by go_num, G3.out, HTS.out (HPQ.out.2 rfl)⟩
            case measure => simp [intOf]; omega
      · obtain rfl : i = n := by omega
        have HE : Hid (decide (l = k) = true) := decide_eq_true (by
          have := HTK.out
          rw [List.take_of_length_le (by rw [HN.out]; exact Nat.le_refl _), List.take_of_length_le (by rw [HM.out]; exact Nat.le_refl _)] at this
          exact this)
        go_wp2
        go_ret
        exact ⟨by rw [HE.out]; rfl, HG.out⟩
  · have HF : Hid (decide (l = k) = false) := decide_eq_false (fun e => by subst e; exact hne (HN.out.symm.trans HM.out))
    have g0 : ((n : Int) == (m : Int)) = false := by rw [beq_eq_false_iff_ne]; omega
    have g1 : (n == m) = false := by rw [beq_eq_false_iff_ne]; exact hne
    go_enter Tryd.func27, Tryd.ntmps27
    go_wp2
    go_ret
    exact ⟨by rw [HF.out]; rfl, World.grownBy.refl _ _⟩
/-! ### The chapter's examples -/
def exl : List Pq := [([97], [1]), ([98], [])]
theorem dec2 : Lib.decDigits 2 = [50] := by rw [dec_small (by decide)]; rfl
theorem ex_txt : txt exl = [99, 111, 112, 112, 105, 99, 101, 32, 50, 10, 54, 49, 32, 48, 49, 10, 54, 50, 32, 45, 10] := by
  have hj : jdg [] exl = 0 := by decide
  unfold txt
  rw [if_pos hj]
  show (ttl ++ Lib.decDigits 2) ++ 10 :: exl.flatMap lne = _
  rw [dec2]; decide
theorem ex_jdg : jdg [] exl = 0 := by decide
theorem ex_prs : prs [99, 111, 112, 112, 105, 99, 101, 32, 50, 10, 54, 49, 32, 48, 49, 10, 54, 50, 32, 45, 10] = .ok exl := by
  have h := prs_tx (l := exl) ex_jdg (by intro p hp; simp [exl] at hp; rcases hp with rfl | rfl <;> exact ⟨by intro z hz; simp at hz; omega, by intro z hz; simp at hz; try omega⟩) (by decide)
  have e : tx exl = txt exl := by unfold txt; rw [if_pos ex_jdg]
  rw [e, ex_txt] at h
  exact h
theorem ex_bad : prs [99, 111, 112, 112, 105, 99, 101, 32, 49, 10, 54, 49, 32, 32, 48, 49, 10] = .error (2, 200) := by
  have h1 : cutC 10 [99, 111, 112, 112, 105, 99, 101, 32, 49, 10, 54, 49, 32, 32, 48, 49, 10] = some ([99, 111, 112, 112, 105, 99, 101, 32, 49], [54, 49, 32, 32, 48, 49, 10]) := by decide
  have h2 : cnt [99, 111, 112, 112, 105, 99, 101, 32, 49] = some 1 := by decide
  have h3 : pls 1 [] [54, 49, 32, 32, 48, 49, 10] 2 = .error (2, 200) := by
    have h4 : cutC 10 [54, 49, 32, 32, 48, 49, 10] = some ([54, 49, 32, 32, 48, 49], []) := by decide
    have h5 : cutC 32 [54, 49, 32, 32, 48, 49] = some ([54, 49], [32, 48, 49]) := by decide
    simp only [pls, h4, pp, h5]
    rw [if_pos (by decide)]
  unfold prs
  rw [h1]
  simp only
  rw [h2]
  exact h3
theorem ex_u1 : uh [48, 65] = none := by decide
theorem ex_u2 : uh [48, 48, 102, 102] = some [0, 255] := by decide
theorem ex_h : hx [10] = [48, 97] := by decide
end Go.Proofs.YtioleabkbkmggaaDoor
