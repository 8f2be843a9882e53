import Derived.Test.YtmdljegaggjnhaaChR1
namespace Go.Proofs.Ytmdljegaggjnhaa
open Go.RowKit

/-- What the reference's loop knows ahead of number i: those before it are in range and rise. -/
def gd (xs : List Int) (i : Nat) : Prop := ∀ j, j < i → inR (xs.getD j 0) = true ∧ (0 < j → xs.getD (j - 1) 0 < xs.getD j 0)
theorem inR_lo {x : Int} (h : x < 2) : inR x = false := by unfold inR; rw [decide_eq_false (by omega)]; rfl
theorem inR_hi {x : Int} (h : 524286 < x) : inR x = false := by unfold inR; rw [decide_eq_false (p := x ≤ 524286) (by omega), Bool.and_false]
theorem inR_in {x : Int} (h1 : ¬ x < 2) (h2 : ¬ 524286 < x) : inR x = true := inR_iff.2 ⟨by omega, by omega⟩
theorem gd_all {xs : List Int} (h : gd xs xs.length) : xs.all inR = true ∧ ris xs = true := by
  refine ⟨List.all_eq_true.2 fun x hx => ?_, ris_true fun j hj => ?_⟩
  · obtain ⟨j, hj, rfl⟩ := List.getElem_of_mem hx
    have := (h j hj).1
    simpa [List.getD, List.getElem?_eq_getElem hj] using this
  · exact (h (j + 1) hj).2 (by omega)
theorem gd_next {xs : List Int} {i : Nat} (h : gd xs i) (h1 : inR (xs.getD i 0) = true) (h2 : 0 < i → xs.getD (i - 1) 0 < xs.getD i 0) : gd xs (i + 1) := by
  intro j hj
  by_cases e : j = i
  · subst e; exact ⟨h1, h2⟩
  · exact h j (by omega)

set_option maxHeartbeats 2000000 in
set_option maxRecDepth 100000 in
theorem refEncodeList_any (x : Int) (ao : Option Addr) (n cap : Nat) (xs : List Int) (w : World) (hb : Nt w ao xs) (hl : xs.length = n) (hn : n ≤ 9223372036854775806) :
    Calls Try.prog 20 #[.int .i64 x, .slice ao n cap] w fun en w' => ∃ bo m c, en = .returned (.tuple #[.slice bo m c, .int .i64 (eL x xs)]) ∧ Byt w' bo m c (oL x xs) ∧ w.grownBy w' none := by
  have HB := hid_intro hb
  clear hb
  cases hk : nOk x with
  | false =>
    have e : Hid (eL x xs = 51) := by show _ = _; unfold eL; rw [if_pos hk]
    have e2 : Hid (oL x xs = []) := oL_no (by rw [e.out]; decide)
    clear hl
    go_enter Try.func20, Try.ntmps20
    go_wp2_with fail
    refine (refKid_any x _).mono ?_
    rintro en w ⟨rfl, rfl⟩
    rw [hk]
    go_wp2
    go_ret2
    rw [e.out, e2.out]
    exact ⟨none, 0, 0, rfl, Byt.empty _, World.grownBy.refl _ _⟩
  | true =>
    have HBD : Hid (badL x xs = (cnt x n 1021 || (!(xs.all inR) || !(ris xs)))) := by show _ = _; rw [← hl]; rfl
    have EB : Hid (badL x xs = true → eL x xs = 63) := fun h => by unfold eL; rw [if_neg (by rw [hk]; decide), if_pos h]
    have EO : Hid (badL x xs = true → oL x xs = []) := fun h => oL_no (by rw [EB.out h]; decide)
    cases hc : cnt x n 1021 with
    | true =>
      have e : Hid (eL x xs = 63) := EB.out (by rw [HBD.out, hc]; rfl)
      have e2 : Hid (oL x xs = []) := EO.out (by rw [HBD.out, hc]; rfl)
      simp only [cnt, Bool.or_eq_true, decide_eq_true_eq, Bool.and_eq_true] at hc
      by_cases h2 : 1021 < n
      · have h2' : (1021 : Int) < (n : Int) := by omega
        clear hc hl HBD EB EO
        go_enter Try.func20, Try.ntmps20
        go_wp2_with fail
        refine (refKid_any x _).mono ?_
        rintro en w ⟨rfl, rfl⟩
        rw [hk]
        go_wp2
        go_ret2
        rw [e.out, e2.out]
        exact ⟨none, 0, 0, rfl, Byt.empty _, World.grownBy.refl _ _⟩
      · have h3 : x ≠ 0 := by omega
        have h3a : (x != 0) = true := by simp [h3]
        have h3b : (x == 0) = false := by simp [h3]
        have h2' : ¬ (1021 : Int) < (n : Int) := by omega
        have h4' : ((n : Int) != 1021) = true := by simp; omega
        have h4b : ((n : Int) == 1021) = false := by simp; omega
        clear hc hl HBD EB EO
        go_enter Try.func20, Try.ntmps20
        go_wp2_with fail
        refine (refKid_any x _).mono ?_
        rintro en w ⟨rfl, rfl⟩
        rw [hk]
        go_wp2
        go_ret2
        rw [e.out, e2.out]
        exact ⟨none, 0, 0, rfl, Byt.empty _, World.grownBy.refl _ _⟩
    | false =>
      have hm : n ≤ 1021 := by simp only [cnt, Bool.or_eq_false_iff, decide_eq_false_iff_not] at hc; omega
      have hx1021 : x = 0 ∨ n = 1021 := by
        simp only [cnt, Bool.or_eq_false_iff, decide_eq_false_iff_not, Bool.and_eq_false_iff, Decidable.not_not] at hc
        omega
      have h2' : ¬ (1021 : Int) < (n : Int) := by omega
      have HBAD : Hid (xs.all inR = false ∨ ris xs = false → badL x xs = true) := by
        rintro (h | h)
        · rw [HBD.out, hc, h]; rfl
        · rw [HBD.out, hc, h]; simp
      have HGOOD : Hid (gd xs n → eL x xs = 0) := fun h => by
        rw [← hl] at h
        have := gd_all h
        unfold eL
        rw [if_neg (by rw [hk]; decide), if_neg (by rw [HBD.out, hc, this.1, this.2]; decide)]
      clear HBD hc
      have hdec : ((x == 0) = true ∧ (x != 0) = false) ∨ ((x == 0) = false ∧ (x != 0) = true ∧ ((n : Int) == 1021) = true ∧ ((n : Int) != 1021) = false) := by
        by_cases h3 : x = 0
        · left; simp [h3]
        · right; have : n = 1021 := by omega
          simp [h3, this]
      clear hx1021
      obtain ⟨y, hy, hy2⟩ := nOk_nat hk
      have HY := hid_intro hy
      clear hy
      rcases hdec with ⟨f1, f2⟩ | ⟨f1, f2, f3, f4⟩
      all_goals
        go_enter Try.func20, Try.ntmps20
        go_wp2_with fail
        refine (refKid_any x _).mono ?_
        rintro en w ⟨rfl, rfl⟩
        rw [hk]
        go_wp2
        go_loopw [7, 8] (fun out si wr => ∃ i : Nat, i ≤ n ∧ si = .int .i64 i ∧ wr.ownsRow w.heap.size 5 1 out (4 * i) ((fl (xs.take i)).map (Value.int .u8)) ∧ gd xs i ∧ w.grownBy wr none) (fun _ si _ => n - (intOf si).toNat)
        case atStart => exact ⟨0, Nat.zero_le _, rfl, World.ownsRow_nil _ _ _ _, fun j hj => by omega, World.grownBy.refl _ _⟩
        case round =>
          obtain ⟨i, hi, rfl, ho, hgd, hg⟩ := hrel
          have O1 := hid_intro ho
          have GD := hid_intro hgd
          have G1 := hid_intro hg
          clear hgd hg
          by_cases hlt : i < n
          · obtain ⟨b, off, rfl, c0⟩ := (HB.out.keptN G1.out).row i (by omega)
            obtain ⟨sb, sc, hv0, _⟩ := owns_any ho
            subst hv0
            clear ho
            have HN0 := hid_intro (nall_no (xs := xs) (i := i) (by omega))
            have HNX := hid_intro (gd_next GD.out)
            have HTK := hid_intro (ntake (xs := xs) (i := i) (by omega))
            by_cases h1 : xs.getD i 0 < 2
            · have hbad := HBAD.out (.inl (HN0.out (inR_lo h1)))
              have E1 := hid_intro (EB.out hbad)
              have E2 := hid_intro (EO.out hbad)
              clear hbad HN0 HNX HTK
              generalize xs.getD i 0 = v at *
              have d1 : decide (v < 2) = true := decide_eq_true h1
              go_wp2
              go_quiet (fail)
              go_wp2
              go_ret2
              rw [E1.out, E2.out]
              exact ⟨none, 0, 0, rfl, Byt.empty _, grown_trans G1.out ((Qt.drewN _ _).grown none)⟩
            · by_cases h2 : 524286 < xs.getD i 0
              · have hbad := HBAD.out (.inl (HN0.out (inR_hi h2)))
                have E1 := hid_intro (EB.out hbad)
                have E2 := hid_intro (EO.out hbad)
                clear hbad HN0 HNX HTK
                generalize xs.getD i 0 = v at *
                have d1 : decide (v < 2) = false := decide_eq_false h1
                have d2 : decide (524286 < v) = true := decide_eq_true h2
                go_wp2
                go_quiet (fail)
                go_wp2
                go_ret2
                rw [E1.out, E2.out]
                exact ⟨none, 0, 0, rfl, Byt.empty _, grown_trans G1.out ((Qt.drewN _ _).grown none)⟩
              · have HIN := hid_intro (inR_in h1 h2)
                obtain ⟨vn, hvn⟩ : ∃ vn : Nat, xs.getD i 0 = (vn : Int) := ⟨(xs.getD i 0).toNat, by omega⟩
                have HVN := hid_intro hvn
                clear hvn
                have d1 : decide (xs.getD i 0 < 2) = false := decide_eq_false h1
                have d2 : decide (524286 < xs.getD i 0) = false := decide_eq_false h2
                by_cases h3 : 0 < i
                · obtain ⟨u, hu⟩ : ∃ u, u = xs.getD (i - 1) 0 := ⟨_, rfl⟩
                  have q1 := (HB.out.keptN G1.out).at (i - 1) (by omega)
                  rw [← hu] at q1
                  have d3 : decide ((0 : Int) < (i : Int)) = true := decide_eq_true (by omega)
                  have d3' : decide (0 < i) = true := decide_eq_true h3
                  have ix : (i : Int) - 1 = ((i - 1 : Nat) : Int) := by omega
                  by_cases h4 : xs.getD i 0 ≤ u
                  · have hbad := HBAD.out (.inr (ris_false (j := i - 1) (by omega) (by rw [show i - 1 + 1 = i by omega, ← hu]; omega)))
                    have E1 := hid_intro (EB.out hbad)
                    have E2 := hid_intro (EO.out hbad)
                    clear hbad HN0 HNX HTK HIN HVN hu
                    generalize xs.getD i 0 = v at *
                    have d4 : decide (v ≤ u) = true := decide_eq_true h4
                    go_wp2
                    go_quiet (fail)
                    go_wp2
                    go_ret2
                    rw [E1.out, E2.out]
                    exact ⟨none, 0, 0, rfl, Byt.empty _, grown_trans G1.out ((Qt.drewN _ _).grown none)⟩
                  · have NX := hid_intro (HNX.out HIN.out (fun _ => by rw [← hu]; omega))
                    clear HN0 HNX HIN hu
                    generalize xs.getD i 0 = v at *
                    have d4 : decide (v ≤ u) = false := decide_eq_false h4
                    go_wp2
                    go_quiet (fail)
                    go_wp2_with fail
                    refine (number_at _ vn 4 _ HVN.out (by omega)).mono ?_
                    rintro en w2 ⟨a2, c2, rfl, hb2, hg2⟩
                    have GD2 := hid_intro (grown_trans ((Qt.drewN _ _).grown none) hg2)
                    have O2 := hid_intro (own_keptN O1.out GD2.out)
                    have G2 := hid_intro (grown_trans G1.out GD2.out)
                    have B2 := hid_intro hb2
                    clear hb2 hg2 O1 G1
                    go_wp2_with (at_builtin; refine wpList_append_byt rfl _ _ rfl w.heap.size _ (4 * i) (fl (xs.take i)) rfl O2.out a2 4 c2 (lb 4 vn) rfl B2.out (by omega) G2.out.size ?_)
                    intro v3 w3 h3 g3
                    have G3 := hid_intro (grown_own6 G2.out g3 O2.out (Nat.le_refl _))
                    have h3' : w3.ownsRow w.heap.size 5 1 v3 (4 * (i + 1)) ((fl (xs.take (i + 1))).map (Value.int .u8)) := by
                      rw [HTK.out, fl_app, fl_cons, fl_nil, List.append_nil, HVN.out, Int.toNat_natCast, List.map_append]
                      exact h3
                    have O3 := hid_intro h3'
                    obtain ⟨ao3, c3, hv3, _⟩ := owns_any h3'
                    subst hv3
                    clear h3 h3' g3 O2 G2 B2
                    go_wp2
                    go_roundw
                    case rel => exact ⟨i + 1, by omega, by go_num, O3.out, NX.out, G3.out⟩
                    case measure => simp [intOf]; omega
                · have NX := hid_intro (HNX.out HIN.out (fun h => absurd h h3))
                  clear HN0 HNX HIN
                  have d3 : decide ((0 : Int) < (i : Int)) = false := decide_eq_false (by omega)
                  have d3' : decide (0 < i) = false := decide_eq_false h3
                  generalize xs.getD i 0 = v at *
                  go_wp2
                  go_quiet (fail)
                  go_wp2_with fail
                  refine (number_at _ vn 4 _ HVN.out (by omega)).mono ?_
                  rintro en w2 ⟨a2, c2, rfl, hb2, hg2⟩
                  have GD2 := hid_intro (grown_trans ((Qt.drewN _ _).grown none) hg2)
                  have O2 := hid_intro (own_keptN O1.out GD2.out)
                  have G2 := hid_intro (grown_trans G1.out GD2.out)
                  have B2 := hid_intro hb2
                  clear hb2 hg2 O1 G1
                  go_wp2_with (at_builtin; refine wpList_append_byt rfl _ _ rfl w.heap.size _ (4 * i) (fl (xs.take i)) rfl O2.out a2 4 c2 (lb 4 vn) rfl B2.out (by omega) G2.out.size ?_)
                  intro v3 w3 h3 g3
                  have G3 := hid_intro (grown_own6 G2.out g3 O2.out (Nat.le_refl _))
                  have h3' : w3.ownsRow w.heap.size 5 1 v3 (4 * (i + 1)) ((fl (xs.take (i + 1))).map (Value.int .u8)) := by
                    rw [HTK.out, fl_app, fl_cons, fl_nil, List.append_nil, HVN.out, Int.toNat_natCast, List.map_append]
                    exact h3
                  have O3 := hid_intro h3'
                  obtain ⟨ao3, c3, hv3, _⟩ := owns_any h3'
                  subst hv3
                  clear h3 h3' g3 O2 G2 B2
                  go_wp2
                  go_roundw
                  case rel => exact ⟨i + 1, by omega, by go_num, O3.out, NX.out, G3.out⟩
                  case measure => simp [intOf]; omega
          · have hin : i = n := by omega
            obtain ⟨sb, sc, hv0, hB⟩ := owns_any ho
            subst hv0
            clear ho O1
            subst hin
            have E1 := hid_intro (HGOOD.out GD.out)
            have hB' : Byt wr sb (4 * i) sc (fl xs) := by
              have := hB
              rw [← hl, List.take_length] at this
              rw [← hl]
              exact this
            have B1 := hid_intro hB'
            have E2 : Hid (oL x xs = hd 4 y i ++ (fl xs ++ List.replicate (4085 - 4 * i) 0)) := by
              show _ = _
              rw [oL_yes E1.out, HY.out, Int.toNat_natCast]
              unfold lB
              rw [hl]
            clear hB hB' HGOOD EB EO HBAD
            go_wp2_with fail
            refine (body_at x 4 y i sb (4 * i) sc (fl xs) _ HY.out B1.out (by omega) (by omega)).mono ?_
            rintro en w2 ⟨bo, c, rfl, hb2, hg2⟩
            have B2 := hid_intro hb2
            have G2 := hid_intro (grown_trans G1.out hg2)
            clear hb2 hg2
            go_wp2
            go_ret2
            rw [E1.out, E2.out]
            exact ⟨_, _, _, rfl, B2.out, G2.out⟩
end Go.Proofs.Ytmdljegaggjnhaa
