import Derived.Test.YtomknmboapgmbaaBrX3
namespace Go.Proofs.Ytomknmboapgmbaa
open Go.RowKit

theorem bw_51 {lv : Int} {L : List (List Int)} {K : List Kd} (h : ¬ (lv < 1 ∨ 15 < lv ∨ K.length ≠ L.length + 1)) (h1 : K.any wk = true) : bwrong lv L K = 51 := by
  unfold bwrong; rw [if_neg h, h1]; rfl
theorem bw_41 {lv : Int} {L : List (List Int)} {K : List Kd} (h : ¬ (lv < 1 ∨ 15 < lv ∨ K.length ≠ L.length + 1)) (h1 : K.any wk = false) (h2 : L.any wsep = true) : bwrong lv L K = 41 := by
  unfold bwrong; rw [if_neg h, h1, h2]; rfl
theorem bw_30 {lv : Int} {L : List (List Int)} {K : List Kd} (h : ¬ (lv < 1 ∨ 15 < lv ∨ K.length ≠ L.length + 1)) (h1 : K.any wk = false) (h2 : L.any wsep = false) (h3 : bups L = false) : bwrong lv L K = 30 := by
  unfold bwrong; rw [if_neg h, h1, h2, h3]; rfl
theorem bw_42 {lv : Int} {L : List (List Int)} {K : List Kd} (h : ¬ (lv < 1 ∨ 15 < lv ∨ K.length ≠ L.length + 1)) (h1 : K.any wk = false) (h2 : L.any wsep = false) (h3 : bups L = true) (h4 : 4092 < bsize L) : bwrong lv L K = 42 := by
  unfold bwrong; rw [if_neg h, h1, h2, h3]; simp [h4]
theorem bw_0 {lv : Int} {L : List (List Int)} {K : List Kd} (h : ¬ (lv < 1 ∨ 15 < lv ∨ K.length ≠ L.length + 1)) (h1 : K.any wk = false) (h2 : L.any wsep = false) (h3 : bups L = true) (h4 : ¬ 4092 < bsize L) : bwrong lv L K = 0 := by
  unfold bwrong; rw [if_neg h, h1, h2, h3]; simp [h4]
theorem bad_enc {lv : Int} {L : List (List Int)} {K : List Kd} {e : Int} (h : bwrong lv L K = e) (he : e ≠ 0) : Benc lv L K [] e := ⟨fun _ => ⟨h.symm, rfl⟩, fun h => absurd h he⟩
theorem any_no {T : Type} {P : T → Bool} {K : List T} (h : ∀ k ∈ K, P k = false) : K.any P = false := by
  rw [List.any_eq_false]; intro x hx; rw [h x hx]; simp

/-- What the reference's Encode leaves. -/
structure EncOut (lv : Int) (L : List (List Int)) (K : List Kd) (w : World) (en : Ending) (w' : World) : Prop where
  out : ∃ ao j c e zs, en = .returned (.tuple #[.slice ao j c, .int .i64 e]) ∧ Byt w' ao j c zs ∧ Benc lv L K zs e ∧ j ≤ 4092 ∧ j ≤ c ∧ c ≤ 4092
  gr : w.grownBy w' none

set_option maxHeartbeats 4000000 in
set_option maxRecDepth 100000 in
theorem refEncode5_any (lv : Int) (a : Option Addr) (n cap : Nat) (L : List (List Int)) (b : Option Addr) (m cap2 : Nat) (K : List Kd) (w : World) (hl : Lz w a L) (hb : Lb L) (hn : L.length = n) (hm : n ≤ 5000) (hk : Kl w b K) (hkn : K.length = m) (hkm : m ≤ 5000) :
    Calls Try.prog 20 #[.int .i64 lv, .slice a n cap, .slice b m cap2] w fun en w' => EncOut lv L K w en w' := by
  have HL := hid_intro hl
  have HK := hid_intro hk
  have HB := hid_intro hb
  clear hl hk hb
  by_cases h0 : lv < 1 ∨ 15 < lv ∨ m ≠ n + 1
  · have HE : Hid (Benc lv L K [] 50) := bad_enc (by unfold bwrong; rw [hkn, hn, if_pos h0]) (by decide)
    by_cases h1 : lv < 1
    · go_enter Try.func20, Try.ntmps20
      go_wp2
      go_ret2
      exact ⟨⟨none, 0, 0, 50, [], rfl, Byt.empty _, HE.out, by omega, by omega, by omega⟩, World.grownBy.refl _ _⟩
    · by_cases h2 : 15 < lv
      · go_enter Try.func20, Try.ntmps20
        go_wp2
        go_ret2
        exact ⟨⟨none, 0, 0, 50, [], rfl, Byt.empty _, HE.out, by omega, by omega, by omega⟩, World.grownBy.refl _ _⟩
      · by_cases h3 : m = 0
        · have h3' : (m : Int) = 0 := by omega
          go_enter Try.func20, Try.ntmps20
          go_wp2
          go_ret2
          exact ⟨⟨none, 0, 0, 50, [], rfl, Byt.empty _, HE.out, by omega, by omega, by omega⟩, World.grownBy.refl _ _⟩
        · have h4 : ¬ (m : Int) = (n : Int) + 1 := by omega
          have h4' : ((m : Int) != (n : Int) + 1) = true := bne_iff_ne.2 h4
          have h3' : ¬ (m : Int) = 0 := by omega
          clear h0
          go_enter Try.func20, Try.ntmps20
          go_wp2
          go_ret2
          exact ⟨⟨none, 0, 0, 50, [], rfl, Byt.empty _, HE.out, by omega, by omega, by omega⟩, World.grownBy.refl _ _⟩
  · have h1 : ¬ lv < 1 := fun h => h0 (.inl h)
    have h2 : ¬ 15 < lv := fun h => h0 (.inr (.inl h))
    have h3 : m = n + 1 := by omega
    have H0 : Hid (¬ (lv < 1 ∨ 15 < lv ∨ K.length ≠ L.length + 1)) := by rw [hkn, hn]; exact h0
    clear h0
    subst h3
    have g9 : ¬ ((n : Int) + 1 = 0) := by omega
    go_enter Try.func20, Try.ntmps20
    go_wp2
    go_loopw [8] (fun si wr => ∃ i : Nat, i ≤ n + 1 ∧ si = .int .i64 i ∧ (∀ j, j < i → wk (K.getD j kd0) = false) ∧ w.grownBy wr none) (fun si _ => n + 1 - (intOf si).toNat)
    case atStart => exact ⟨0, Nat.zero_le _, rfl, fun j hj => by omega, World.grownBy.refl _ _⟩
    case round =>
      obtain ⟨i, hi, rfl, ha, hg⟩ := hrel
      have HA := hid_intro ha
      have HG := hid_intro hg
      clear ha hg
      by_cases hlt : i < n + 1
      · obtain ⟨b1, off, rfl, q2, q3⟩ := HK.out.row i (by omega)
        have c0 := HG.out.cell q2 (by simp)
        have c1 := HG.out.cell q3 (by simp)
        have HX : Hid (wk (K.getD i kd0) = false → ∀ j, j < i + 1 → wk (K.getD j kd0) = false) := by
          intro h j hj
          by_cases e : j = i
          · subst e; exact h
          · exact HA.out j (by omega)
        have HM : Hid (wk (K.getD i kd0) = true → bwrong lv L K = 51) := fun h => bw_51 H0.out (List.any_eq_true.2 ⟨_, kget_mem (show i < K.length by omega), h⟩)
        have HC := hid_intro (fun (W : World) => refKid_any (K.getD i kd0).no (K.getD i kd0).keys W)
        have HE : Hid (wk ⟨(K.getD i kd0).no, (K.getD i kd0).keys⟩ = wk (K.getD i kd0)) := rfl
        rw [HE.out] at HC
        clear HE HA q2 q3
        generalize (K.getD i kd0).no = no at *
        generalize (K.getD i kd0).keys = ks at *
        generalize wk (K.getD i kd0) = bb at *
        have g1 : (i : Int) < (n : Int) + 1 := by omega
        go_wp2_with fail
        refine (HC.out _).mono ?_
        rintro en w2 ⟨rfl, hg2⟩
        have HG2 := hid_intro (grown_trans HG.out hg2)
        clear hg2 HG c0 c1
        cases bb with
        | true =>
          have HE : Hid (Benc lv L K [] 51) := bad_enc (HM.out rfl) (by decide)
          clear HX HM
          go_wp2
          go_ret2
          exact ⟨⟨none, 0, 0, 51, [], rfl, Byt.empty _, HE.out, by omega, by omega, by omega⟩, HG2.out⟩
        | false =>
          have HX1 := hid_intro (HX.out rfl)
          clear HX HM
          go_wp2
          go_roundw
          case rel => exact ⟨i + 1, by omega, by go_num, HX1.out, HG2.out⟩
          case measure => simp [intOf]; omega
      · have hin : i = n + 1 := by omega
        subst hin
        have HKA : Hid (∀ k ∈ K, wk k = false) := kids_all (fun j hj => HA.out j (by omega))
        have HKN : Hid (K.any wk = false) := any_no HKA.out
        clear HA
        go_wp2
        go_loopw [9] (fun si wr' => ∃ i : Nat, i ≤ n ∧ si = .int .i64 i ∧ (∀ j, j < i → wsep (L.getD j []) = false) ∧ w.grownBy wr' none) (fun si _ => n - (intOf si).toNat)
        case atStart => exact ⟨0, Nat.zero_le _, rfl, fun j hj => by omega, HG.out⟩
        case round =>
          obtain ⟨i, hi, rfl, ha, hg⟩ := hrel
          have HA := hid_intro ha
          have HG1 := hid_intro hg
          clear ha hg HG
          by_cases hlt : i < n
          · obtain ⟨b1, off, ao, k, c, rfl, q2, q3, q4, q5⟩ := HL.out.row i (by omega)
            have hk := q3.len
            have c0 := HG1.out.cell q2 (by simp)
            have HM : Hid (wsep (L.getD i []) = true → bwrong lv L K = 41) := fun h => bw_41 H0.out HKN.out (List.any_eq_true.2 ⟨_, lget_mem (show i < L.length by omega), h⟩)
            have HX : Hid (wsep (L.getD i []) = false → ∀ j, j < i + 1 → wsep (L.getD j []) = false) := by
              intro h j hj
              by_cases e : j = i
              · subst e; exact h
              · exact HA.out j (by omega)
            have HE : Hid (wsep (L.getD i []) = !(decide (1 ≤ k) && decide (k ≤ 255))) := by show _ = _; unfold wsep; rw [hk]
            rw [HE.out] at HM HX
            have g1 : (i : Int) < (n : Int) := by omega
            clear HE hk q2 q3
            by_cases e1 : k < 1
            · have HE : Hid (Benc lv L K [] 41) := bad_enc (HM.out (by simp; omega)) (by decide)
              have e1' : (k : Int) < 1 := by omega
              clear HX HM
              go_wp2
              go_ret2
              exact ⟨⟨none, 0, 0, 41, [], rfl, Byt.empty _, HE.out, by omega, by omega, by omega⟩, HG1.out⟩
            · by_cases e2 : 255 < k
              · have HE : Hid (Benc lv L K [] 41) := bad_enc (HM.out (by simp; omega)) (by decide)
                have e2' : (255 : Int) < (k : Int) := by omega
                clear HX HM
                go_wp2
                go_ret2
                exact ⟨⟨none, 0, 0, 41, [], rfl, Byt.empty _, HE.out, by omega, by omega, by omega⟩, HG1.out⟩
              · have HX1 := hid_intro (HX.out (by simp; omega))
                have hd1 : decide ((k : Int) < 1) = false := decide_eq_false (by omega)
                have hd2 : decide ((255 : Int) < (k : Int)) = false := decide_eq_false (by omega)
                have hd3 : ¬ (k : Int) < 1 := by omega
                have hd4 : ¬ (255 : Int) < (k : Int) := by omega
                clear HX HM e1 e2
                go_wp2
                go_roundw
                case rel => exact ⟨i + 1, by omega, by go_num, HX1.out, HG1.out⟩
                case measure => simp [intOf]; omega
          · have hin : i = n := by omega
            subst hin
            have HSA : Hid (∀ s ∈ L, wsep s = false) := seps_all (fun j hj => HA.out j (by omega))
            have HSN : Hid (L.any wsep = false) := any_no HSA.out
            clear HA
            go_wp2
            go_loopw [10] (fun si wr' => ∃ q : Nat, q ≤ i ∧ si = .int .i64 ((q + 1 : Nat) : Int) ∧ (∀ j, j < q → j + 1 < i → cmpZ (L.getD j []) (L.getD (j + 1) []) < 0) ∧ w.grownBy wr' none) (fun si _ => i + 1 - (intOf si).toNat)
            case atStart => exact ⟨0, Nat.zero_le _, rfl, fun j hj => by omega, HG1.out⟩
            case round =>
              obtain ⟨q, hq1, rfl, ha, hg⟩ := hrel
              have HA := hid_intro ha
              have HG2 := hid_intro hg
              clear ha hg HG1
              by_cases hlt : q + 1 < i
              · obtain ⟨b1, off, ao, k, c, rfl, q2, q3, q4, q5⟩ := HL.out.row q (by omega)
                obtain ⟨b2, off2, ao2, k2, c2, e9, r2, r3, r4, r5⟩ := HL.out.row (q + 1) (by omega)
                simp only [Option.some.injEq, Addr.mk.injEq] at e9
                obtain ⟨rfl, rfl, _⟩ := e9
                have c0 := HG2.out.cell q2 (by simp)
                have c1 := HG2.out.cell r2 (by simp)
                have HC := hid_intro (fun (W : World) (hW : W.heap = wr.heap) => less_any ao ao2 k k2 c c2 _ _ W ((q3.keptN HG2.out).heap hW) ((r3.keptN HG2.out).heap hW) (HB.out _ (lget_mem (show q < L.length by omega))) (HB.out _ (lget_mem (show q + 1 < L.length by omega))))
                have HD : Hid (cmpZ (L.getD q []) (L.getD (q + 1) []) < 0 → ∀ j, j < q + 1 → j + 1 < i → cmpZ (L.getD j []) (L.getD (j + 1) []) < 0) := by
                  intro h j hj hj2
                  by_cases e : j = q
                  · subst e; exact h
                  · exact HA.out j (by omega) hj2
                have HE : Hid (¬ cmpZ (L.getD q []) (L.getD (q + 1) []) < 0 → bwrong lv L K = 30) := fun h => bw_30 H0.out HKN.out HSN.out (by
                  cases hu : bups L with
                  | false => rfl
                  | true => exact absurd ((bups_iff L).1 hu q (by omega)) h)
                clear q2 q3 r2 r3
                generalize cmpZ (L.getD q []) (L.getD (q + 1) []) = z at *
                have g1 : ((q + 1 : Nat) : Int) < (i : Int) := by omega
                have g0 : (0 : Int) ≤ ((q + 1 : Nat) : Int) := by omega
                have g2 : ((q + 1 : Nat) : Int) - 1 = (q : Int) := by omega
                have g3 : (q : Int) < (i : Int) := by omega
                have g4 : (0 : Int) ≤ (q : Int) := by omega
                obtain ⟨j, hj⟩ : ∃ j, q + 1 = j := ⟨_, rfl⟩
                rw [hj] at g1 g0 g2 c1 ⊢
                have HJ := hid_intro hj
                clear hj
                by_cases hz : z < 0
                · have hz' : decide (z < 0) = true := decide_eq_true hz
                  have HD1 := hid_intro (HD.out hz)
                  rw [hz'] at HC
                  clear HD HE
                  go_wp2
                  go_quiet ((go_at_call 40; exact Calls.quiet_of_same (HC.out _ rfl)))
                  go_wp2
                  go_roundw
                  case rel => exact ⟨q + 1, by omega, by have := HJ.out; go_num, HD1.out, grown_trans HG2.out ((Qt.drewN _ _).grown none)⟩
                  case measure => have := HJ.out; simp [intOf]; omega
                · have hz' : decide (z < 0) = false := decide_eq_false hz
                  have HEE : Hid (Benc lv L K [] 30) := bad_enc (HE.out hz) (by decide)
                  rw [hz'] at HC
                  clear HD HE
                  go_wp2
                  go_quiet ((go_at_call 40; exact Calls.quiet_of_same (HC.out _ rfl)))
                  go_wp2
                  go_ret2
                  exact ⟨⟨none, 0, 0, 30, [], rfl, Byt.empty _, HEE.out, by omega, by omega, by omega⟩, grown_trans HG2.out ((Qt.drewN _ _).grown none)⟩
              · have g1 : ¬ ((q + 1 : Nat) : Int) < (i : Int) := by omega
                have HUP : Hid (bups L = true) := (bups_iff L).2 (fun j hj => HA.out j (by omega) (by omega))
                obtain ⟨j, hj⟩ : ∃ j, q + 1 = j := ⟨_, rfl⟩
                rw [hj] at g1 ⊢
                clear hj
                go_wp2_with fail
                refine (refSize5_any a i cap L _ (HL.out.keptN HG2.out) hn hm (fun x hx => by have := (wsep_parts (HSA.out x hx)).2; omega)).mono ?_
                rintro en w9 ⟨rfl, hq9⟩
                have G9 := hid_intro (grown_trans HG2.out (hq9.grown none))
                clear hq9 HG2
                by_cases hs : 4092 < bsize L
                · have HEE : Hid (Benc lv L K [] 42) := bad_enc (bw_42 H0.out HKN.out HSN.out HUP.out hs) (by decide)
                  generalize bsize L = sz at *
                  have hs1 : (4092 : Int) < (sz : Int) := by omega
                  go_wp2
                  go_ret2
                  exact ⟨⟨none, 0, 0, 42, [], rfl, Byt.empty _, HEE.out, by omega, by omega, by omega⟩, G9.out⟩
                · have hw := bw_0 H0.out HKN.out HSN.out HUP.out hs
                  have hf := bwrong_fit.1 hw
                  obtain ⟨k, M, rfl, rfl⟩ := split_fit hf
                  obtain ⟨l, rfl⟩ : ∃ l : Nat, lv = (l : Int) := ⟨lv.toNat, by omega⟩
                  rw [seps_len] at hn
                  have HLY := hid_intro (fun (W : World) (q1 : Lz W a (seps M)) (q2 : Kl W b (kids k M)) => refLay5_any l a i cap b cap2 k M W q1 q2 hn hf)
                  have HEE : Hid (Benc (l : Int) (seps M) (kids k M) (bbody (l : Int) k M) 0) := ⟨fun h => absurd rfl h, fun _ => ⟨k, M, rfl, rfl, hw, rfl⟩⟩
                  have HBL := hid_intro (bbody_len (lv := (l : Int)) (k := k) hf.size)
                  clear hw hf
                  generalize bbody (l : Int) k M = B at *
                  generalize bsize (seps M) = sz at *
                  have hs1 : ¬ (4092 : Int) < (sz : Int) := by omega
                  go_wp2_with fail
                  refine (HLY.out _ (HL.out.keptN G9.out) (HK.out.keptN G9.out)).mono ?_
                  rintro en w10 ⟨G, rfl, hr10, hg10⟩
                  have R10 := hid_intro hr10
                  have G10 := hid_intro (grown_trans G9.out hg10)
                  clear hr10 hg10
                  go_wp2
                  go_ret2
                  exact ⟨⟨_, 4092, 4092, 0, B, rfl, R10.out.all 4092 4092 HBL.out.symm, HEE.out, Nat.le_refl _, Nat.le_refl _, Nat.le_refl _⟩, G10.out⟩
end Go.Proofs.Ytomknmboapgmbaa
