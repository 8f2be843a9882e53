import Derived.Test.YtomknmboapgmbaaBrY
namespace Go.Proofs.Ytomknmboapgmbaa
open Go.RowKit

theorem bcells_app (p : Nat) : ∀ (A B : List Sk), bcells p (A ++ B) = bcells p A ++ bcells p B
  | [], B => rfl
  | x :: A, B => by rw [List.cons_append, bcells, bcells, bcells_app p A B, List.append_assoc]
theorem bused_last (lv : Int) (k : Kd) (M : List Sk) : ∃ X, bused lv k M = X ++ lb 4 ((kids k M).getD M.length kd0).keys.toNat := by
  rcases List.eq_nil_or_concat M with rfl | ⟨M', x, rfl⟩
  · refine ⟨bhead lv [] ++ lb 4 k.no.toNat, ?_⟩
    unfold bused kb
    simp only [bslots, bcells, List.nil_append, List.append_nil, List.append_assoc]
    rfl
  · have e : (kids k (M' ++ [x])).getD (M' ++ [x]).length kd0 = x.kid := by
      have : (M' ++ [x]).length = M'.length + 1 := by simp
      rw [this, kids_get]
      simp [List.getD]
    rw [List.concat_eq_append, e]
    unfold bused
    rw [bcells_app]
    refine ⟨bhead lv (M' ++ [x]) ++ (bslots (bpre (seps (M' ++ [x]))) (bkst lv (M' ++ [x]) + 8) (M' ++ [x]) ++ (kb k ++ (bcells (bpre (seps (M' ++ [x]))) M' ++ (vform (x.sep.length - bpre (seps (M' ++ [x]))) ++ (x.sep.drop (bpre (seps (M' ++ [x]))) ++ lb 4 x.kid.no.toNat))))), ?_⟩
    simp only [bcells, bcb, kb, List.append_nil, List.append_assoc]
theorem body_last (lv : Int) (k : Kd) (M : List Sk) : (bbody lv k M).getD (bsize (seps M) - 1) 0 = ((((kids k M).getD M.length kd0).keys.toNat / 16777216 % 256 : Nat) : Int) := by
  obtain ⟨X, hX⟩ := bused_last lv k M
  have hl := bused_len lv k M
  have hx : X.length + 4 = bsize (seps M) := by rw [← hl, hX, List.length_append, lb_len]
  generalize ((kids k M).getD M.length kd0).keys.toNat = y at *
  unfold bbody
  rw [hX, ← hx, List.append_assoc]
  have e : X.length + 4 - 1 = X.length + 3 := by omega
  rw [e]
  unfold List.getD
  rw [List.getElem?_append_right (by omega), Nat.add_sub_cancel_left]
  rw [List.getElem?_append_left (by rw [lb_len]; omega)]
  have e2 : y / 16777216 % 256 = y / 256 / 256 / 256 % 256 := by rw [Nat.div_div_eq_div_mul, Nat.div_div_eq_div_mul]
  rw [e2]
  rfl
theorem body_zero (lv : Int) (k : Kd) (M : List Sk) (i : Nat) (h : bsize (seps M) ≤ i) : (bbody lv k M).getD i 0 = 0 := by
  unfold bbody List.getD
  rw [List.getElem?_append_right (by rw [bused_len]; exact h)]
  generalize i - (bused lv k M).length = j
  rw [List.getElem?_replicate]
  split <;> rfl

set_option maxHeartbeats 4000000 in
set_option maxRecDepth 100000 in
theorem branchBack_walk (lv : Int) (a : Option Addr) (n cap : Nat) (L : List (List Int)) (b : Option Addr) (m cap2 : Nat) (K : List Kd) (w : World) (_hlv : (Lit.int .i64 lv).wf = true) (hl : Lz w a L) (hlb : Lb L) (hn : L.length = n) (hnc : n ≤ cap) (hcm : cap ≤ 9223372036854775807) (hk : Kl w b K) (_hkb : Kb K) (hm : K.length = m) (_hmc : m ≤ cap2) (_hcm2 : cap2 ≤ 9223372036854775807) :
    Calls Try.prog 7 #[.int .i64 lv, .slice a n cap, .slice b m cap2] w fun en w' => en = .returned (.bool true) ∧ w.grownBy w' none := by
  have HL := hid_intro hl
  have HK := hid_intro hk
  clear hl hk
  go_enter Try.func7, Try.ntmps7
  go_wp2_with fail
  refine (first5_any _).mono ?_
  rintro en w1 ⟨rfl, hg1⟩
  have G1 := hid_intro hg1
  clear hg1
  go_wp2_with fail
  refine (few_any a n cap L b m cap2 _ (HL.out.keptN G1.out) hn).mono ?_
  rintro en w1 ⟨rfl, rfl⟩
  cases hfw : fw L m with
  | false =>
    clear hfw
    go_wp2
    go_ret
    exact ⟨rfl, G1.out⟩
  | true =>
    have hp := fw_parts hfw
    have HLN : Hid (∀ x ∈ L, x.length ≤ 4096) := hp.2.2
    have hn2 : n ≤ 2000 := by omega
    have hm2 : m ≤ 2000 := hp.2.1
    clear hfw hp
    by_cases hw : bwrong lv L K = 0
    · have hf := bwrong_fit.1 hw
      obtain ⟨k, M, rfl, rfl⟩ := split_fit hf
      have hl1 := hf.l1
      obtain ⟨l, rfl⟩ : ∃ l : Nat, lv = (l : Int) := ⟨lv.toNat, by omega⟩
      rw [seps_len] at hn
      rw [kids_len, hn] at hm
      subst hm
      have hmy : n ≤ 400 := by have := (bmany_le hf.sep hf.size).1; omega
      have HW := hid_intro hw
      have HGD : Hid (BGood (bbody (l : Int) k M) (l : Int) k M) := ⟨hw, rfl⟩
      have HBL := hid_intro (bbody_len (lv := (l : Int)) (k := k) hf.size)
      have HBT := hid_intro (bbody_bt (lv := (l : Int)) (k := k) hlb)
      have HLAST := hid_intro (body_last (l : Int) k M)
      have HZERO := hid_intro (body_zero (l : Int) k M)
      have hsz := hf.size
      have hsm := bsize_min (seps M)
      have hkk := wk_parts (hf.kid _ (kget_mem (show n < (kids k M).length by rw [kids_len]; omega)))
      have HMY := hid_intro (may_any (l : Int) a n cap (seps M) b (n + 1) cap2 (kids k M))
      rw [hn] at HLAST
      rw [decide_eq_true hw] at HMY
      have HEC := hid_intro (fun (W : World) (h1 : Lz W a (seps M)) (h2 : Kl W b (kids k M)) => bencode_ok l a n cap b cap2 k M W h1 hlb h2 hn hnc hcm hw)
      clear hf hw
      generalize bbody (l : Int) k M = B at *
      go_wp2_with fail
      refine (HEC.out _ (HL.out.keptN G1.out) (HK.out.keptN G1.out)).mono ?_
      rintro en w2 ⟨G, rfl, hr2, hg2, hG⟩
      have R2 := hid_intro hr2
      have G2 := hid_intro (grown_trans G1.out hg2)
      clear hr2 hg2 hG G1 HEC
      go_wp2_with fail
      refine (HMY.out _ (HL.out.keptN G2.out) hlb (by rw [seps_len]; exact hn) (by omega) hnc hcm (HK.out.keptN G2.out) (by rw [kids_len, hn]) (by omega)).mono ?_
      rintro en w3 ⟨rfl, hg3⟩
      have R3 := hid_intro (R2.out.keptN hg3)
      have G3 := hid_intro (grown_trans G2.out hg3)
      clear hg3 R2 G2 HMY
      go_wp2_with fail
      refine (bdecode_any _ 4092 4092 B _ (R3.out.all 4092 4092 HBL.out.symm) HBT.out).mono ?_
      rintro en w4 ⟨⟨lv5, a5, n5, c5, b5, m5, d5, e5, L5, K5, rfl, hdec, hlz5, hlb5, hn5, hnc5, hcm5, hkl5, hm5, hmc5, hcd5⟩, hg4⟩
      obtain ⟨rfl, rfl, rfl, rfl⟩ : e5 = 0 ∧ lv5 = (l : Int) ∧ L5 = seps M ∧ K5 = kids k M := by
        by_cases he : e5 = 0
        · obtain ⟨_, k9, M9, h1, h2, h3⟩ := hdec.good he
          obtain ⟨e1, rfl, rfl⟩ := bgood_one h3 HGD.out
          exact ⟨he, e1, h1, h2⟩
        · exact absurd HGD.out ((hdec.bad he).2.2.2 _ _ _)
      have L4 := hid_intro hlz5
      have K4 := hid_intro hkl5
      have R4 := hid_intro (R3.out.keptN hg4)
      have G4 := hid_intro (grown_trans G3.out hg4)
      clear hlz5 hkl5 hg4 hdec R3 G3 HGD HBT
      go_wp2_with fail
      refine (sameLists_any a5 n5 c5 (seps M) a n cap (seps M) _ L4.out hlb hn5 (HL.out.keptN G4.out) hlb (by rw [seps_len]; exact hn) (by omega)).mono ?_
      rintro en w5 ⟨⟨b8, rfl, hb8⟩, hq8⟩
      obtain rfl : b8 = true := hb8.2 rfl
      have K5 := hid_intro (K4.out.heap hq8.heap)
      have R5 := hid_intro (R4.out.keptN (hq8.grown none))
      have G5 := hid_intro (grown_trans G4.out (hq8.grown none))
      clear hb8 hq8 L4 K4 R4 G4
      go_wp2_with fail
      refine (sameKids_any b5 m5 d5 (kids k M) b (n + 1) cap2 (kids k M) _ K5.out hm5 (HK.out.keptN G5.out) (by rw [kids_len, hn]) (by omega)).mono ?_
      rintro en w6 ⟨⟨b9, rfl, hb9⟩, hq9⟩
      obtain rfl : b9 = true := hb9.2 rfl
      have R6 := hid_intro (R5.out.keptN (hq9.grown none))
      have G6 := hid_intro (grown_trans G5.out (hq9.grown none))
      clear hb9 hq9 K5 R5 G5
      go_wp2_with fail
      refine (num5_any _ _).mono ?_
      rintro en w6 ⟨rfl, rfl⟩
      go_wp2_with fail
      refine (num5_any _ _).mono ?_
      rintro en w6 ⟨rfl, rfl⟩
      go_wp2_with fail
      refine (bsize_any a n cap (seps M) _ (HL.out.keptN G6.out) (by rw [seps_len]; exact hn) (by omega) hnc hcm (fun x hx => by have := HLN.out x hx; omega)).mono ?_
      rintro en w7 ⟨rfl, hg7⟩
      have R7 := hid_intro (R6.out.keptN hg7)
      have G7 := hid_intro (grown_trans G6.out hg7)
      clear hg7 R6 G6
      generalize bsize (seps M) = sz at *
      obtain ⟨b1, o1, rfl, q2, q3⟩ := HK.out.row n (by rw [kids_len]; omega)
      have c3 := G7.out.cell q3 (by simp)
      generalize ((kids k M).getD n kd0).keys = ks at *
      have c4 := R7.out.cell (sz - 1) (by rw [HBL.out]; omega)
      rw [HLAST.out] at c4
      clear q2 q3
      obtain ⟨j, hj⟩ : ∃ j, sz - 1 = j := ⟨_, rfl⟩
      rw [hj] at c4
      have hd0 : decide ((sz : Int) < 13) = false := decide_eq_false (by omega)
      have g1 : (sz : Int) - 1 = (j : Int) := by omega
      have g2 : (0 : Int) ≤ (j : Int) := by omega
      have g3 : (j : Int) < 4092 := by omega
      have g4 : (n : Int) + 1 - 1 = (n : Int) := by omega
      have g5 : (n : Int) < (n : Int) + 1 := by omega
      have g6 : (0 : Int) ≤ (n : Int) := by omega
      obtain ⟨kn, hkn⟩ : ∃ kn : Nat, ks = (kn : Int) := ⟨ks.toNat, by omega⟩
      subst hkn
      clear hj
      go_wp2_with fail
      go_quiet (fail)
      go_wp2
      go_loopw [17] (fun si wr => ∃ i : Nat, sz ≤ i ∧ i ≤ 4092 ∧ si = .int .i64 i ∧ Qt w7 wr) (fun si _ => 4092 - (intOf si).toNat)
      case atStart => exact ⟨sz, Nat.le_refl _, hsz, rfl, Qt.drewN _ _⟩
      case round =>
        obtain ⟨i, hi1, hi2, rfl, hq⟩ := hrel
        have HQ := hid_intro hq
        clear hq c4
        by_cases hlt : i < 4092
        · have c5 := (HQ.out.cell _).trans (R7.out.cell i (by rw [HBL.out]; omega))
          rw [HZERO.out i hi1] at c5
          have g7 : (i : Int) < 4092 := by omega
          go_wp2
          go_roundw
          case rel => exact ⟨i + 1, by omega, by omega, by go_num, HQ.out⟩
          case measure => simp [intOf]; omega
        · have hin : i = 4092 := by omega
          subst hin
          go_wp2
          go_ret
          exact ⟨rfl, grown_trans G7.out (HQ.out.grown none)⟩
    · have HMY := hid_intro (may_any lv a n cap L b m cap2 K)
      rw [decide_eq_false hw] at HMY
      have HEC := hid_intro (fun (W : World) (h1 : Lz W a L) (h2 : Kl W b K) => bencode_wrong lv a n cap L b m cap2 K W h1 hlb hn (by omega) hnc hcm h2 hm (by omega) hw)
      generalize bwrong lv L K = e at *
      go_wp2_with fail
      refine (HEC.out _ (HL.out.keptN G1.out) (HK.out.keptN G1.out)).mono ?_
      rintro en w2 ⟨rfl, hg2⟩
      have G2 := hid_intro (grown_trans G1.out hg2)
      clear hg2 G1 HEC
      go_wp2_with fail
      refine (HMY.out _ (HL.out.keptN G2.out) hlb hn (by omega) hnc hcm (HK.out.keptN G2.out) hm (by omega)).mono ?_
      rintro en w3 ⟨rfl, hg3⟩
      have G3 := hid_intro (grown_trans G2.out hg3)
      clear hg3 G2 HMY
      go_wp2_with fail
      refine (num5_any _ _).mono ?_
      rintro en w3 ⟨rfl, rfl⟩
      have hwb : (e != 0) = true := bne_iff_ne.2 hw
      go_wp2
      go_ret
      exact ⟨by show Ending.returned (Value.bool _) = _; first | rfl | (simp [hw]), G3.out⟩
end Go.Proofs.Ytomknmboapgmbaa
