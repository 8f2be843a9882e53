import Derived.Test.YtomknmboapgmbabBrK
import Derived.Deep.RegionHeld3
import Derived.Deep.DrawnRows
namespace Go.Proofs.Ytomknmboapgmbab
open Go.RowKit
attribute [local go_sem ↓] Go.wp_at_zero Go.wp_at_succ

set_option maxHeartbeats 4000000 in
set_option maxRecDepth 100000 in
theorem branchLaid_walk (a : Option Addr) (n cap : Nat) (L : List (List Int)) (ho : Option Addr) (hn' hc' : Nat) (h : List Int) (w : World) (hl : Lz w a L) (_hlb : Lb L) (hn : L.length = n) (hnc : n ≤ cap) (hcm : cap ≤ 9223372036854775807) (hh : Byt w ho hn' hc' h) (_hbt : Bt h) (_hhc : hn' ≤ hc') (_hhm : hc' ≤ 140737488351232) :
    Calls Try.prog 5 #[.slice a n cap, .slice ho hn' hc'] w fun en w' => en = .returned (.bool true) ∧ w.grownBy w' none := by
  obtain ⟨i0, hi, hz0, hz1, hz2⟩ := info_parts info_bytesS
  have hhl := hh.len
  have HL := hid_intro hl
  have HH := hid_intro hh
  clear hl hh
  go_enter Try.func5, Try.ntmps5
  go_wp2_with fail
  refine (first5_any _).mono ?_
  rintro en w1 ⟨rfl, hg1⟩
  have G1 := hid_intro hg1
  clear hg1
  go_wp2_with fail
  refine (few_any a n cap L none 0 0 _ (HL.out.keptN G1.out) hn).mono ?_
  rintro en w1 ⟨rfl, rfl⟩
  cases hfw : fw L 0 with
  | false =>
    clear hfw
    go_wp2
    go_ret
    exact ⟨rfl, G1.out⟩
  | true =>
    have hp := fw_parts hfw
    have HKL : Hid (∀ x ∈ L, x.length ≤ 4096) := hp.2.2
    have hn2 : n ≤ 2000 := by omega
    clear hfw hp
    by_cases h0 : n = 0
    · go_wp2
      go_ret
      exact ⟨rfl, G1.out⟩
    · by_cases h1k : 1000 < hn'
      · have h0' : ¬ (n : Int) = 0 := by omega
        have h1' : (1000 : Int) < (hn' : Int) := by omega
        go_wp2
        go_ret
        exact ⟨rfl, G1.out⟩
      · obtain ⟨a0, o0, f0, fn, fc, rfl, q2, q3, q4, q5⟩ := HL.out.row 0 (by omega)
        have HF := hid_intro q3
        have hfl := q3.len
        have hf2 := HKL.out _ (lget_mem (show 0 < L.length by omega))
        rw [Nat.add_zero] at q2
        have HQ0 := hid_intro q2
        have c0 := G1.out.cell q2 (by simp)
        clear q2 q3
        have HBP := hid_intro (comAll_bpre (show 0 < L.length by omega))
        generalize L.getD 0 [] = f at *
        have h0' : ¬ (n : Int) = 0 := by omega
        have h1' : ¬ (1000 : Int) < (hn' : Int) := by omega
        have g1 : ((n : Int) == 0) = false := by simp; omega
        have g2 : decide ((1000 : Int) < (hn' : Int)) = false := by simp; omega
        go_wp2
        go_loopw [6, 7, 8, 9] (fun sp sl si sk wr => ∃ (i p : Nat) (xs : List Value), i ≤ n ∧ si = .int .i64 i ∧ sp = .int .i64 p ∧ p ≤ fn ∧ p = comAll f f.length (L.take i) ∧ Sx wr xs ((L.take i).map (h ++ ·)) ∧ wr.ownsRow w.heap.size 26 1 sl i xs ∧ w.grownBy wr none) (fun _ _ si _ _ => n - (intOf si).toNat)
        case atStart => exact ⟨0, fn, [], Nat.zero_le _, rfl, rfl, Nat.le_refl _, hfl.symm, Sx.nil _, ⟨rfl, .inl ⟨rfl, rfl⟩⟩, G1.out⟩
        case round =>
          obtain ⟨i, p, xs, hi', rfl, rfl, hpf, hpc, hsx, hown, hg⟩ := hrel
          have HPC := hid_intro hpc
          have HSX := hid_intro hsx
          have HO := hid_intro hown
          have HG := hid_intro hg
          clear hpc hsx hown hg G1 c0
          by_cases hlt : i < n
          · obtain ⟨b1, off, ao, k, c, rfl2, q2, q3, q4, q5⟩ := HL.out.row i (by omega)
            simp only [Option.some.injEq, Addr.mk.injEq] at rfl2
            obtain ⟨rfl, rfl, _⟩ := rfl2
            have HQ := hid_intro q2
            have HX := hid_intro q3
            have hxl := q3.len
            have hx2 := HKL.out _ (lget_mem (show i < L.length by omega))
            have HTK := hid_intro (ltake (show i < L.length by omega))
            have c1 := HG.out.cell q2 (by simp)
            have c0 := HG.out.cell HQ0.out (by simp)
            clear q2 q3
            generalize L.getD i [] = x at *
            have hwg := HG.out.size
            go_wp2_with fail
            go_region_held3 (fun w' => w'.cell? ⟨a0, o0 + i, none⟩ = some (.slice ao k c)) (go_keep)
              ((first
                | (refine step_append_own5 rfl (.tmp 40) (.tmp 48) 22 (by rfl) w.heap.size 26 i0 (.slice none 0 0) 1 24 Try.underlying22 hi hz0 hz1 hz2 rfl (by decide) u7 i xs (by rfl) (by exact hO3.alloc _) ⟨w3.heap.size, 0, none⟩ 1 1 [.slice a3 (hn' + k) c3] (by rfl) (by rfl) (by exact cell_one_new _ _ _) (by intro u hu; simp at hu; subst hu; rfl) (by unfold maxLen; omega) (by omega) (by have := hg13.size; simp; omega) ?_; intro v4 w4 ho4 hg4; have hg04 := grown_app5 (grown_trans HG.out hg13) hO3 (Nat.le_refl _) hg4; have d4 := hg04.cell HQ.out (by simp))
                | (refine step_append_byt5 rfl (.tmp 42) (.tmp 46) (by rfl) wr.heap.size _ hn' h (by rfl) (by exact hown2') ao k c x (by rfl) (by exact HX.out.keptN HG2.out) (by omega) (by omega) ?_; intro v3 w3 ho3 hg3; have hg13 : wr.grownBy w3 none := grown_ownN HR2.out hg3 (fun g e => by have := (hown2'.lt g e).1; omega); have hO3 := own_keptN HO.out hg13; obtain ⟨a3, c3, rfl, hb3⟩ := owns_any ho3; have d3 := hg13.cell c1 (by simp))
                | (go_simp; go_at_call 10; refine (refBytes_any ho hn' hc' h _ (by exact HH.out.keptN (grown_trans HG.out ((Qt.refl _).drew.grown none))) (by omega)).mono ?_; rintro en w2 ⟨rfl, hown2, hg2, hs2⟩; have hown2' : w2.ownsRow wr.heap.size 5 1 (.slice (some ⟨wr.heap.size, 0, none⟩) hn' hn') hn' (h.map (Value.int .u8)) := hown2; have hs2' : wr.heap.size < w2.heap.size := hs2; have HR2 := hid_intro (grown_trans ((Qt.refl wr).drew.grown none) hg2); have HG2 := hid_intro (grown_trans HG.out HR2.out); have d1 := HG2.out.cell HQ.out (by simp))))
            have HS4 := hid_intro ((((HSX.out.keptN hg13).snoc ho3 (by rw [List.length_append]; omega)).keptN (World.grownBy_alloc w3 (.cells #[.slice a3 (hn' + k) c3] 26) none)).kept hg4 (hO3.alloc (.cells #[.slice a3 (hn' + k) c3] 26)))
            have HO4 := hid_intro ho4
            have HG4 := hid_intro hg04
            have e4 := hg04.cell HQ0.out (by simp)
            have HX4 := hid_intro (HX.out.keptN hg04)
            have HF4 := hid_intro (HF.out.keptN hg04)
            have HTM : Hid ((L.take i).map (h ++ ·) ++ [h ++ x] = (L.take (i + 1)).map (h ++ ·)) := by show _ = _; rw [HTK.out, List.map_append]; rfl
            have HCA : Hid (comAll f f.length (L.take (i + 1)) = min p (com f x)) := by show _ = _; rw [HTK.out, comAll_snoc5, ← HPC.out]
            rw [HTM.out] at HS4
            clear ho4 hg4 hg04 hO3 hg13 hb3 d3 d1 hown2 hown2' HR2 HG2 hs2 hs2' hg2 hg3 ho3 HSX HO HG HPC HTM HTK c1 c0 HX
            have HFIN := hid_intro (fun (W : World) (hW : Qt w4 W) => (⟨HS4.out.keptN (hW.grown none), own_keptN HO4.out (hW.grown none), grown_trans HG4.out (hW.grown none)⟩ : Sx W _ _ ∧ W.ownsRow _ _ _ _ _ _ ∧ w.grownBy W none))
            clear HS4 HO4 HG4
            go_wp2
            go_loopw [9] (fun sj wq => ∃ j : Nat, j ≤ p ∧ j ≤ k ∧ sj = .int .i64 j ∧ (∀ m, m < j → x.getD m 0 = f.getD m 0) ∧ Qt w4 wq) (fun sj _ => k - (intOf sj).toNat)
            case atStart => exact ⟨0, Nat.zero_le _, Nat.zero_le _, rfl, fun m hm => by omega, Qt.refl _⟩
            case round =>
              obtain ⟨j, hjp, hjk, rfl, hje, hq⟩ := hrel
              have HJE := hid_intro hje
              have HQ4 := hid_intro hq
              have c0 := (hq.cell _).trans e4
              have c1 := (hq.cell _).trans d4
              clear hje hq
              have p0 : (0 : Int) ≤ (i : Int) := by omega
              have p1 : (i : Int) < (n : Int) := by omega
              have p2 : (0 : Int) ≤ (j : Int) := by omega
              have p3 : (0 : Int) < (n : Int) := by omega
              by_cases hjp2 : j < p
              · have k1 : (j : Int) < (p : Int) := by omega
                by_cases hjk2 : j < k
                · have k2 : (j : Int) < (k : Int) := by omega
                  have k3 : (j : Int) < (fn : Int) := by omega
                  obtain ⟨bx, ox, rfl, _, hcx⟩ := HX4.out.at (by omega)
                  obtain ⟨bf, of, rfl, _, hcf⟩ := HF4.out.at (by omega)
                  have cx := (HQ4.out.cell _).trans (hcx j hjk2)
                  have cf := (HQ4.out.cell _).trans (hcf j (by omega))
                  clear hcx hcf
                  have HEX : Hid (x.getD j 0 = f.getD j 0 → ∀ m, m < j + 1 → x.getD m 0 = f.getD m 0) := by
                    intro e m hm
                    by_cases e2 : m = j
                    · subst e2; exact e
                    · exact HJE.out m (by omega)
                  have HEN : Hid (¬ x.getD j 0 = f.getD j 0 → min p (com f x) = j) := fun e => com_stop (by omega) hjp (by omega) HJE.out (.inr (.inr e))
                  generalize x.getD j 0 = xv at *
                  generalize f.getD j 0 = fv at *
                  by_cases he : xv = fv
                  · subst he
                    have HE1 := hid_intro (HEX.out rfl)
                    clear HEX HEN HJE
                    go_wp2
                    go_quiet (fail)
                    go_wp2
                    go_roundw
                    case rel => exact ⟨j + 1, by omega, by omega, by go_num, HE1.out, HQ4.out.trans (Qt.drewN _ _)⟩
                    case measure => simp [intOf]; omega
                  · have HE1 := hid_intro (HEN.out he)
                    have d1 : decide (xv = fv) = false := decide_eq_false he
                    have d2 : (xv == fv) = false := beq_eq_false_iff_ne.2 he
                    clear HEX HEN HJE
                    go_wp2
                    go_quiet (fail)
                    go_wp2
                    go_roundw
                    case rel => exact ⟨i + 1, j, _, by omega, by go_num, by trivial, by omega, by rw [HCA.out, HE1.out], (HFIN.out _ (HQ4.out.trans (Qt.drewN _ _))).1, (HFIN.out _ (HQ4.out.trans (Qt.drewN _ _))).2.1, (HFIN.out _ (HQ4.out.trans (Qt.drewN _ _))).2.2⟩
                    case measure => simp [intOf]; omega
                · have k2 : ¬ (j : Int) < (k : Int) := by omega
                  have HE1 : Hid (min p (com f x) = j) := com_stop (by omega) hjp (by omega) HJE.out (.inr (.inl (by omega)))
                  have d1 : decide ((j : Int) < (k : Int)) = false := decide_eq_false k2
                  go_wp2
                  go_quiet (fail)
                  go_wp2
                  go_roundw
                  case rel => exact ⟨i + 1, j, _, by omega, by go_num, by trivial, by omega, by rw [HCA.out, HE1.out], (HFIN.out _ (HQ4.out.trans (Qt.drewN _ _))).1, (HFIN.out _ (HQ4.out.trans (Qt.drewN _ _))).2.1, (HFIN.out _ (HQ4.out.trans (Qt.drewN _ _))).2.2⟩
                  case measure => simp [intOf]; omega
              · have k1 : ¬ (j : Int) < (p : Int) := by omega
                have HE1 : Hid (min p (com f x) = j) := com_stop (by omega) hjp (by omega) HJE.out (.inl (by omega))
                have d1 : decide ((j : Int) < (p : Int)) = false := decide_eq_false k1
                go_wp2
                go_quiet (fail)
                go_wp2
                go_roundw
                case rel => exact ⟨i + 1, j, _, by omega, by go_num, by trivial, by omega, by rw [HCA.out, HE1.out], (HFIN.out _ (HQ4.out.trans (Qt.drewN _ _))).1, (HFIN.out _ (HQ4.out.trans (Qt.drewN _ _))).2.1, (HFIN.out _ (HQ4.out.trans (Qt.drewN _ _))).2.2⟩
                case measure => simp [intOf]; omega
          · have hin : i = n := by omega
            subst hin
            have hLt : L.take i = L := by rw [← hn, List.take_length]
            rw [hLt] at HSX HPC
            clear hLt
            obtain ⟨a2, cap3, e1, e2, e3, e4, e5⟩ := HSX.out.lz HO.out
            subst e1
            have HM := hid_intro e2
            have hpb : p = bpre L := HPC.out.trans HBP.out
            have HSZ := hid_intro (bsize_app h L (fun e => by rw [e] at hn; simp at hn; omega))
            rw [← hpb, hhl] at HSZ
            have HKM : Hid (∀ x ∈ L.map (h ++ ·), x.length ≤ 1000000) := fun x hx => by
              obtain ⟨y, hy, rfl⟩ := List.mem_map.1 hx
              have := HKL.out y hy
              rw [List.length_append]; omega
            clear e2 HSX HO hpb HPC HBP
            obtain ⟨r, hr⟩ : ∃ r, p + hn' = r := ⟨_, rfl⟩
            rw [hr] at HSZ
            have gr : (p : Int) + (hn' : Int) = (r : Int) := by omega
            have hr2 : r ≤ 10000 := by omega
            clear hr
            have v1 := vform_le p
            have v2 := vform_le r
            go_wp2_with fail
            refine (vlen5_any r _ (by omega)).mono ?_
            rintro en w5 ⟨rfl, rfl⟩
            go_wp2_with fail
            refine (vlen5_any p _ (by omega)).mono ?_
            rintro en w5 ⟨rfl, rfl⟩
            have HSZ2 : Hid (bsize (L.map (h ++ ·)) + (vform p).length = bsize L + hn' + (vform r).length) := HSZ.out
            clear HSZ
            generalize (vform p).length = vp at *
            generalize (vform r).length = vr at *
            go_wp2_with fail
            refine (bsize_any a2 i cap3 (L.map (h ++ ·)) _ HM.out (by rw [List.length_map]; exact hn) (by omega) e4 e5 HKM.out).mono ?_
            rintro en w5 ⟨rfl, hg5⟩
            have G5 := hid_intro (grown_trans HG.out hg5)
            clear hg5 HM HG
            go_wp2_with fail
            refine (bsize_any _ i cap L _ (HL.out.keptN G5.out) hn (by omega) hnc hcm (fun x hx => by have := HKL.out x hx; omega)).mono ?_
            rintro en w6 ⟨rfl, hg6⟩
            have G6 := hid_intro (grown_trans G5.out hg6)
            clear hg6 G5
            have hbs := bsize_cap (fun x hx => HKL.out x hx) (show L.length ≤ 2000 by omega)
            generalize bsize (L.map (h ++ ·)) = s1 at *
            generalize bsize L = s2 at *
            have hz := HSZ2.out
            have q1 : ((s1 : Int) == (s2 : Int) + (hn' : Int) + ((vr : Int) - (vp : Int))) = true := by rw [beq_iff_eq]; omega
            have q2 : (s1 : Int) = (s2 : Int) + (hn' : Int) + ((vr : Int) - (vp : Int)) := by omega
            have HQ2 := hid_intro q2
            clear q2 HSZ2
            go_wp2
            go_ret
            exact ⟨by first | rfl | (rw [q1]), G6.out⟩
end Go.Proofs.Ytomknmboapgmbab
