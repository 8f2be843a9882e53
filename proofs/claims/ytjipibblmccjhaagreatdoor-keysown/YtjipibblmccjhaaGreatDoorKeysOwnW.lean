import Derived.Test.YtjipibblmccjhaaGreatDoorKeysOwnI
namespace Go.Proofs.YtjipibblmccjhaaGreatDoor
open Go.RowKit

set_option maxHeartbeats 40000000 in
set_option maxRecDepth 100000 in
theorem keysOwn_calls (lo : Option Addr) (ln lc : Nat) (w : World) (hl : Pl w lo ln) :
    Calls Tryz.prog 3 #[.slice lo ln lc] w fun e w' => e = .returned (.bool true) ∧ w.grownBy w' none := by
  have HL := hid_intro hl
  clear hl
  go_enter Tryz.func3, Tryz.ntmps3
  go_wp2_with fail
  refine (first3_pos w).mono ?_
  rintro e w1 ⟨rfl, hg1, hp1⟩
  have G1 := hid_intro hg1
  clear hg1
  by_cases h60 : 60 < ln
  · have h60' : (60 : Int) < (ln : Int) := by omega
    go_wp2
    go_ret
    exact ⟨rfl, G1.out⟩
  · have h60' : ¬ (60 : Int) < (ln : Int) := by omega
    go_wp2_with (refine wpList_build_book rfl rfl ?_)
    obtain ⟨B, hB⟩ : ∃ B, B = w1.heap.size := ⟨_, rfl⟩
    have X3 : Box (w1.alloc (.cells bookZ 39 (0, 0))) B 0 0 (.slice none 0 0) (.slice none 0 0) (.slice none 0 0) := by rw [hB]; exact box_new w1
    have G3 : w.grownBy (w1.alloc (.cells bookZ 39 (0, 0))) none := grown_trans G1.out (World.grownBy_alloc w1 _ none)
    have hs3 : (w1.alloc (.cells bookZ 39 (0, 0))).heap.size = B + 1 := by rw [size_alloc, hB]
    rw [← hB]
    generalize w1.alloc (.cells bookZ 39) = w3 at *
    have hwB : w.heap.size ≤ B := by rw [hB]; exact G1.out.size
    have hBpos : 0 < B := by omega
    have HO : Hid (Orl w B (B + 1) (4 * 0) w3 [] [] (.slice none 0 0) (.slice none 0 0)) :=
      ⟨⟨X3, ⟨rfl, _root_.Or.inl ⟨rfl, rfl⟩⟩, ⟨rfl, _root_.Or.inl ⟨rfl, rfl⟩⟩, ⟨by omega, by omega⟩, (fun i e => by cases e), (fun s hs => by simp at hs), List.Pairwise.nil, (fun k s y hk => by simp at hk)⟩, Nat.le_refl _, (fun s hs => by simp at hs), G3⟩
    obtain ⟨base, hbase⟩ : ∃ base, base = B + 1 := ⟨_, rfl⟩
    rw [← hbase] at HO
    have hwb : w.heap.size ≤ base := by omega
    clear hB X3 G3 G1 hs3 hp1 h60'
    go_loopw [5] (fun si wr => ∃ i : Nat, i ≤ ln ∧ si = .int .i64 i ∧ ∃ L ys vb vw, Orl w B base (4 * i) wr L ys vb vw) (fun si _ => ln - (intOf si).toNat)
    case atStart => exact ⟨0, by omega, rfl, _, _, _, _, HO.out⟩
    case round =>
      obtain ⟨i, hi, rfl, L, ys, vb, vw, hO⟩ := hrel
      have OO := hid_intro hO
      clear hO HO
      have p0 : (0 : Int) ≤ (i : Int) := by omega
      by_cases hlt : i < ln
      · have p1 : (i : Int) < (ln : Int) := by omega
        obtain ⟨b, off, ao, n, c, za, bo, m, d, zb0, rfl, wc1, wc2, hba, tza, hbb, tzb⟩ := HL.out.el i hlt
        have WC1 := hid_intro wc1
        have WC2 := hid_intro wc2
        have hc1 := OO.out.gr.cell wc1 (by simp)
        have hc2 := OO.out.gr.cell wc2 (by simp)
        clear wc1 wc2
        have HBA := hid_intro hba
        have HBB := hid_intro hbb
        have hza := hba.len
        have hzb := hbb.len
        clear hba hbb
        by_cases hbig : 2000 < n
        · have g1 : (2000 : Int) < (n : Int) := by omega
          go_wp2
          go_roundw
          case rel => exact ⟨i + 1, by omega, by go_num, L, ys, vb, vw, OO.out.kb, by have := OO.out.len; omega, OO.out.new, OO.out.gr⟩
          case measure => simp [intOf]; omega
        · by_cases hbig2 : 2000 < m
          · have g1 : ¬ (2000 : Int) < (n : Int) := by omega
            have g2 : (2000 : Int) < (m : Int) := by omega
            go_wp2
            go_roundw
            case rel => exact ⟨i + 1, by omega, by go_num, L, ys, vb, vw, OO.out.kb, by have := OO.out.len; omega, OO.out.new, OO.out.gr⟩
            case measure => simp [intOf]; omega
          · have g1 : ¬ (2000 : Int) < (n : Int) := by omega
            have g2 : ¬ (2000 : Int) < (m : Int) := by omega
            go_wp2_with fail
            refine (roomy_any ao n c za wr (HBA.out.keptN OO.out.gr) (by omega)).mono ?_
            rintro e wx ⟨gx, cx, rfl, hox, hgx, hgrx⟩
            have OX := hid_intro hox
            have GX := hid_intro hgrx
            have dc2 := hgrx.cell hc2 (by simp)
            have dc1 := hgrx.cell hc1 (by simp)
            have hxle := hox.le
            rw [List.length_append, marks_len] at hxle
            clear hox hgrx
            go_wp2_with fail
            refine (roomy_any bo m d zb0 wx (HBB.out.keptN (grown_trans OO.out.gr GX.out)) (by omega)).mono ?_
            rintro e wy ⟨gy, cy, rfl, hoy, hgy, hgry⟩
            have hyle := hoy.le
            rw [List.length_append, marks_len] at hyle
            have ec2 := hgry.cell dc2 (by simp)
            have ec1 := hgry.cell dc1 (by simp)
            have IS := hid_intro (Irl.start OO.out OX.out hgx GX.out hoy hgy hgry tzb hzb)
            have hbx : base ≤ gx := Nat.le_trans OO.out.kb.bB.2 hgx
            have hby : base ≤ gy := by have := GX.out.size; have := OO.out.kb.bB.2; omega
            have hxy : gx ≠ gy := by have := OX.out.lt; omega
            have hwy : w.heap.size ≤ gy := by omega
            clear hoy hgry OX GX dc1 dc2
            have p2 : (n : Int) ≤ (cx : Int) := by omega
            have p3 : (m : Int) ≤ (cy : Int) := by omega
            go_wp2
            clear ec1 ec2 hc1 hc2
            go_loopw [10] (fun sr W => ∃ r : Nat, r ≤ 2 ∧ sr = .int .i64 r ∧ ∃ zb L ys vb vw, Irl w B base (4 * i + 2 * r) gx cx gy cy m za zb W L ys vb vw) (fun sr _ => 2 - (intOf sr).toNat)
            case atStart => exact ⟨0, by omega, rfl, zb0, L, ys, vb, vw, IS.out⟩
            case round =>
              clear IS OO
              clear L ys vb vw
              obtain ⟨r, hr, rfl, zb, L, ys, vb, vw, hI⟩ := hrel
              have II := hid_intro hI
              clear hI
              have pr : (0 : Int) ≤ (r : Int) := by omega
              by_cases hr2 : r < 2
              · have pr2 : (r : Int) < 2 := by omega
                by_cases h : 0 ≤ cmpZ za zb
                · have hxl := II.out.ox.le
                  have hyl := II.out.oy.le
                  have hxm := II.out.ox.max
                  have hym := II.out.oy.max
                  have hlb := II.out.lb
                  have hbz := II.out.bt
                  rw [List.length_append, marks_len] at hxl hyl
                  have XB := hid_intro (II.out.ox.part.byt n hza.symm)
                  have YB := hid_intro (II.out.oy.part.byt m hlb.symm)
                  obtain ⟨D, hD⟩ : ∃ D, D = wr.heap.size := ⟨_, rfl⟩
                  have hgxD : gx < D := by rw [hD]; exact II.out.ox.lt
                  have hgyD : gy < D := by rw [hD]; exact II.out.oy.lt
                  have HLT : Hid (∀ t ∈ L, t.g < D) := fun t ht => by rw [hD]; exact (II.out.kb.ok t ht).2.2.2.1
                  have HFR : Hid (∀ j, D ≤ j → Free B vb vw j) := fun j hj => II.out.kb.freeN (by omega)
                  have hDb : base ≤ D := by rw [hD]; exact II.out.kb.bB.2
                  go_wp2_with fail
                  refine (sep_no _ _ n m cx cy za zb wr XB.out YB.out tza hbz h).mono ?_
                  rintro e s1 ⟨rfl, rfl⟩
                  go_wp2_with fail
                  refine (sep_no _ _ n m cx cy za zb _ XB.out YB.out tza hbz h).mono ?_
                  rintro e s2 ⟨rfl, rfl⟩
                  go_wp2_with fail
                  refine (refSep_no _ _ n m cx cy za zb _ XB.out YB.out (by omega) (by omega) h).mono ?_
                  rintro e s3 ⟨rfl, hq⟩
                  have T3 := hid_intro (hq.grown none)
                  clear hq
                  go_wp2_with fail
                  refine (same_yes _ _ 0 0 0 0 [] [] _ (Byt.empty _) (Byt.empty _) rfl).mono ?_
                  rintro e s3a ⟨rfl, rfl⟩
                  go_wp2_with fail
                  refine (same_yes _ _ 0 0 0 0 [] [] _ (Byt.empty _) (Byt.empty _) rfl).mono ?_
                  rintro e s3b ⟨rfl, rfl⟩
                  go_wp2_with fail
                  refine (compare_any _ _ n m cx cy za zb _ (XB.out.keptN T3.out) (YB.out.keptN T3.out) tza hbz).mono ?_
                  rintro e s3c ⟨rfl, rfl⟩
                  go_wp2_with fail
                  refine (commonAll_some _ 2 za [zb] _ (Lz.lit2 _ 40 _ _ n m cx cy za zb _ rfl (XB.out.keptN T3.out) (YB.out.keptN T3.out) (by omega) (by omega) hxm hym) (by simp) (by decide)).mono ?_
                  rintro e s4 ⟨rfl, hg⟩
                  rw [comList_two]
                  have U4 := hid_intro (grown_trans (World.grownBy_alloc _ _ none) hg)
                  have T4 := hid_intro (grown_trans T3.out U4.out)
                  clear hg
                  go_wp2_with fail
                  refine (common_any _ _ n m cx cy za zb s4 (XB.out.keptN T4.out) (YB.out.keptN T4.out) (by omega) (by omega)).mono ?_
                  rintro e s5 ⟨rfl, hq⟩
                  have U5 := hid_intro (grown_trans U4.out (hq.qt.grown none))
                  have T5 := hid_intro (grown_trans T3.out U5.out)
                  clear hq U4 T4
                  go_wp2_with fail
                  refine (num3_any _ _).mono ?_
                  rintro e s5a ⟨rfl, rfl⟩
                  go_wp2_with fail
                  refine (num3_any _ _).mono ?_
                  rintro e s5b ⟨rfl, rfl⟩
                  go_wp2_with fail
                  refine (refCompare_any _ _ n m cx cy za zb _ (XB.out.keptN T5.out) (YB.out.keptN T5.out) (by omega) (by omega)).mono ?_
                  rintro e s6 ⟨rfl, hq⟩
                  have U6 := hid_intro (grown_trans U5.out (hq.grown none))
                  have T6 := hid_intro (grown_trans T3.out U6.out)
                  clear hq U5 T5
                  have q1 : (cmpZ za zb != cmpZ za zb) = false := by simp
                  go_wp2_with fail
                  refine (refCommon_any _ _ n m cx cy za zb s6 (XB.out.keptN T6.out) (YB.out.keptN T6.out) (by omega) (by omega)).mono ?_
                  rintro e s7 ⟨rfl, hq⟩
                  have U7 := hid_intro (grown_trans U6.out (hq.qt.grown none))
                  have T7 := hid_intro (grown_trans T3.out U7.out)
                  clear hq U6 T6
                  have q2 : (((com za zb : Nat) : Int) != ((com za zb : Nat) : Int)) = false := by simp
                  have J7 := hid_intro (II.out.keptN T7.out)
                  clear II XB YB T3 U7 T7
                  go_wp2_with fail
                  refine (J7.out.keepN hbx hwB (by omega)).mono ?_
                  rintro e s8 ⟨rfl, ys8, vb8, vw8, hI⟩
                  have J8 := hid_intro hI
                  clear hI J7
                  go_wp2_with fail
                  refine (J8.out.keepN hbx hwB (by omega)).mono ?_
                  rintro e s9 ⟨rfl, ys9, vb9, vw9, hI⟩
                  have J9 := hid_intro hI
                  clear hI J8 HLT HFR
                  by_cases hr0 : r = 0
                  · subst hr0
                    by_cases hm0 : 0 < m
                    · have hm0' : (0 : Int) < (m : Int) := by omega
                      have hcl := J9.out.oy.part.cell (j := m - 1) (by omega)
                      have hfz := J9.out.oy.frozen (m - 1)
                      have hv := xor_one (hbz.getD (m - 1))
                      generalize zb.getD (m - 1) 0 = x at *
                      have hcast : ((m - 1 : Nat) : Int) = (m : Int) - 1 := by omega
                      have hnat : ((m : Int) - 1).toNat = m - 1 := by omega
                      have m1 : (0 : Int) ≤ (m : Int) - 1 := by omega
                      have m2 : (m : Int) - 1 < (m : Int) := by omega
                      go_wp2
                      go_roundw
                      case rel => exact ⟨1, by omega, rfl, zb.set (m - 1) (bits .xor .u8 x 1), _, ys9, vb9, vw9, J9.out.write (m - 1) _ (by omega) hv hxy hwy⟩
                      case measure => simp [intOf]
                    · have hm0' : ¬ (0 : Int) < (m : Int) := by omega
                      go_wp2
                      go_roundw
                      case rel => exact ⟨1, by omega, rfl, zb, _, ys9, vb9, vw9, J9.out⟩
                      case measure => simp [intOf]
                  · have hr1 : r = 1 := by omega
                    subst hr1
                    go_wp2
                    go_roundw
                    case rel => exact ⟨2, by omega, rfl, zb, _, ys9, vb9, vw9, J9.out⟩
                    case measure => simp [intOf]
                · have hxl := II.out.ox.le
                  have hyl := II.out.oy.le
                  have hxm := II.out.ox.max
                  have hym := II.out.oy.max
                  have hlb := II.out.lb
                  have hbz := II.out.bt
                  rw [List.length_append, marks_len] at hxl hyl
                  have XB := hid_intro (II.out.ox.part.byt n hza.symm)
                  have YB := hid_intro (II.out.oy.part.byt m hlb.symm)
                  obtain ⟨D, hD⟩ : ∃ D, D = wr.heap.size := ⟨_, rfl⟩
                  have hgxD : gx < D := by rw [hD]; exact II.out.ox.lt
                  have hgyD : gy < D := by rw [hD]; exact II.out.oy.lt
                  have HLT : Hid (∀ t ∈ L, t.g < D) := fun t ht => by rw [hD]; exact (II.out.kb.ok t ht).2.2.2.1
                  have HFR : Hid (∀ j, D ≤ j → Free B vb vw j) := fun j hj => II.out.kb.freeN (by omega)
                  have hDb : base ≤ D := by rw [hD]; exact II.out.kb.bB.2
                  have h' := neg_of h
                  have hkm : com za zb + 1 ≤ m := by rw [← hlb]; exact sep_room h'
                  have HKL : Hid ((zb.take (com za zb + 1)).length = com za zb + 1) := by show _ = _; rw [List.length_take]; omega
                  go_wp2_with fail
                  refine (sep_yes _ _ n m cx cy za zb wr XB.out YB.out tza hbz (by omega) (by omega) (by omega) h').mono ?_
                  rintro e s1 ⟨g1, c1, rfl, ho, hg⟩
                  obtain ⟨o1, _, o3, o4⟩ := Ow.of_owns ho
                  have A1 := hid_intro o1
                  have T1 := hid_intro hg
                  have hg1D : D ≤ g1 := by omega
                  have hs1 : g1 < s1.heap.size := o4
                  clear ho hg o1 o3 o4
                  go_wp2_with fail
                  refine (sep_yes _ _ n m cx cy za zb s1 (XB.out.keptN T1.out) (YB.out.keptN T1.out) tza hbz (by omega) (by omega) (by omega) h').mono ?_
                  rintro e s2 ⟨g2, c2, rfl, ho, hg⟩
                  obtain ⟨o1, _, o3, o4⟩ := Ow.of_owns ho
                  have A2 := hid_intro o1
                  have A1b := hid_intro (A1.out.keptN hg)
                  have T2 := hid_intro (grown_trans T1.out hg)
                  have hg12 : g1 < g2 := by omega
                  clear ho hg o1 o3 o4
                  have z2 := T2.out.size
                  go_wp2_with fail
                  refine (refSep_yes _ _ n m cx cy za zb s2 (XB.out.keptN T2.out) (YB.out.keptN T2.out) (by omega) (by omega) (by omega) h').mono ?_
                  rintro e s3 ⟨g3, rfl, hb3, hg⟩
                  have R3 := hid_intro hb3
                  have C1 := hid_intro (A1b.out.keptN hg)
                  have C2 := hid_intro (A2.out.keptN hg)
                  have T3 := hid_intro (grown_trans T2.out hg)
                  clear hb3 hg A1 A1b A2 T1 T2
                  obtain ⟨k, hk⟩ : ∃ k, com za zb + 1 = k := ⟨_, rfl⟩
                  rw [hk] at HKL hkm R3 C1 C2
                  rw [hk]
                  go_wp2_with fail
                  refine (same_yes _ _ k k c1 k _ _ s3 (C1.out.byt k HKL.out.symm) R3.out rfl).mono ?_
                  rintro e s3a ⟨rfl, rfl⟩
                  go_wp2_with fail
                  refine (same_yes _ _ k k c2 k _ _ _ (C2.out.byt k HKL.out.symm) R3.out rfl).mono ?_
                  rintro e s3b ⟨rfl, rfl⟩
                  clear R3 hk
                  go_wp2_with fail
                  refine (compare_any _ _ n m cx cy za zb _ (XB.out.keptN T3.out) (YB.out.keptN T3.out) tza hbz).mono ?_
                  rintro e s3c ⟨rfl, rfl⟩
                  go_wp2_with fail
                  refine (commonAll_some _ 2 za [zb] _ (Lz.lit2 _ 40 _ _ n m cx cy za zb _ rfl (XB.out.keptN T3.out) (YB.out.keptN T3.out) (by omega) (by omega) hxm hym) (by simp) (by decide)).mono ?_
                  rintro e s4 ⟨rfl, hg⟩
                  rw [comList_two]
                  have U4 := hid_intro (grown_trans (World.grownBy_alloc _ _ none) hg)
                  have T4 := hid_intro (grown_trans T3.out U4.out)
                  clear hg
                  go_wp2_with fail
                  refine (common_any _ _ n m cx cy za zb s4 (XB.out.keptN T4.out) (YB.out.keptN T4.out) (by omega) (by omega)).mono ?_
                  rintro e s5 ⟨rfl, hq⟩
                  have U5 := hid_intro (grown_trans U4.out (hq.qt.grown none))
                  have T5 := hid_intro (grown_trans T3.out U5.out)
                  clear hq U4 T4
                  go_wp2_with fail
                  refine (num3_any _ _).mono ?_
                  rintro e s5a ⟨rfl, rfl⟩
                  go_wp2_with fail
                  refine (num3_any _ _).mono ?_
                  rintro e s5b ⟨rfl, rfl⟩
                  go_wp2_with fail
                  refine (refCompare_any _ _ n m cx cy za zb _ (XB.out.keptN T5.out) (YB.out.keptN T5.out) (by omega) (by omega)).mono ?_
                  rintro e s6 ⟨rfl, hq⟩
                  have U6 := hid_intro (grown_trans U5.out (hq.grown none))
                  have T6 := hid_intro (grown_trans T3.out U6.out)
                  clear hq U5 T5
                  have q1 : (cmpZ za zb != cmpZ za zb) = false := by simp
                  go_wp2_with fail
                  refine (refCommon_any _ _ n m cx cy za zb s6 (XB.out.keptN T6.out) (YB.out.keptN T6.out) (by omega) (by omega)).mono ?_
                  rintro e s7 ⟨rfl, hq⟩
                  have U7 := hid_intro (grown_trans U6.out (hq.qt.grown none))
                  have T7 := hid_intro (grown_trans T3.out U7.out)
                  clear hq U6 T6
                  have q2 : (((com za zb : Nat) : Int) != ((com za zb : Nat) : Int)) = false := by simp
                  have J7 := hid_intro (II.out.keptN T7.out)
                  have E1 := hid_intro (C1.out.keptN U7.out)
                  have E2 := hid_intro (C2.out.keptN U7.out)
                  clear C1 C2
                  clear II XB YB T3 U7 T7
                  go_wp2_with fail
                  refine (J7.out.keepO g1 k c1 _ E1.out HKL.out (by omega) (HFR.out g1 hg1D) (fun t ht _ => by have := HLT.out t ht; omega) (by omega) (by omega) (by omega) hwB (by omega)).mono ?_
                  rintro e s8 ⟨rfl, ys8, vb8, vw8, hI, hE⟩
                  have J8 := hid_intro hI
                  have F8 := hid_intro (hE.ow E2.out (HFR.out g2 (by omega)))
                  have P8 := hid_intro (hE.block g2 E2.out.lt (HFR.out g2 (by omega))).2
                  clear hI hE J7 E1 E2
                  go_wp2_with fail
                  refine (J8.out.keepO g2 k c2 _ F8.out HKL.out (by omega) P8.out (fun t ht _ => by
                    rcases List.mem_append.1 ht with h1 | h1
                    · have := HLT.out t h1; omega
                    · obtain rfl := List.mem_singleton.1 h1; show g1 ≠ g2; omega) (by omega) (by omega) (by omega) hwB (by omega)).mono ?_
                  rintro e s9 ⟨rfl, ys9, vb9, vw9, hI, _⟩
                  have J9 := hid_intro hI
                  clear hI J8 F8 P8 HLT HFR HKL
                  by_cases hr0 : r = 0
                  · subst hr0
                    by_cases hm0 : 0 < m
                    · have hm0' : (0 : Int) < (m : Int) := by omega
                      have hcl := J9.out.oy.part.cell (j := m - 1) (by omega)
                      have hfz := J9.out.oy.frozen (m - 1)
                      have hv := xor_one (hbz.getD (m - 1))
                      generalize zb.getD (m - 1) 0 = x at *
                      have hcast : ((m - 1 : Nat) : Int) = (m : Int) - 1 := by omega
                      have hnat : ((m : Int) - 1).toNat = m - 1 := by omega
                      have m1 : (0 : Int) ≤ (m : Int) - 1 := by omega
                      have m2 : (m : Int) - 1 < (m : Int) := by omega
                      go_wp2
                      go_roundw
                      case rel => exact ⟨1, by omega, rfl, zb.set (m - 1) (bits .xor .u8 x 1), _, ys9, vb9, vw9, J9.out.write (m - 1) _ (by omega) hv hxy hwy⟩
                      case measure => simp [intOf]
                    · have hm0' : ¬ (0 : Int) < (m : Int) := by omega
                      go_wp2
                      go_roundw
                      case rel => exact ⟨1, by omega, rfl, zb, _, ys9, vb9, vw9, J9.out⟩
                      case measure => simp [intOf]
                  · have hr1 : r = 1 := by omega
                    subst hr1
                    go_wp2
                    go_roundw
                    case rel => exact ⟨2, by omega, rfl, zb, _, ys9, vb9, vw9, J9.out⟩
                    case measure => simp [intOf]
              · have hr3 : r = 2 := by omega
                subst hr3
                have fc1 := II.out.gr.cell WC1.out (by simp)
                have fc2 := II.out.gr.cell WC2.out (by simp)
                have hlb := II.out.lb
                go_wp2_with fail
                refine (roomy_any ao n c za _ (HBA.out.keptN II.out.gr) (by omega)).mono ?_
                rintro e v1 ⟨g1, c1, rfl, ho1, _, hg1⟩
                have J1 := hid_intro (II.out.keptN hg1)
                have A1 := hid_intro (ho1.byt (n + 40) (by rw [List.length_append, marks_len, hza]))
                have A2 := hid_intro ((II.out.ox.keptN hg1).byt (n + 40) (by rw [List.length_append, marks_len, hza]))
                clear ho1 hg1 II
                go_wp2_with fail
                refine (same_yes _ _ _ _ _ _ _ _ v1 A2.out A1.out rfl).mono ?_
                rintro e v2 ⟨rfl, rfl⟩
                go_wp2_with fail
                refine (roomy_any _ m cy zb _ (J1.out.oy.part.byt m hlb.symm) (by omega)).mono ?_
                rintro e v3 ⟨g3, c3, rfl, ho3, _, hg3⟩
                have J3 := hid_intro (J1.out.keptN hg3)
                have A3 := hid_intro (ho3.byt (m + 40) (by rw [List.length_append, marks_len, hlb]))
                have A4 := hid_intro ((J1.out.oy.keptN hg3).byt (m + 40) (by rw [List.length_append, marks_len, hlb]))
                clear ho3 hg3 J1 A1 A2
                go_wp2_with fail
                refine (same_yes _ _ _ _ _ _ _ _ v3 A4.out A3.out rfl).mono ?_
                rintro e v4 ⟨rfl, rfl⟩
                go_wp2
                go_roundw
                case rel => exact ⟨i + 1, by omega, by go_num, L, ys, vb, vw, J3.out.kb, by have := J3.out.len; omega, J3.out.new, J3.out.gr⟩
                case measure => simp [intOf]; omega
      · have hin : ¬ (i : Int) < (ln : Int) := by omega
        have FIN : Hid (Calls Tryz.prog 16 #[.pointer (some ⟨B, 0, none⟩)] wr fun en w' => en = .returned (.bool true) ∧ w.grownBy w' none) := by
          refine kb_finish OO.out.kb (by have := OO.out.len; omega) (_root_.Or.inr hBpos) (fun v => w.grownBy v none) OO.out.gr (fun v w' row h1 h2 h3 => ?_) (fun v s j u h1 h2 h3 => ?_)
          · cases row with
            | none => exact grown_trans h1 h2
            | some j =>
              refine grown_new h1 h2 ?_
              have := OO.out.gr.size
              rcases h3 j rfl with h4 | h4 <;> omega
          · exact grown_new h3 (grown_set v s.g _ _) (by have := OO.out.new s h1; omega)
        go_wp2_with fail
        refine FIN.out.mono ?_
        rintro e w4 ⟨rfl, hg4⟩
        have G4 := hid_intro hg4
        clear hg4
        go_wp2
        go_ret
        exact ⟨rfl, G4.out⟩
end Go.Proofs.YtjipibblmccjhaaGreatDoor
