import Derived.Test.YthebdbdahdegfaaBackD
namespace Go.Proofs.Ythebdbdahdegfaa
open Go.RowKit

set_option maxHeartbeats 40000000 in
set_option maxRecDepth 100000 in
theorem back_more (b off n n0 c : Nat) (cut : Int) (X : Nat → Nat) (D : Nat → Int) (w : World) (hL : n = 500) (h500 : 500 < n0) (hnc0 : n0 ≤ c) (hc : c ≤ 9223372036854775807) (ho : NumsAt w b off n X D) :
    Calls Try.prog 5 #[.slice (some ⟨b, off, none⟩) n0 c, .int .i64 cut] w fun e w' => e = .returned (.bool true) ∧ Below w.heap.size w w' := by
  obtain ⟨i1, hi1, hj0, hj1, hj2⟩ := info_parts info_int
  have HO : Hid (NumsAt w b off n X D) := ho
  have hn0 : 0 < n := by omega
  have hn : n ≤ 500 := by omega
  have hnc : n ≤ c := by omega
  have HL := hid_intro hL
  have hdd : decide ((500 : Int) < (n0 : Int)) = true := by simp; omega
  have hddn : decide (500 < n0) = true := by simp; omega
  clear ho hL
  go_enter Try.func5, Try.ntmps5
  go_wp2_with fail
  refine (first_any _).mono ?_
  rintro en w1 ⟨rfl, hg⟩
  have G1 : Hid (w.grownBy w1 none) := hg
  have hsz1 : w.heap.size ≤ w1.heap.size := hg.size
  clear hg
  go_wp2
  rw [← HL.out]
  go_loopw [6, 7, 8] (fun vb ve si wr => PutRel w w1.heap.size n X D vb ve si wr) (fun _ _ si _ => n - (intOf si).toNat)
  case atStart => exact ⟨0, Nat.zero_le _, rfl, World.ownsRow_nil _ _ _ _, World.ownsRow_nil _ _ _ _, G1.out, Nat.le_refl _⟩
  case round =>
    obtain ⟨k, hk, rfl, hob, hoe, hg, hBs⟩ := hrel
    have HOB : Hid (wr.ownsRow w1.heap.size 5 1 u6 (acc X D k).length ((acc X D k).map (Value.int .u8))) := hob
    have HOE : Hid (wr.ownsRow w1.heap.size 3 1 u7 k (endsL X D k)) := hoe
    have HG : Hid (w.grownBy wr none) := hg
    clear hob hoe hg
    by_cases hlt : k < n
    · have hle := acc_le X D k
      obtain ⟨bo, bc, hv, hB⟩ := owns_any HOB.out
      subst hv
      have c0 := (HO.out.kept HG.out (by simp)).at0 k hlt
      have c1 := (HO.out.kept HG.out (by simp)).at1 k hlt
      have hx := HO.out.max k hlt
      have HB : Hid (∀ W : World, W.heap = wr.heap → Byt W bo (acc X D k).length bc (acc X D k)) := fun W h => hB.heap h
      obtain ⟨x, hxe⟩ : ∃ x, x = X k := ⟨_, rfl⟩
      obtain ⟨d, hde⟩ : ∃ d, d = D k := ⟨_, rfl⟩
      rw [← hxe] at c0 hx
      rw [← hde] at c1
      have HX : Hid (x = X k) := hxe
      have HD : Hid (d = D k) := hde
      clear hxe hde hB
      go_wp2_with fail
      go_region_with (first
        | (go_at_call 18; refine (wide_any d _).mono ?_; rintro en w2 ⟨rfl, rfl⟩)
        | (go_at_call 17; refine (put_any bo (acc X D k).length bc (acc X D k) x d _ (by exact HB.out _ rfl) (by omega) hx).mono ?_; rintro en w3 ⟨m, hm, rfl, hown, hg3, hs3⟩; have HM := hid_intro hm; clear hm))
      all_goals
        have hgw : wr.grownBy w3 none := grown_trans (((Qt.refl wr).drew).grown none) hg3
        have hoe3 : w3.ownsRow w1.heap.size 3 1 u7 k (endsL X D k) := HOE.out.kept hgw (by cases u7.ownBlock <;> simp)
        have hacc : acc X D (k + 1) = acc X D k ++ form (wd d) x := by rw [acc, ← HX.out, ← HD.out]
        have hown3 : w3.ownsRow w1.heap.size 5 1 (.slice (some ⟨wr.heap.size, 0, none⟩) m m) m ((acc X D (k + 1)).map (Value.int .u8)) := by rw [hacc]; exact owns_base hown hBs
        have hm3 : m = (acc X D (k + 1)).length := by rw [hacc, List.length_append]; exact HM.out
        have hmle : m ≤ 5010 := by rw [hm3]; have := acc_le X D (k + 1); omega
        have hs4 : w1.heap.size ≤ w3.heap.size := by have := hgw.size; omega
        have HN : Hid (∀ w4 ve' o I, w4.ownsRow w1.heap.size 3 1 ve' (k + 1) (endsL X D k ++ [.int .i64 (m : Nat)]) → (w3.alloc o).grownBy w4 u7.ownBlock → I = (k : Int) + 1 → PutRel w w1.heap.size n X D (.slice (some ⟨wr.heap.size, 0, none⟩) m m) ve' (.int .i64 I) w4) :=
          fun w4 ve' o I h1 h2 h3 => PutRel.next hsz1 hlt HG.out hBs HOE.out o hgw hm3 hown3 h1 h2 I h3
        have HE3 : Hid (w3.ownsRow w1.heap.size 3 1 u7 k (endsL X D k)) := hoe3
        clear hgw hoe3 hacc hown3 hm3 HM hown hg3 hs3
        go_wp2_with (at_builtin; refine wpList_append_own _ rfl _ _ 41 rfl w1.heap.size 3 i1 (.int .i64 0) 1 8 Try.underlying41 hi1 hj0 hj1 hj2 rfl (by decide) _ k (endsL X D k) rfl (HE3.out.alloc _) ⟨w3.heap.size, 0, none⟩ 1 1 [.int .i64 (m : Nat)] rfl rfl (cell_one_new _ _ _) (by intro u hu; simp at hu; subst hu; rfl) (by unfold maxLen; omega) (by omega) (by simp; omega) ?_)
        intro ve' w4 h1 h2 _
        have HP : Hid (PutRel w w1.heap.size n X D (.slice (some ⟨wr.heap.size, 0, none⟩) m m) ve' (.int .i64 ((k : Int) + 1)) w4) := HN.out w4 ve' _ ((k : Int) + 1) h1 h2 rfl
        clear h1 h2
        go_wp2
        go_roundw
        case rel => exact HP.out
        case measure => simp [intOf]; omega
    · have hkn : k = n := by omega
      subst hkn
      have hle := acc_le X D k
      have hge := acc_ge X D k
      obtain ⟨g, bc, hv, hbg, hgs, hbc⟩ := owns_shape HOB.out (by omega)
      subst hv
      obtain ⟨ge, ec, hve, hbge, hgse, hec⟩ := owns_shape' HOE.out (by omega)
      subst hve
      have BB : Hid (Byt wr (some ⟨g, 0, none⟩) (acc X D k).length bc (acc X D k)) := Byt.of_owns HOB.out
      obtain ⟨N, hN⟩ : ∃ N, N = (acc X D k).length := ⟨_, rfl⟩
      rw [← hN] at hle hge hbc BB
      rw [← hN]
      have HN : Hid (N = (acc X D k).length) := hN
      clear hN HOB
      obtain ⟨C, hC, hCe⟩ := cut_to N cut
      obtain ⟨hq1, hq2⟩ := tmod_bd N cut
      go_wp2_with fail
      rw [hCe]
      clear hCe hq1 hq2
      refine (newReader_any _ C bc ((acc X D k).take C) _ (BB.out.take C bc hC (fun e => by cases e)) (by omega)).mono ?_
      rintro en w5 ⟨R, rfl, hr, hg, hR⟩
      have G5 : Hid (w.grownBy w5 none) := grown_trans HG.out hg
      have R5 : Hid (Rd w5 R wr.heap.size ((acc X D k).take C) 0 0) := hr
      have HWR : Hid (w.heap.size ≤ R) := by show w.heap.size ≤ R; omega
      have HNU : Hid (∀ W, w5.grownBy W (some R) → NumsAt W b off k X D) := fun W hW => (HO.out.kept G5.out (by simp)).kept hW (fun h0 e => by have := HO.out.lt h0; have := Option.some.inj e; omega)
      have HEN : Hid (∀ W, w5.grownBy W (some R) → ∀ i, i < k → W.cell? ⟨ge, i, none⟩ = some (.int .i64 ((acc X D (i + 1)).length : Nat))) := by
        intro W hW i hi
        have h1 := (HOE.out.kept hg (Or.inr (by simp [Value.ownBlock]))).cellAt i (by omega)
        rw [endsL_at X D k i hi] at h1
        exact hW.cell h1 (by intro e; have := Option.some.inj e; simp only at this; omega)
      have HLZ : Hid (((acc X D k).take C).length = C) := by show _ = _; rw [List.length_take, ← HN.out]; omega
      have HBZ : Hid (Bt ((acc X D k).take C)) := (acc_bt X D k).take C
      obtain ⟨GG, hGG⟩ : ∃ GG, GG = wr.heap.size := ⟨_, rfl⟩
      rw [← hGG] at hr
      have R5 : Hid (Rd w5 R GG ((acc X D k).take C) 0 0) := hr
      clear hr hg hR BB HOE hGG
      go_wp2
      go_loopw [11, 12] (fun sf si W => BackRel w5 R GG k C X D sf si W) (fun _ si _ => k - (intOf si).toNat)
      case atStart => exact ⟨0, Nat.zero_le _, rfl, rfl, Nat.zero_le _, R5.out, World.grownBy.refl _ _⟩
      case round =>
        obtain ⟨j, hj, rfl, rfl, hjC, hr, hg⟩ := hrel
        have HRR : Hid (Rd wr R GG ((acc X D k).take C) (acc X D j).length 0) := hr
        have HGG : Hid (w5.grownBy wr (some R)) := hg
        clear hr hg
        by_cases hlt : j < k
        · have c0 := (HNU.out _ HGG.out).at0 j hlt
          have c1 := (HNU.out _ HGG.out).at1 j hlt
          have ce := HEN.out _ HGG.out j hlt
          have hx := (HNU.out _ HGG.out).max j hlt
          have HCE : Hid (∀ W, w5.grownBy W (some R) → W.cell? ⟨ge, j, none⟩ = some (.int .i64 ((acc X D (j + 1)).length : Nat))) := fun W hW => HEN.out W hW j hlt
          have HC0 : Hid (∀ W, w5.grownBy W (some R) → W.cell? ⟨b, off + j * 2, none⟩ = some (.int .u64 (X j : Nat))) := fun W hW => (HNU.out W hW).at0 j hlt
          have hal := acc_len X D j
          have hfl := form_len (wd (D j)) (X j)
          have hej := acc_le X D (j + 1)
          have hfp := (form_le (D j) (X j)).2
          have HW : Hid ((acc X D (j + 1)).length ≤ C → ∃ t, ((acc X D k).take C).drop (acc X D j).length = form (wd (D j)) (X j) ++ t) := acc_whole X D j k C hlt
          have HP : Hid (C < (acc X D (j + 1)).length → ((acc X D k).take C).drop (acc X D j).length = (form (wd (D j)) (X j)).take (C - (acc X D j).length)) := acc_part X D j k C hlt
          have HNX : Hid (∀ W sf si, (acc X D (j + 1)).length ≤ C → sf = .int .i64 ((acc X D (j + 1)).length : Nat) → si = .int .i64 ((j : Int) + 1) → Rd W R GG ((acc X D k).take C) (acc X D (j + 1)).length 0 → w5.grownBy W (some R) → BackRel w5 R GG k C X D sf si W) := fun W sf si h1 h2 h3 h4 h5 => ⟨j + 1, by omega, h2, by rw [h3]; go_num, h1, h4, h5⟩
          obtain ⟨x, hxe⟩ : ∃ x, x = X j := ⟨_, rfl⟩
          obtain ⟨d, hde⟩ : ∃ d, d = D j := ⟨_, rfl⟩
          obtain ⟨ej, hee⟩ : ∃ ej, ej = (acc X D j).length := ⟨_, rfl⟩
          obtain ⟨e1, he1⟩ : ∃ e1, e1 = (acc X D (j + 1)).length := ⟨_, rfl⟩
          rw [← hxe] at c0 hx hfl hfp HW HP hal HC0
          rw [← hde] at c1 hfl hfp HW HP hal
          rw [← hee] at hal HW HP HRR hjC
          rw [← he1] at hal ce hej HW HP HNX HCE
          rw [← hee]
          clear hxe hde hee he1
          go_wp2_with fail
          refine (wide_any d _).mono ?_
          rintro en w6 ⟨rfl, rfl⟩
          rcases wd_cases d with hw | hw | hw | hw | hw
          · rw [hw] at hfl hfp HW HP hal
            rw [hw]
            have hf0 : form 0 x = vform x := rfl
            rw [hf0] at hfl hfp HW HP hal
            have hv := vform_le x
            have hln : e1 = ej + (vform x).length := hal
            have hb1 : decide ((e1 : Int) ≤ (ej : Int)) = false := by simp; omega
            have hb1n : decide (e1 ≤ ej) = false := by simp; omega
            have hb2 : ((e1 : Int) != (ej : Int) + ((vform x).length : Int)) = false := by simp; omega
            have hbd : e1 ≤ 5000 := by omega
            have HLN : Hid (e1 = ej + (vform x).length) := hln
            clear hal hfl hw hf0 hln
            go_wp2_with fail
            go_quiet ((go_at_call 16; exact Calls.quiet_of_same (vlen_calls x _ hx)))
            clear hb1 hb1n hb2
            have HRQ : Hid (Rd (w6.drewN nq) R GG ((acc X D k).take C) ej 0) := HRR.out.qt (Qt.drewN _ _)
            have HGQ : Hid (w5.grownBy (w6.drewN nq) (some R)) := grown_trans HGG.out ((Qt.drewN _ _).grown _)
            by_cases hcut : e1 ≤ C
            · obtain ⟨t, hz⟩ := HW.out hcut
              have HZ := hid_intro hz
              clear hz
              go_wp2_with fail
              refine (getw0_ok R GG _ t ej x _ HRQ.out HBZ.out hx HZ.out).mono ?_
              rintro en w7 ⟨rfl, hr, hg⟩
              have G7 : Hid (w5.grownBy w7 (some R)) := grown_trans HGQ.out hg
              have R7 : Hid (Rd w7 R GG ((acc X D k).take C) e1 0) := by show Rd _ _ _ _ _ _; rw [HLN.out]; exact hr
              clear hr hg
              go_wp2_with fail
              refine (err_any R GG _ e1 0 _ R7.out).mono ?_
              rintro en w8 ⟨rfl, hq⟩
              have G8 : Hid (w5.grownBy w8 (some R)) := grown_trans G7.out (hq.grown _)
              have R8 : Hid (Rd w8 R GG ((acc X D k).take C) e1 0) := R7.out.qt hq
              have ce8 := HCE.out w8 G8.out
              have c08 := HC0.out w8 G8.out
              have hbl : (((C - e1 : Nat) : Int) != (C : Int) - (e1 : Int)) = false := by simp; omega
              clear hq
              go_wp2
              go_quiet ((first | (go_at_call 21; exact Calls.quiet_of_same (num_any _ _)) | (go_at_call 22; exact left_inquiet R GG _ e1 (C - e1) w8 _ R8.out (by rw [HLZ.out]))))
              go_wp2
              go_roundw
              case rel => exact HNX.out _ _ _ hcut rfl rfl (R8.out.qt (Qt.drewN _ _)) (grown_trans G8.out ((Qt.drewN _ _).grown _))
              case measure => simp [intOf]; omega
            · have hz := HP.out (by omega)
              have HZ := hid_intro hz
              clear hz
              go_wp2_with fail
              refine (getw0_cut R GG _ ej x (C - ej) _ HRQ.out HBZ.out hx (by have := HLN.out; omega) HZ.out).mono ?_
              rintro en w7 ⟨rfl, hr, hg⟩
              have G7 : Hid (w5.grownBy w7 (some R)) := grown_trans HGQ.out hg
              have R7 : Hid (Rd w7 R GG ((acc X D k).take C) ej 10) := hr
              clear hr hg
              go_wp2_with fail
              refine (err_any R GG _ ej 10 _ R7.out).mono ?_
              rintro en w8 ⟨rfl, hq⟩
              have G8 : Hid (w5.grownBy w8 (some R)) := grown_trans G7.out (hq.grown _)
              have R8 : Hid (Rd w8 R GG ((acc X D k).take C) ej 10) := R7.out.qt hq
              have ce8 := HCE.out w8 G8.out
              clear hq
              go_wp2_with (go_at_call 21; refine (num_any _ _).mono ?_; rintro en w9 ⟨rfl, rfl⟩)
              refine (left_broken R GG _ ej 10 _ R8.out rfl).mono ?_
              rintro en w10 ⟨rfl, hq⟩
              have G10 : Hid (w.grownBy w10 none) := grown_new G5.out (grown_trans G8.out (hq.grown _)) HWR.out
              clear hq
              go_wp2
              go_ret
              exact ⟨rfl, Below_of G10.out⟩
          · rw [hw] at hfl hfp HW HP hal
            rw [hw]
            have hf0 : form 1 x = lb 1 x := rfl
            have hln : e1 = ej + 1 := by rw [hal, hfl]; rfl
            rw [hf0] at HW HP
            have hb1 : decide ((e1 : Int) ≤ (ej : Int)) = false := by simp; omega
            have hb1n : decide (e1 ≤ ej) = false := by simp; omega
            have hb2 : ((e1 : Int) != (ej : Int) + 1) = false := by simp; omega
            have hbd : e1 ≤ 5000 := by omega
            have HLN : Hid (e1 = ej + 1) := hln
            clear hal hfl hfp hw hf0 hln
            go_wp2_with fail
            go_quiet ((go_at_call 16; exact Calls.quiet_of_same (vlen_calls x _ hx)))
            clear hb1 hb1n hb2
            have HRQ : Hid (Rd (w6.drewN nq) R GG ((acc X D k).take C) ej 0) := HRR.out.qt (Qt.drewN _ _)
            have HGQ : Hid (w5.grownBy (w6.drewN nq) (some R)) := grown_trans HGG.out ((Qt.drewN _ _).grown _)
            by_cases hcut : e1 ≤ C
            · obtain ⟨t, hz⟩ := HW.out hcut
              have HZ := hid_intro hz
              clear hz
              obtain ⟨r, hrx⟩ : ∃ r, r = x % 256 := ⟨_, rfl⟩
              have hbr : ((r : Int) != (x : Int) % 256) = false := by simp; omega
              have HRX := hid_intro hrx
              clear hrx
              go_wp2_with fail
              refine (getw1_ok R GG _ t ej x r _ HRX.out HRQ.out HBZ.out hx HZ.out).mono ?_
              rintro en w7 ⟨rfl, hr, hg⟩
              have G7 : Hid (w5.grownBy w7 (some R)) := grown_trans HGQ.out hg
              have R7 : Hid (Rd w7 R GG ((acc X D k).take C) e1 0) := by show Rd _ _ _ _ _ _; rw [HLN.out]; exact hr
              clear hr hg
              go_wp2_with fail
              refine (err_any R GG _ e1 0 _ R7.out).mono ?_
              rintro en w8 ⟨rfl, hq⟩
              have G8 : Hid (w5.grownBy w8 (some R)) := grown_trans G7.out (hq.grown _)
              have R8 : Hid (Rd w8 R GG ((acc X D k).take C) e1 0) := R7.out.qt hq
              have ce8 := HCE.out w8 G8.out
              have c08 := HC0.out w8 G8.out
              have hbl : (((C - e1 : Nat) : Int) != (C : Int) - (e1 : Int)) = false := by simp; omega
              clear hq
              go_wp2
              go_quiet ((first | (go_at_call 21; exact Calls.quiet_of_same (num_any _ _)) | (go_at_call 22; exact left_inquiet R GG _ e1 (C - e1) w8 _ R8.out (by rw [HLZ.out]))))
              go_wp2
              go_roundw
              case rel => exact HNX.out _ _ _ hcut rfl rfl (R8.out.qt (Qt.drewN _ _)) (grown_trans G8.out ((Qt.drewN _ _).grown _))
              case measure => simp [intOf]; omega
            · have hz := HP.out (by omega)
              have HZ := hid_intro hz
              clear hz
              go_wp2_with fail
              refine (getw1_cut R GG _ ej x (C - ej) _ HRQ.out HBZ.out hx (by have := HLN.out; omega) HZ.out).mono ?_
              rintro en w7 ⟨rfl, hr, hg⟩
              have G7 : Hid (w5.grownBy w7 (some R)) := grown_trans HGQ.out hg
              have R7 : Hid (Rd w7 R GG ((acc X D k).take C) ej 10) := hr
              clear hr hg
              go_wp2_with fail
              refine (err_any R GG _ ej 10 _ R7.out).mono ?_
              rintro en w8 ⟨rfl, hq⟩
              have G8 : Hid (w5.grownBy w8 (some R)) := grown_trans G7.out (hq.grown _)
              have R8 : Hid (Rd w8 R GG ((acc X D k).take C) ej 10) := R7.out.qt hq
              have ce8 := HCE.out w8 G8.out
              clear hq
              go_wp2_with (go_at_call 21; refine (num_any _ _).mono ?_; rintro en w9 ⟨rfl, rfl⟩)
              refine (left_broken R GG _ ej 10 _ R8.out rfl).mono ?_
              rintro en w10 ⟨rfl, hq⟩
              have G10 : Hid (w.grownBy w10 none) := grown_new G5.out (grown_trans G8.out (hq.grown _)) HWR.out
              clear hq
              go_wp2
              go_ret
              exact ⟨rfl, Below_of G10.out⟩
          · rw [hw] at hfl hfp HW HP hal
            rw [hw]
            have hf0 : form 2 x = lb 2 x := rfl
            have hln : e1 = ej + 2 := by rw [hal, hfl]; rfl
            rw [hf0] at HW HP
            have hb1 : decide ((e1 : Int) ≤ (ej : Int)) = false := by simp; omega
            have hb1n : decide (e1 ≤ ej) = false := by simp; omega
            have hb2 : ((e1 : Int) != (ej : Int) + 2) = false := by simp; omega
            have hbd : e1 ≤ 5000 := by omega
            have HLN : Hid (e1 = ej + 2) := hln
            clear hal hfl hfp hw hf0 hln
            go_wp2_with fail
            go_quiet ((go_at_call 16; exact Calls.quiet_of_same (vlen_calls x _ hx)))
            clear hb1 hb1n hb2
            have HRQ : Hid (Rd (w6.drewN nq) R GG ((acc X D k).take C) ej 0) := HRR.out.qt (Qt.drewN _ _)
            have HGQ : Hid (w5.grownBy (w6.drewN nq) (some R)) := grown_trans HGG.out ((Qt.drewN _ _).grown _)
            by_cases hcut : e1 ≤ C
            · obtain ⟨t, hz⟩ := HW.out hcut
              have HZ := hid_intro hz
              clear hz
              obtain ⟨r, hrx⟩ : ∃ r, r = x % 65536 := ⟨_, rfl⟩
              have hbr : ((r : Int) != (x : Int) % 65536) = false := by simp; omega
              have HRX := hid_intro hrx
              clear hrx
              go_wp2_with fail
              refine (getw2_ok R GG _ t ej x r _ HRX.out HRQ.out HBZ.out hx HZ.out).mono ?_
              rintro en w7 ⟨rfl, hr, hg⟩
              have G7 : Hid (w5.grownBy w7 (some R)) := grown_trans HGQ.out hg
              have R7 : Hid (Rd w7 R GG ((acc X D k).take C) e1 0) := by show Rd _ _ _ _ _ _; rw [HLN.out]; exact hr
              clear hr hg
              go_wp2_with fail
              refine (err_any R GG _ e1 0 _ R7.out).mono ?_
              rintro en w8 ⟨rfl, hq⟩
              have G8 : Hid (w5.grownBy w8 (some R)) := grown_trans G7.out (hq.grown _)
              have R8 : Hid (Rd w8 R GG ((acc X D k).take C) e1 0) := R7.out.qt hq
              have ce8 := HCE.out w8 G8.out
              have c08 := HC0.out w8 G8.out
              have hbl : (((C - e1 : Nat) : Int) != (C : Int) - (e1 : Int)) = false := by simp; omega
              clear hq
              go_wp2
              go_quiet ((first | (go_at_call 21; exact Calls.quiet_of_same (num_any _ _)) | (go_at_call 22; exact left_inquiet R GG _ e1 (C - e1) w8 _ R8.out (by rw [HLZ.out]))))
              go_wp2
              go_roundw
              case rel => exact HNX.out _ _ _ hcut rfl rfl (R8.out.qt (Qt.drewN _ _)) (grown_trans G8.out ((Qt.drewN _ _).grown _))
              case measure => simp [intOf]; omega
            · have hz := HP.out (by omega)
              have HZ := hid_intro hz
              clear hz
              go_wp2_with fail
              refine (getw2_cut R GG _ ej x (C - ej) _ HRQ.out HBZ.out hx (by have := HLN.out; omega) HZ.out).mono ?_
              rintro en w7 ⟨rfl, hr, hg⟩
              have G7 : Hid (w5.grownBy w7 (some R)) := grown_trans HGQ.out hg
              have R7 : Hid (Rd w7 R GG ((acc X D k).take C) ej 10) := hr
              clear hr hg
              go_wp2_with fail
              refine (err_any R GG _ ej 10 _ R7.out).mono ?_
              rintro en w8 ⟨rfl, hq⟩
              have G8 : Hid (w5.grownBy w8 (some R)) := grown_trans G7.out (hq.grown _)
              have R8 : Hid (Rd w8 R GG ((acc X D k).take C) ej 10) := R7.out.qt hq
              have ce8 := HCE.out w8 G8.out
              clear hq
              go_wp2_with (go_at_call 21; refine (num_any _ _).mono ?_; rintro en w9 ⟨rfl, rfl⟩)
              refine (left_broken R GG _ ej 10 _ R8.out rfl).mono ?_
              rintro en w10 ⟨rfl, hq⟩
              have G10 : Hid (w.grownBy w10 none) := grown_new G5.out (grown_trans G8.out (hq.grown _)) HWR.out
              clear hq
              go_wp2
              go_ret
              exact ⟨rfl, Below_of G10.out⟩
          · rw [hw] at hfl hfp HW HP hal
            rw [hw]
            have hf0 : form 4 x = lb 4 x := rfl
            have hln : e1 = ej + 4 := by rw [hal, hfl]; rfl
            rw [hf0] at HW HP
            have hb1 : decide ((e1 : Int) ≤ (ej : Int)) = false := by simp; omega
            have hb1n : decide (e1 ≤ ej) = false := by simp; omega
            have hb2 : ((e1 : Int) != (ej : Int) + 4) = false := by simp; omega
            have hbd : e1 ≤ 5000 := by omega
            have HLN : Hid (e1 = ej + 4) := hln
            clear hal hfl hfp hw hf0 hln
            go_wp2_with fail
            go_quiet ((go_at_call 16; exact Calls.quiet_of_same (vlen_calls x _ hx)))
            clear hb1 hb1n hb2
            have HRQ : Hid (Rd (w6.drewN nq) R GG ((acc X D k).take C) ej 0) := HRR.out.qt (Qt.drewN _ _)
            have HGQ : Hid (w5.grownBy (w6.drewN nq) (some R)) := grown_trans HGG.out ((Qt.drewN _ _).grown _)
            by_cases hcut : e1 ≤ C
            · obtain ⟨t, hz⟩ := HW.out hcut
              have HZ := hid_intro hz
              clear hz
              obtain ⟨r, hrx⟩ : ∃ r, r = x % 4294967296 := ⟨_, rfl⟩
              have hbr : ((r : Int) != (x : Int) % 4294967296) = false := by simp; omega
              have HRX := hid_intro hrx
              clear hrx
              go_wp2_with fail
              refine (getw4_ok R GG _ t ej x r _ HRX.out HRQ.out HBZ.out hx HZ.out).mono ?_
              rintro en w7 ⟨rfl, hr, hg⟩
              have G7 : Hid (w5.grownBy w7 (some R)) := grown_trans HGQ.out hg
              have R7 : Hid (Rd w7 R GG ((acc X D k).take C) e1 0) := by show Rd _ _ _ _ _ _; rw [HLN.out]; exact hr
              clear hr hg
              go_wp2_with fail
              refine (err_any R GG _ e1 0 _ R7.out).mono ?_
              rintro en w8 ⟨rfl, hq⟩
              have G8 : Hid (w5.grownBy w8 (some R)) := grown_trans G7.out (hq.grown _)
              have R8 : Hid (Rd w8 R GG ((acc X D k).take C) e1 0) := R7.out.qt hq
              have ce8 := HCE.out w8 G8.out
              have c08 := HC0.out w8 G8.out
              have hbl : (((C - e1 : Nat) : Int) != (C : Int) - (e1 : Int)) = false := by simp; omega
              clear hq
              go_wp2
              go_quiet ((first | (go_at_call 21; exact Calls.quiet_of_same (num_any _ _)) | (go_at_call 22; exact left_inquiet R GG _ e1 (C - e1) w8 _ R8.out (by rw [HLZ.out]))))
              go_wp2
              go_roundw
              case rel => exact HNX.out _ _ _ hcut rfl rfl (R8.out.qt (Qt.drewN _ _)) (grown_trans G8.out ((Qt.drewN _ _).grown _))
              case measure => simp [intOf]; omega
            · have hz := HP.out (by omega)
              have HZ := hid_intro hz
              clear hz
              go_wp2_with fail
              refine (getw4_cut R GG _ ej x (C - ej) _ HRQ.out HBZ.out hx (by have := HLN.out; omega) HZ.out).mono ?_
              rintro en w7 ⟨rfl, hr, hg⟩
              have G7 : Hid (w5.grownBy w7 (some R)) := grown_trans HGQ.out hg
              have R7 : Hid (Rd w7 R GG ((acc X D k).take C) ej 10) := hr
              clear hr hg
              go_wp2_with fail
              refine (err_any R GG _ ej 10 _ R7.out).mono ?_
              rintro en w8 ⟨rfl, hq⟩
              have G8 : Hid (w5.grownBy w8 (some R)) := grown_trans G7.out (hq.grown _)
              have R8 : Hid (Rd w8 R GG ((acc X D k).take C) ej 10) := R7.out.qt hq
              have ce8 := HCE.out w8 G8.out
              clear hq
              go_wp2_with (go_at_call 21; refine (num_any _ _).mono ?_; rintro en w9 ⟨rfl, rfl⟩)
              refine (left_broken R GG _ ej 10 _ R8.out rfl).mono ?_
              rintro en w10 ⟨rfl, hq⟩
              have G10 : Hid (w.grownBy w10 none) := grown_new G5.out (grown_trans G8.out (hq.grown _)) HWR.out
              clear hq
              go_wp2
              go_ret
              exact ⟨rfl, Below_of G10.out⟩
          · rw [hw] at hfl hfp HW HP hal
            rw [hw]
            have hf0 : form 8 x = lb 8 x := rfl
            have hln : e1 = ej + 8 := by rw [hal, hfl]; rfl
            rw [hf0] at HW HP
            have hb1 : decide ((e1 : Int) ≤ (ej : Int)) = false := by simp; omega
            have hb1n : decide (e1 ≤ ej) = false := by simp; omega
            have hb2 : ((e1 : Int) != (ej : Int) + 8) = false := by simp; omega
            have hbd : e1 ≤ 5000 := by omega
            have HLN : Hid (e1 = ej + 8) := hln
            clear hal hfl hfp hw hf0 hln
            go_wp2_with fail
            go_quiet ((go_at_call 16; exact Calls.quiet_of_same (vlen_calls x _ hx)))
            clear hb1 hb1n hb2
            have HRQ : Hid (Rd (w6.drewN nq) R GG ((acc X D k).take C) ej 0) := HRR.out.qt (Qt.drewN _ _)
            have HGQ : Hid (w5.grownBy (w6.drewN nq) (some R)) := grown_trans HGG.out ((Qt.drewN _ _).grown _)
            by_cases hcut : e1 ≤ C
            · obtain ⟨t, hz⟩ := HW.out hcut
              have HZ := hid_intro hz
              clear hz
              go_wp2_with fail
              refine (getw8_ok R GG _ t ej x _ HRQ.out HBZ.out hx HZ.out).mono ?_
              rintro en w7 ⟨rfl, hr, hg⟩
              have G7 : Hid (w5.grownBy w7 (some R)) := grown_trans HGQ.out hg
              have R7 : Hid (Rd w7 R GG ((acc X D k).take C) e1 0) := by show Rd _ _ _ _ _ _; rw [HLN.out]; exact hr
              clear hr hg
              go_wp2_with fail
              refine (err_any R GG _ e1 0 _ R7.out).mono ?_
              rintro en w8 ⟨rfl, hq⟩
              have G8 : Hid (w5.grownBy w8 (some R)) := grown_trans G7.out (hq.grown _)
              have R8 : Hid (Rd w8 R GG ((acc X D k).take C) e1 0) := R7.out.qt hq
              have ce8 := HCE.out w8 G8.out
              have c08 := HC0.out w8 G8.out
              have hbl : (((C - e1 : Nat) : Int) != (C : Int) - (e1 : Int)) = false := by simp; omega
              clear hq
              go_wp2
              go_quiet ((first | (go_at_call 21; exact Calls.quiet_of_same (num_any _ _)) | (go_at_call 22; exact left_inquiet R GG _ e1 (C - e1) w8 _ R8.out (by rw [HLZ.out]))))
              go_wp2
              go_roundw
              case rel => exact HNX.out _ _ _ hcut rfl rfl (R8.out.qt (Qt.drewN _ _)) (grown_trans G8.out ((Qt.drewN _ _).grown _))
              case measure => simp [intOf]; omega
            · have hz := HP.out (by omega)
              have HZ := hid_intro hz
              clear hz
              go_wp2_with fail
              refine (getw8_cut R GG _ ej x (C - ej) _ HRQ.out HBZ.out hx (by have := HLN.out; omega) HZ.out).mono ?_
              rintro en w7 ⟨rfl, hr, hg⟩
              have G7 : Hid (w5.grownBy w7 (some R)) := grown_trans HGQ.out hg
              have R7 : Hid (Rd w7 R GG ((acc X D k).take C) ej 10) := hr
              clear hr hg
              go_wp2_with fail
              refine (err_any R GG _ ej 10 _ R7.out).mono ?_
              rintro en w8 ⟨rfl, hq⟩
              have G8 : Hid (w5.grownBy w8 (some R)) := grown_trans G7.out (hq.grown _)
              have R8 : Hid (Rd w8 R GG ((acc X D k).take C) ej 10) := R7.out.qt hq
              have ce8 := HCE.out w8 G8.out
              clear hq
              go_wp2_with (go_at_call 21; refine (num_any _ _).mono ?_; rintro en w9 ⟨rfl, rfl⟩)
              refine (left_broken R GG _ ej 10 _ R8.out rfl).mono ?_
              rintro en w10 ⟨rfl, hq⟩
              have G10 : Hid (w.grownBy w10 none) := grown_new G5.out (grown_trans G8.out (hq.grown _)) HWR.out
              clear hq
              go_wp2
              go_ret
              exact ⟨rfl, Below_of G10.out⟩
        · have hjk : j = k := by omega
          subst hjk
          go_wp2_with fail
          refine (left_whole R GG _ _ _ HRR.out).mono ?_
          rintro en w6 ⟨rfl, hq⟩
          have G6 : Hid (w.grownBy w6 none) := grown_new G5.out (grown_trans HGG.out (hq.grown _)) HWR.out
          rw [HLZ.out]
          rw [← HN.out]
          have HCN : Hid (C = N) := by show C = N; rw [← HN.out] at hjC; omega
          clear hq
          go_wp2
          go_ret
          refine ⟨ret_true ?_, Below_of G6.out⟩
          have := HCN.out
          simp; omega
end Go.Proofs.Ythebdbdahdegfaa
