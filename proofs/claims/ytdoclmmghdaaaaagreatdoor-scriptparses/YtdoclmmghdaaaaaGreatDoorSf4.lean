import Derived.Test.YtdoclmmghdaaaaaGreatDoorGrpT
namespace Go.Proofs.YtdoclmmghdaaaaaGreatDoor
open Go.RowKit

set_option maxHeartbeats 32000000 in
set_option maxRecDepth 100000 in
theorem refStep23 (T0 : List UInt8) (lw : List (List UInt8)) (g m c : Nat) (w : World) (hW : Wsl w g 0 (T0 :: lw)) (hn : lw.length = m) (hn2 : m ≤ 2000000) (hT : ∀ T ∈ T0 :: lw, T ≠ [] ∧ T.length ≤ 2000000000) :
    Calls Tryz.prog 22 #[.slice (some ⟨g, 0, none⟩) (m + 1) c] w fun en w' => SpP w (stp (T0 :: lw)) en w' := by
  obtain ⟨ip, hip, hp0, hp1, hp2⟩ := info_parts info_fateT
  have HW := hid_intro hW
  have HT := hid_intro hT
  have HN := hid_intro hn
  have HC0 : Hid (∀ W, w.grownBy W none → W.cell? ⟨g, 0, none⟩ = some (.string (tstr T0))) := fun W h => cell_keptS (hW 0 T0 rfl) h
  have hst : stp (T0 :: lw) = if kdw T0 = 0 then .error 231 else if m ≠ (fsx (kdw T0) m).length then .error 233 else flds (Opq.zero (kdw T0)) (fsx (kdw T0) m) lw := by
    unfold stp
    rw [List.length_cons, hn, Nat.add_sub_cancel]
    rfl
  have HS := hid_intro hst
  have hkl := kdw_lt T0
  have HKF := hid_intro (kfw_kdw T0)
  have HK1 : Hid (∀ k, kfw T0 (k + 1) = if 1 ≤ k ∧ wrd (k : Nat) = T0 then k else kfw T0 k) := fun k => rfl
  have HK0 : Hid (kfw T0 1 = 0) := by show _ = _; rw [HK1.out, if_neg (by omega)]; rfl
  have g1 := World.grownBy_alloc w (.cells #[.int .i64 0, .int .i64 0, .int .i64 0, .int .i64 0, .slice none 0 0, .slice none 0 0, .slice none 0 0, .slice none 0 0] 49) none
  have g2 := World.grownBy_alloc (w.alloc (.cells #[.int .i64 0, .int .i64 0, .int .i64 0, .int .i64 0, .slice none 0 0, .slice none 0 0, .slice none 0 0, .slice none 0 0] 49)) (.cells #[.int .i64 0, .int .i64 0, .int .i64 0, .int .i64 0, .slice none 0 0, .slice none 0 0, .slice none 0 0, .slice none 0 0] 49) none
  have xU := heap_keptS (heap_at0S w #[.int .i64 0, .int .i64 0, .int .i64 0, .int .i64 0, .slice none 0 0, .slice none 0 0, .slice none 0 0, .slice none 0 0] 49) g2
  have xO := heap_at0S (w.alloc (.cells #[.int .i64 0, .int .i64 0, .int .i64 0, .int .i64 0, .slice none 0 0, .slice none 0 0, .slice none 0 0, .slice none 0 0] 49)) #[.int .i64 0, .int .i64 0, .int .i64 0, .int .i64 0, .slice none 0 0, .slice none 0 0, .slice none 0 0, .slice none 0 0] 49
  rw [size_allocD] at xO
  have XU := hid_intro xU
  have XO := hid_intro xO
  have G2 := hid_intro (grown_trans g1 g2)
  clear hW hT hst hn g1 g2 xU xO
  generalize stp (T0 :: lw) = R at *
  go_enter Tryz.func22, Tryz.ntmps22
  go_upto_region 2 with fail
  generalize (w.alloc (.cells #[.int .i64 0, .int .i64 0, .int .i64 0, .int .i64 0, .slice none 0 0, .slice none 0 0, .slice none 0 0, .slice none 0 0] 49)).alloc (.cells #[.int .i64 0, .int .i64 0, .int .i64 0, .int .i64 0, .slice none 0 0, .slice none 0 0, .slice none 0 0, .slice none 0 0] 49) = w2 at *
  obtain ⟨U, hU⟩ : ∃ U, w.heap.size = U := ⟨_, rfl⟩
  rw [hU] at XU XO ⊢
  have HUE := hid_intro hU
  have HUW : Hid (w.heap.size ≤ U) := by show _ ≤ _; rw [hU]; exact Nat.le_refl _
  have HOW : Hid (w.heap.size ≤ U + 1) := by show _ ≤ _; rw [hU]; exact Nat.le_succ _
  clear hU
  go_wp2
  go_loopw [5] (fun sk wr => ∃ k : Nat, 1 ≤ k ∧ k ≤ 23 ∧ sk = .int .i64 (k : Nat) ∧ w.grownBy wr none ∧ wr.heap[U + 1]? = some (.cells #[.int .i64 (kfw T0 k : Nat), .int .i64 0, .int .i64 0, .int .i64 0, .slice none 0 0, .slice none 0 0, .slice none 0 0, .slice none 0 0] 49 (0, 0)) ∧ wr.heap[U]? = some (.cells #[.int .i64 0, .int .i64 0, .int .i64 0, .int .i64 0, .slice none 0 0, .slice none 0 0, .slice none 0 0, .slice none 0 0] 49 (0, 0))) (fun sk _ => 23 - (intOf sk).toNat)
  case atStart => exact ⟨1, Nat.le_refl _, by omega, rfl, G2.out, by rw [HK0.out]; exact XO.out, XU.out⟩
  case round =>
    obtain ⟨k, hk1, hk2, rfl, hg, hO, hU⟩ := hrel
    have HG := hid_intro hg
    have HO := hid_intro hO
    have HU := hid_intro hU
    clear hg hO hU G2 XO XU
    by_cases hk : k ≤ 22
    · have e1 : (k : Int) ≤ 22 := by omega
      have wk : IntKind.i64.wrap ((k : Int) + 1) = (k : Int) + 1 := wrap_small _ (by omega) (by omega)
      have c0 := HC0.out _ HG.out
      have HQ := hid_intro (fun W => refWord23_any (k : Int) W)
      have hcmp := str_eqb (wrd (k : Nat)) T0
      by_cases hw : wrd (k : Nat) = T0
      · rw [decide_eq_true hw] at hcmp
        have HKN : Hid (kfw T0 (k + 1) = k) := by show _ = _; rw [HK1.out, if_pos ⟨hk1, hw⟩]
        clear hw
        generalize tstr (wrd (k : Nat)) = sw at *
        go_wp2_with fail
        go_region_held3 (fun w' => w'.cell? ⟨g, 0, none⟩ = some (.string (tstr T0))) (first | exact c0 | exact T3.out | go_keep)
          (first | (go_at_call 38; refine (HQ.out wr.drew).mono ?_; rintro en w3 ⟨rfl, hg3⟩; have T3 := hid_intro (cell_keptS c0 (grown_undrew hg3)); have G3 := hid_intro (grown_undrew hg3); clear hg3) | fail)
        all_goals
          have O3 := hid_intro (heap_keptS HO.out G3.out)
          have U3 := hid_intro (heap_keptS HU.out G3.out)
          have GW := hid_intro (grown_trans HG.out G3.out)
          have d0 := cell_heapS (i := 0) O3.out rfl
          have z0 := frozen_of_row w3 (U + 1) 0 _ _ O3.out
          go_wp2
          have hb := heap_setCell_same w3 (U + 1) 0 _ _ (.int .i64 (k : Nat)) O3.out
          have gc := grown_cellS w3 (U + 1) 0 (.int .i64 (k : Nat))
          have hu : (w3.setCell ⟨U + 1, 0, none⟩ (.int .i64 (k : Nat))).heap[U]? = some (.cells #[.int .i64 0, .int .i64 0, .int .i64 0, .int .i64 0, .slice none 0 0, .slice none 0 0, .slice none 0 0, .slice none 0 0] 49 (0, 0)) := by
            rw [gc.block U (Array.getElem?_eq_some_iff.1 U3.out).1 (by simp)]
            exact U3.out
          have GN := hid_intro (grown_new GW.out gc HOW.out)
          go_roundw
          case rel => exact ⟨k + 1, by omega, by omega, by go_num, GN.out, by rw [HKN.out]; exact hb, hu⟩
          case measure => simp [intOf]; omega
      · rw [decide_eq_false hw] at hcmp
        have HKN : Hid (kfw T0 (k + 1) = kfw T0 k) := by show _ = _; rw [HK1.out, if_neg (fun h => hw h.2)]
        clear hw
        generalize tstr (wrd (k : Nat)) = sw at *
        go_wp2_with fail
        go_region_held3 (fun w' => w'.cell? ⟨g, 0, none⟩ = some (.string (tstr T0))) (first | exact c0 | exact T3.out | go_keep)
          (first | (go_at_call 38; refine (HQ.out wr.drew).mono ?_; rintro en w3 ⟨rfl, hg3⟩; have T3 := hid_intro (cell_keptS c0 (grown_undrew hg3)); have G3 := hid_intro (grown_undrew hg3); clear hg3) | fail)
        all_goals
          have O3 := hid_intro (heap_keptS HO.out G3.out)
          have U3 := hid_intro (heap_keptS HU.out G3.out)
          have GW := hid_intro (grown_trans HG.out G3.out)
          go_wp2
          go_roundw
          case rel => exact ⟨k + 1, by omega, by omega, by go_num, GW.out, by rw [HKN.out]; exact O3.out, U3.out⟩
          case measure => simp [intOf]; omega
    · obtain rfl : k = 23 := by omega
      rw [HKF.out] at HO
      clear HKF HK1 HK0 hk hk1 hk2
      obtain ⟨kd, hkd⟩ : ∃ kd, kdw T0 = kd := ⟨_, rfl⟩
      rw [hkd] at HO HS hkl
      clear hkd
      have d0 := cell_heapS (i := 0) HO.out rfl
      by_cases h0 : kd = 0
      · have HR : Hid (R = .error 231) := by show _ = _; rw [HS.out, if_pos h0]
        have g0 : ((kd : Int) == 0) = true := by rw [h0]; rfl
        clear h0 d0
        have d0 := cell_heapS (i := 0) HO.out rfl
        have d1 := cell_heapS (i := 1) HO.out rfl
        have d2 := cell_heapS (i := 2) HO.out rfl
        have d3 := cell_heapS (i := 3) HO.out rfl
        have d4 := cell_heapS (i := 4) HO.out rfl
        have d5 := cell_heapS (i := 5) HO.out rfl
        have d6 := cell_heapS (i := 6) HO.out rfl
        have d7 := cell_heapS (i := 7) HO.out rfl
        have u0 := cell_heapS (i := 0) HU.out rfl
        have zu0 := frozen_of_row wr U 0 _ _ HU.out
        have u1 := cell_heapS (i := 1) HU.out rfl
        have zu1 := frozen_of_row wr U 1 _ _ HU.out
        have u2 := cell_heapS (i := 2) HU.out rfl
        have zu2 := frozen_of_row wr U 2 _ _ HU.out
        have u3 := cell_heapS (i := 3) HU.out rfl
        have zu3 := frozen_of_row wr U 3 _ _ HU.out
        have u4 := cell_heapS (i := 4) HU.out rfl
        have zu4 := frozen_of_row wr U 4 _ _ HU.out
        have u5 := cell_heapS (i := 5) HU.out rfl
        have zu5 := frozen_of_row wr U 5 _ _ HU.out
        have u6 := cell_heapS (i := 6) HU.out rfl
        have zu6 := frozen_of_row wr U 6 _ _ HU.out
        have u7 := cell_heapS (i := 7) HU.out rfl
        have zu7 := frozen_of_row wr U 7 _ _ HU.out
        go_wp2
        obtain ⟨y1, y2⟩ := box8_put HU.out (.int .i64 (kd : Nat)) (.int .i64 0) (.int .i64 0) (.int .i64 0) (.slice none 0 0) (.slice none 0 0) (.slice none 0 0) (.slice none 0 0)
        refine bodyPost_ret (results_aop rfl _ _ U _ _ _ _ _ _ _ _ rfl y1) rfl ?_
        exact ⟨grown_new HG.out y2 HUW.out, .inr ⟨Opq.zero kd, _, _, _, _, _, _, _, _, 231, HR.out, by decide, rfl⟩⟩
      · have g0 : ((kd : Int) == 0) = false := by rw [beq_eq_false_iff_ne]; omega
        have HS2 : Hid (R = if m ≠ (fsx kd m).length then .error 233 else flds (Opq.zero kd) (fsx kd m) lw) := by show _ = _; rw [HS.out, if_neg h0]
        have I0 : Hid (OpI wr w.heap.size (U + 1) (Opq.zero kd) (.slice none 0 0) (.slice none 0 0) (.slice none 0 0) (.slice none 0 0)) := opI_new _ HO.out
        by_cases h16 : kd = 16
        · have g16 : ((kd : Int) == 16) = true := by rw [h16]; rfl
          have HS3 : Hid (R = flds (Opq.zero kd) (List.replicate (m - 0) 70) (lw.drop 0)) := by
            show _ = _
            have e : fsx kd m = List.replicate m 70 := by rw [h16]; rfl
            rw [HS2.out, e, List.length_replicate, if_neg (by simp)]
            rfl
          clear h16 HS2 HS h0
          go_wp2
          go_loopw [6, 7, 8] (fun si _ _ wr => ∃ (i j : Nat) (o : Opq) (kv vv hv fv : Value), i ≤ m ∧ j = i + 1 ∧ si = .int .i64 (j : Nat) ∧ w.grownBy wr none ∧ OpI wr w.heap.size (U + 1) o kv vv hv fv ∧ wr.heap[U]? = some (.cells #[.int .i64 0, .int .i64 0, .int .i64 0, .int .i64 0, .slice none 0 0, .slice none 0 0, .slice none 0 0, .slice none 0 0] 49 (0, 0)) ∧ R = flds o (List.replicate (m - i) 70) (lw.drop i) ∧ o.f.length ≤ i) (fun si _ _ _ => m + 1 - (intOf si).toNat)
          case atStart => exact ⟨0, 1, _, _, _, _, _, Nat.zero_le _, rfl, rfl, HG.out, I0.out, HU.out, HS3.out, Nat.le_refl _⟩
          case round =>
            obtain ⟨i, j, o, kv, vv, hv, fv, hi, hj, rfl, hg, hI, hU, hR, hfl⟩ := hrel
            have HG := hid_intro hg
            have HI := hid_intro hI
            have HU := hid_intro hU
            have HR := hid_intro hR
            have HJ := hid_intro hj
            clear hg hI hU hR I0 HS3 HO
            have hjm : (j : Int) ≤ 2000001 := by omega
            have hjz : (0 : Int) ≤ (j : Int) := by omega
            have wj : IntKind.i64.wrap ((j : Int) + 1) = (j : Int) + 1 := wrap_small _ (by omega) (by omega)
            obtain ⟨ka, kc, hkv⟩ := own_shape20 HI.out.key
            obtain ⟨va, vc, hvv⟩ := own_shape20 HI.out.val
            obtain ⟨ha, hc, hhv⟩ := own_shape20 HI.out.hi
            obtain ⟨fa, fc, hfv⟩ := own_shape20 HI.out.f
            subst hkv hvv hhv hfv
            by_cases him : i < m
            · have e1 : (j : Int) < (m : Int) + 1 := by omega
              obtain ⟨Tp, hTp⟩ : ∃ Tp, lw[i]? = some Tp := ⟨_, List.getElem?_eq_getElem (by have := HN.out; omega)⟩
              have hTf := HT.out Tp (List.mem_cons_of_mem _ (List.mem_of_getElem? hTp))
              have cw : wr.cell? ⟨g, j, none⟩ = some (.string (tstr Tp)) := by
                have := cell_keptS (HW.out (i + 1) Tp (by simpa using hTp)) HG.out
                rw [Nat.zero_add, ← HJ.out] at this
                exact this
              have HR2 : Hid (R = match fld o 70 Tp with | .ok o' => flds o' (List.replicate (m - (i + 1)) 70) (lw.drop (i + 1)) | .error e => .error e) := by
                show _ = _
                have hw1 := (List.getElem?_eq_some_iff.1 hTp).2
                rw [HR.out, List.drop_eq_getElem_cons (l := lw) (by have := HN.out; omega), hw1, show m - i = (m - (i + 1)) + 1 by omega, List.replicate_succ]
                rfl
              have HF : Hid (fld o 70 Tp = (fte Tp).map fun n => { o with f := o.f ++ [n] }) := by show _ = _; unfold fld; rw [if_neg (by decide), if_neg (by decide), if_neg (by decide), if_neg (by decide), if_neg (by decide), if_neg (by decide)]
              have HFT := hid_intro (fun W => refFate23 Tp W hTf.1 hTf.2)
              clear hTp hTf HR hj
              generalize tstr Tp = sp at *
              generalize fld o 70 Tp = FT at *
              go_wp2_with fail
              refine (HFT.out _).mono ?_
              rintro en w4 ⟨hg3, hu⟩
              rcases hu with ⟨k, a, e1', rfl⟩ | ⟨e, e1', e2', rfl⟩
              · rw [e1'] at HF
                have HR3 : Hid (R = flds { o with f := o.f ++ [(k, a)] } (List.replicate (m - (i + 1)) 70) (lw.drop (i + 1))) := by show _ = _; rw [HR2.out, HF.out]; rfl
                have ga := World.grownBy_alloc w4 (.cells #[.int .i64 k, .int .i64 a] 51) none
                have I4 := hid_intro (HI.out.keptN (grown_trans hg3 ga))
                have U4 := hid_intro (heap_keptS HU.out (grown_trans hg3 ga))
                have G4 := hid_intro (grown_trans HG.out (grown_trans hg3 ga))
                have xb := heap_at0S w4 #[.int .i64 k, .int .i64 a] 51
                have xb0 := cell_heapS (i := 0) xb rfl
                have xb1 := cell_heapS (i := 1) xb rfl
                obtain ⟨q, hq⟩ : ∃ q, o.f.length = q := ⟨_, rfl⟩
                have HM := hid_intro hq
                rw [hq] at hfl
                clear e1' hq xb HF HR2 hg3 ga
                go_upto_region 16 with fail
                generalize w4.alloc (.cells #[.int .i64 k, .int .i64 a] 51) = w5 at *
                have d7 : w5.cell? ⟨U + 1, 7, none⟩ = some (.slice fa q fc) := by rw [← HM.out]; exact cell_heapS (i := 7) I4.out.box rfl
                have hs5 : w.heap.size ≤ w5.heap.size := G4.out.size
                have hOl : U + 1 < w5.heap.size := (Array.getElem?_eq_some_iff.1 I4.out.box).1
                have HAP : Hid ((w5.alloc (.cells #[.int .i64 k, .int .i64 a] 51)).ownsRow w.heap.size 51 2 (.slice fa q fc) q (fcl o.f)) := by
                  have := I4.out.f
                  rw [HM.out] at this
                  exact this.alloc _
                have HZ : Hid (∀ (v8 : Value) (w8 : World), w8.ownsRow w.heap.size 51 2 v8 (q + 1) (fcl o.f ++ [.int .i64 k, .int .i64 a]) → (w5.alloc (.cells #[.int .i64 k, .int .i64 a] 51)).grownBy w8 (Value.slice fa q fc).ownBlock → w8.cell? ⟨U + 1, 7, none⟩ = some (.slice fa q fc) ∧ w8.frozen? ⟨U + 1, 7, none⟩ = false ∧ w.grownBy (w8.setCell ⟨U + 1, 7, none⟩ v8) none ∧ (w8.setCell ⟨U + 1, 7, none⟩ v8).heap[U]? = some (.cells #[.int .i64 0, .int .i64 0, .int .i64 0, .int .i64 0, .slice none 0 0, .slice none 0 0, .slice none 0 0, .slice none 0 0] 49 (0, 0)) ∧ OpI (w8.setCell ⟨U + 1, 7, none⟩ v8) w.heap.size (U + 1) { o with f := o.f ++ [(k, a)] } (.slice ka o.key.length kc) (.slice va o.val.length vc) (.slice ha o.hi.length hc) v8) := fun v8 w8 ho hg => by
                  have gb := World.grownBy_alloc w5 (.cells #[.int .i64 k, .int .i64 a] 51) none
                  have I5 := I4.out.keptN gb
                  have f5 := I5.f
                  rw [HM.out] at f5
                  have bx : w8.heap[U + 1]? = some (.cells #[.int .i64 o.k, .int .i64 o.a, .int .i64 o.b, .int .i64 o.c, .slice ka o.key.length kc, .slice va o.val.length vc, .slice ha o.hi.length hc, .slice fa o.f.length fc] 49 (0, 0)) := by
                    rw [hg.block (U + 1) (by simp; omega) (fun e => ?_)]
                    · exact I5.box
                    · rcases own_neB f5 I5.box (by decide) with h | h
                      · rw [h] at e; cases e
                      · exact h e.symm
                  have ux0 := heap_keptS U4.out gb
                  have ux : w8.heap[U]? = some (.cells #[.int .i64 0, .int .i64 0, .int .i64 0, .int .i64 0, .slice none 0 0, .slice none 0 0, .slice none 0 0, .slice none 0 0] 49 (0, 0)) := by
                    rw [hg.block U (by simp; omega) (fun e => ?_)]
                    · exact ux0
                    · rcases own_neB f5 ux0 (by decide) with h | h
                      · rw [h] at e; cases e
                      · exact h e.symm
                  have hb := heap_setCell_same w8 (U + 1) 7 _ _ v8 bx
                  have hg2 := grown_cellS w8 (U + 1) 7 v8
                  have k8 := I5.key.kept hg (own_neD I5.key f5 (by decide))
                  have v8' := I5.val.kept hg (own_neD I5.val f5 (by decide))
                  have h8 := I5.hi.kept hg (own_neD I5.hi f5 (by decide))
                  have gA := grown_trans G4.out gb
                  have gB := grown_ofBelow gA (below_ownS hg f5 gA.size)
                  refine ⟨?_, frozen_of_row w8 (U + 1) 7 _ _ bx, grown_new gB hg2 HOW.out, ?_, hb, OpI.own k8 bx (by decide) hg2, OpI.own v8' bx (by decide) hg2, OpI.own h8 bx (by decide) hg2, ?_, I5.bk, I5.bv, I5.bh⟩
                  · rw [← HM.out]; exact cell_heapS (i := 7) bx rfl
                  · rw [hg2.block U (Array.getElem?_eq_some_iff.1 ux).1 (by simp)]
                    exact ux
                  · refine OpI.own ?_ bx (by decide) hg2
                    show w8.ownsRow w.heap.size 51 2 v8 (o.f ++ [(k, a)]).length (fcl (o.f ++ [(k, a)]))
                    rw [fcl_app, List.length_append, HM.out]
                    exact ho
                go_wp2_with (at_builtin; refine wpList_append_own _ rfl _ _ 47 rfl w.heap.size 51 ip (.agg #[.int .i64 0, .int .i64 0]) 2 16 Tryz.underlying47 hip hp0 hp1 hp2 rfl (by decide) _ _ _ rfl HAP.out ⟨w5.heap.size, 0, none⟩ 1 1 [.int .i64 k, .int .i64 a] rfl rfl (by exact cell_two_new _ _ _ _) (by intro u hu; simp at hu; rcases hu with rfl | rfl <;> rfl) (by unfold maxLen; omega) (by omega) (by simp; omega) ?_)
                intro v8 w8 ho8 hg8 _
                have Z8 := HZ.out v8 w8 ho8 hg8
                obtain ⟨va8, vc8, hv8⟩ := own_shape20 ho8
                subst hv8
                have c8 := Z8.1
                have f8 := Z8.2.1
                have ZZ := hid_intro Z8
                clear ho8 hg8 Z8 HZ HAP
                go_wp2
                refine ⟨?_, ?measure⟩
                (repeat apply Exists.intro)
                refine ⟨?rel, rfl⟩
                case rel => exact ⟨i + 1, j + 1, _, _, _, _, _, by omega, by have := HJ.out; omega, by go_num, ZZ.out.2.2.1, ZZ.out.2.2.2.2, ZZ.out.2.2.2.1, HR3.out, by show (o.f ++ [(k, a)]).length ≤ _; rw [List.length_append, HM.out]; simp; omega⟩
                case measure => simp [intOf]; omega
              · rw [e1'] at HF
                have HR3 : Hid (R = .error e) := by show _ = _; rw [HR2.out, HF.out]; rfl
                have ger : (e == 0) = false := by rw [beq_eq_false_iff_ne]; exact e2'
                have HE2 := hid_intro e2'
                have ga := World.grownBy_alloc w4 (.cells #[.int .i64 0, .int .i64 0] 51) none
                have O4 := hid_intro (heap_keptS HI.out.box (grown_trans hg3 ga))
                have U4 := hid_intro (heap_keptS HU.out (grown_trans hg3 ga))
                have G4 := hid_intro (grown_trans HG.out (grown_trans hg3 ga))
                clear e1' e2' HF HR2 hg3 ga
                go_upto_region 14 with fail
                generalize w4.alloc (.cells #[.int .i64 0, .int .i64 0] 51) = w5 at *
                have d0 := cell_heapS (i := 0) O4.out rfl
                have d1 := cell_heapS (i := 1) O4.out rfl
                have d2 := cell_heapS (i := 2) O4.out rfl
                have d3 := cell_heapS (i := 3) O4.out rfl
                have d4 := cell_heapS (i := 4) O4.out rfl
                have d5 := cell_heapS (i := 5) O4.out rfl
                have d6 := cell_heapS (i := 6) O4.out rfl
                have d7 := cell_heapS (i := 7) O4.out rfl
                have u0 := cell_heapS (i := 0) U4.out rfl
                have zu0 := frozen_of_row w5 U 0 _ _ U4.out
                have u1 := cell_heapS (i := 1) U4.out rfl
                have zu1 := frozen_of_row w5 U 1 _ _ U4.out
                have u2 := cell_heapS (i := 2) U4.out rfl
                have zu2 := frozen_of_row w5 U 2 _ _ U4.out
                have u3 := cell_heapS (i := 3) U4.out rfl
                have zu3 := frozen_of_row w5 U 3 _ _ U4.out
                have u4 := cell_heapS (i := 4) U4.out rfl
                have zu4 := frozen_of_row w5 U 4 _ _ U4.out
                have u5 := cell_heapS (i := 5) U4.out rfl
                have zu5 := frozen_of_row w5 U 5 _ _ U4.out
                have u6 := cell_heapS (i := 6) U4.out rfl
                have zu6 := frozen_of_row w5 U 6 _ _ U4.out
                have u7 := cell_heapS (i := 7) U4.out rfl
                have zu7 := frozen_of_row w5 U 7 _ _ U4.out
                go_wp2
                obtain ⟨y1, y2⟩ := box8_put U4.out (.int .i64 o.k) (.int .i64 o.a) (.int .i64 o.b) (.int .i64 o.c) (.slice ka o.key.length kc) (.slice va o.val.length vc) (.slice ha o.hi.length hc) (.slice fa o.f.length fc)
                refine bodyPost_ret (results_aop rfl _ _ U _ _ _ _ _ _ _ _ rfl y1) rfl ?_
                exact ⟨grown_new G4.out y2 HUW.out, .inr ⟨o, _, _, _, _, _, _, _, _, e, HR3.out, HE2.out, rfl⟩⟩
            · obtain rfl : i = m := by omega
              have e1 : ¬ (j : Int) < (i : Int) + 1 := by have := HJ.out; omega
              have HR3 : Hid (R = .ok o) := by show _ = _; rw [HR.out, Nat.sub_self]; cases lw.drop i <;> rfl
              have HV := hid_intro HI.out.v
              have HO2 := hid_intro HI.out.box
              clear HR him hj hi
              have d0 := cell_heapS (i := 0) HO2.out rfl
              have d1 := cell_heapS (i := 1) HO2.out rfl
              have d2 := cell_heapS (i := 2) HO2.out rfl
              have d3 := cell_heapS (i := 3) HO2.out rfl
              have d4 := cell_heapS (i := 4) HO2.out rfl
              have d5 := cell_heapS (i := 5) HO2.out rfl
              have d6 := cell_heapS (i := 6) HO2.out rfl
              have d7 := cell_heapS (i := 7) HO2.out rfl
              have u0 := cell_heapS (i := 0) HU.out rfl
              have zu0 := frozen_of_row wr U 0 _ _ HU.out
              have u1 := cell_heapS (i := 1) HU.out rfl
              have zu1 := frozen_of_row wr U 1 _ _ HU.out
              have u2 := cell_heapS (i := 2) HU.out rfl
              have zu2 := frozen_of_row wr U 2 _ _ HU.out
              have u3 := cell_heapS (i := 3) HU.out rfl
              have zu3 := frozen_of_row wr U 3 _ _ HU.out
              have u4 := cell_heapS (i := 4) HU.out rfl
              have zu4 := frozen_of_row wr U 4 _ _ HU.out
              have u5 := cell_heapS (i := 5) HU.out rfl
              have zu5 := frozen_of_row wr U 5 _ _ HU.out
              have u6 := cell_heapS (i := 6) HU.out rfl
              have zu6 := frozen_of_row wr U 6 _ _ HU.out
              have u7 := cell_heapS (i := 7) HU.out rfl
              have zu7 := frozen_of_row wr U 7 _ _ HU.out
              go_wp2
              obtain ⟨y1, y2⟩ := box8_put HU.out (.int .i64 o.k) (.int .i64 o.a) (.int .i64 o.b) (.int .i64 o.c) (.slice ka o.key.length kc) (.slice va o.val.length vc) (.slice ha o.hi.length hc) (.slice fa o.f.length fc)
              refine bodyPost_ret (results_aop rfl _ _ U _ _ _ _ _ _ _ _ rfl y1) rfl ?_
              exact ⟨grown_new HG.out y2 HUW.out, .inl ⟨o, ka, kc, va, vc, ha, hc, fa, fc, HR3.out, rfl, HV.out.one HU.out (by decide) (by decide) y2⟩⟩
        · have g16 : ((kd : Int) == 16) = false := by rw [beq_eq_false_iff_ne]; omega
          have hfx : fsx kd m = fds (kd : Nat) := by
            unfold fsx fds
            rw [Int.toNat_natCast, if_neg (fds_no ⟨kd, by omega⟩ h16).1]
          have hf6 : ∀ x ∈ fds (kd : Nat), x ∈ lt6s := by
            intro x hx
            unfold fds at hx
            rw [Int.toNat_natCast] at hx
            exact fds_lt6 ⟨kd, by omega⟩ h16 x hx
          have HF6 := hid_intro hf6
          rw [hfx] at HS2
          have HFD := hid_intro (fun W => refFields23_any kd (by omega) (by omega) W)
          clear hfx hf6 HS h16 h0
          obtain ⟨fs, hfs⟩ : ∃ fs, fds (kd : Nat) = fs := ⟨_, rfl⟩
          rw [hfs] at HS2 HFD HF6
          clear hfs
          have hzf := tstr_size fs
          have HTD := hid_intro (tstr_data fs)
          generalize tstr fs = s at *
          go_wp2_with fail
          refine (HFD.out _).mono ?_
          rintro en w4 ⟨rfl, hg4⟩
          have I4 := hid_intro (I0.out.keptN hg4)
          have U4 := hid_intro (heap_keptS HU.out hg4)
          have G4 := hid_intro (grown_trans HG.out hg4)
          have hmz : (m : Int) + 1 - 1 = (m : Int) := by omega
          have wm : IntKind.i64.wrap ((m : Int) + 1 - 1) = (m : Int) := by rw [hmz]; exact wrap_small _ (by omega) (by omega)
          clear hg4 HFD I0 HU HG HO d0
          by_cases hlen : m = fs.length
          · have hsz : s.size = m := by omega
            have HS3 : Hid (R = flds (Opq.zero kd) (fs.drop 0) (lw.drop 0)) := by show _ = _; rw [HS2.out, if_neg (by simp [hlen])]; rfl
            have gl : ((m : Int) == (s.size : Int)) = true := by rw [hsz]; simp
            clear HS2 hlen
            have HSZ := hid_intro hsz
            have HZF := hid_intro hzf
            clear hsz hzf
            go_wp2
            go_loopw [10, 11] (fun _ si wr => ∃ (i : Nat) (o : Opq) (kv vv hv fv : Value), i ≤ m ∧ si = .int .i64 (i : Nat) ∧ w.grownBy wr none ∧ OpI wr w.heap.size (U + 1) o kv vv hv fv ∧ wr.heap[U]? = some (.cells #[.int .i64 0, .int .i64 0, .int .i64 0, .int .i64 0, .slice none 0 0, .slice none 0 0, .slice none 0 0, .slice none 0 0] 49 (0, 0)) ∧ R = flds o (fs.drop i) (lw.drop i)) (fun _ si _ => m - (intOf si).toNat)
            case atStart => exact ⟨0, _, _, _, _, _, Nat.zero_le _, rfl, G4.out, I4.out, U4.out, HS3.out⟩
            case round =>
              obtain ⟨i, o, kv, vv, hv, fv, hi, rfl, hg, hI, hU, hR⟩ := hrel
              have HG := hid_intro hg
              have HI := hid_intro hI
              have HU := hid_intro hU
              have HR := hid_intro hR
              clear hg hI hU hR I4 U4 G4 HS3
              obtain ⟨ka, kc, hkv⟩ := own_shape20 HI.out.key
              obtain ⟨va, vc, hvv⟩ := own_shape20 HI.out.val
              obtain ⟨ha, hc, hhv⟩ := own_shape20 HI.out.hi
              obtain ⟨fa, fc, hfv⟩ := own_shape20 HI.out.f
              subst hkv hvv hhv hfv
              have hsm : (s.size : Int) = (m : Int) := by have := HSZ.out; omega
              by_cases him : i < m
              · have hps : i < s.size := by have := HSZ.out; omega
                have e1 : (i : Int) < (s.size : Int) := by omega
                have e2 : (0 : Int) ≤ (i : Int) := by omega
                have e3 : (i : Int) + 1 < (m : Int) + 1 := by omega
                have e4 : (0 : Int) ≤ (i : Int) + 1 := by omega
                have wi : IntKind.i64.wrap ((i : Int) + 1) = (i : Int) + 1 := wrap_small _ (by omega) (by omega)
                have t1 : ((i : Int) + 1).toNat = i + 1 := by omega
                obtain ⟨Tp, hTp⟩ : ∃ Tp, lw[i]? = some Tp := ⟨_, List.getElem?_eq_getElem (by have := HN.out; omega)⟩
                have hTf := HT.out Tp (List.mem_cons_of_mem _ (List.mem_of_getElem? hTp))
                have HCW : Hid (∀ W, w.grownBy W none → W.cell? ⟨g, i + 1, none⟩ = some (.string (tstr Tp))) := fun W hW => by
                  have := cell_keptS (HW.out (i + 1) Tp (by simpa using hTp)) hW
                  rw [Nat.zero_add] at this
                  exact this
                have cw := HCW.out _ HG.out
                have hfl2 : i < fs.length := by have := HZF.out; omega
                have hgd := getD_data s i hps
                rw [HTD.out] at hgd
                have hfc : fs[i]'hfl2 = s[i]'hps := by rw [← hgd, List.getD, List.getElem?_eq_getElem hfl2]; rfl
                have hc6 : (s[i]'hps) ∈ lt6s := HF6.out _ (by rw [← hfc]; exact List.getElem_mem hfl2)
                have HR2 : Hid (R = match fld o (s[i]'hps) Tp with | .ok o' => flds o' (fs.drop (i + 1)) (lw.drop (i + 1)) | .error e => .error e) := by
                  show _ = _
                  have hw1 := (List.getElem?_eq_some_iff.1 hTp).2
                  rw [HR.out, List.drop_eq_getElem_cons (l := lw) (by have := HN.out; omega), hw1, List.drop_eq_getElem_cons hfl2, hfc]
                  rfl
                have HFL : Hid (∀ W, wr.grownBy W none → Calls Tryz.prog 41 #[.agg #[.int .i64 o.k, .int .i64 o.a, .int .i64 o.b, .int .i64 o.c, .slice ka o.key.length kc, .slice va o.val.length vc, .slice ha o.hi.length hc, .slice fa o.f.length fc], .int .u8 ((s[i]'hps).toNat : Nat), .string (tstr Tp)] W fun en w' => FlP W w.heap.size o (.slice ka o.key.length kc) (.slice va o.val.length vc) (.slice ha o.hi.length hc) (.slice fa o.f.length fc) (fld o (s[i]'hps) Tp) en w') := fun W hW => refFilled23 o ka kc va vc ha hc fa fc (s[i]'hps) hc6 Tp W w.heap.size (Nat.le_trans HG.out.size hW.size) (HI.out.v.keptN hW) hTf.2
                have hgU : g ≠ U + 1 := by
                  have h1 := HW.out 0 T0 rfl
                  have h2 := cell_ltS h1
                  have h3 := HUE.out
                  omega
                obtain ⟨ch, hch⟩ : ∃ ch, s[i]'hps = ch := ⟨_, rfl⟩
                rw [hch] at HFL HR2
                clear hTp hTf HR hgd hfc hc6 hfl2 hsm
                have HO2 := hid_intro HI.out.box
                generalize tstr Tp = sp at *
                go_wp2_with fail
                refine step_r25 HO2.out HU.out HG.out HOW.out cw hgU hps hch him hn2 HFL.out ?_
                intro v10 v73 v74 v75 v76 v77 v78 v79 v80 v81 v82 v83 v84 v85 w9 hrl
                obtain ⟨o7, ka7, kc7, va7, vc7, ha7, hc7, fa7, fc7, er, he10, y1, u9, g9, hr7⟩ := hrl
                subst he10
                have HR7 := hid_intro hr7
                have Y1 := hid_intro y1
                have U9 := hid_intro u9
                have G9 := hid_intro g9
                clear hr7 y1 u9 g9
                apply_assumption
                rcases HR7.out with ⟨q1, q2, q3⟩ | ⟨q1, q2⟩
                · subst q1
                  have HR3 : Hid (R = flds o7 (fs.drop (i + 1)) (lw.drop (i + 1))) := by show _ = _; rw [HR2.out, q2]
                  have I9 := hid_intro (opI_at Y1.out (q3))
                  clear q2 q3 HR2
                  go_wp2
                  go_roundw
                  case rel => exact ⟨i + 1, _, _, _, _, _, by omega, by go_num, G9.out, I9.out, U9.out, HR3.out⟩
                  case measure => simp [intOf]; omega
                · have HR3 : Hid (R = .error er) := by show _ = _; rw [HR2.out, q2]
                  have ger : (er == 0) = false := by rw [beq_eq_false_iff_ne]; exact q1
                  have HE2 := hid_intro q1
                  clear q1 q2 HR2
                  have d0 := cell_heapS (i := 0) Y1.out rfl
                  have d1 := cell_heapS (i := 1) Y1.out rfl
                  have d2 := cell_heapS (i := 2) Y1.out rfl
                  have d3 := cell_heapS (i := 3) Y1.out rfl
                  have d4 := cell_heapS (i := 4) Y1.out rfl
                  have d5 := cell_heapS (i := 5) Y1.out rfl
                  have d6 := cell_heapS (i := 6) Y1.out rfl
                  have d7 := cell_heapS (i := 7) Y1.out rfl
                  have u0 := cell_heapS (i := 0) U9.out rfl
                  have zu0 := frozen_of_row w9 U 0 _ _ U9.out
                  have u1 := cell_heapS (i := 1) U9.out rfl
                  have zu1 := frozen_of_row w9 U 1 _ _ U9.out
                  have u2 := cell_heapS (i := 2) U9.out rfl
                  have zu2 := frozen_of_row w9 U 2 _ _ U9.out
                  have u3 := cell_heapS (i := 3) U9.out rfl
                  have zu3 := frozen_of_row w9 U 3 _ _ U9.out
                  have u4 := cell_heapS (i := 4) U9.out rfl
                  have zu4 := frozen_of_row w9 U 4 _ _ U9.out
                  have u5 := cell_heapS (i := 5) U9.out rfl
                  have zu5 := frozen_of_row w9 U 5 _ _ U9.out
                  have u6 := cell_heapS (i := 6) U9.out rfl
                  have zu6 := frozen_of_row w9 U 6 _ _ U9.out
                  have u7 := cell_heapS (i := 7) U9.out rfl
                  have zu7 := frozen_of_row w9 U 7 _ _ U9.out
                  go_wp2
                  obtain ⟨y1, y2⟩ := box8_put U9.out (.int .i64 o7.k) (.int .i64 o7.a) (.int .i64 o7.b) (.int .i64 o7.c) (.slice ka7 o7.key.length kc7) (.slice va7 o7.val.length vc7) (.slice ha7 o7.hi.length hc7) (.slice fa7 o7.f.length fc7)
                  refine bodyPost_ret (results_aop rfl _ _ U _ _ _ _ _ _ _ _ rfl y1) rfl ?_
                  exact ⟨grown_new G9.out y2 HUW.out, .inr ⟨o7, _, _, _, _, _, _, _, _, er, HR3.out, HE2.out, rfl⟩⟩
              · obtain rfl : i = m := by omega
                have e1 : ¬ (i : Int) < (s.size : Int) := by omega
                have HR3 : Hid (R = .ok o) := by
                  show _ = _
                  rw [HR.out, List.drop_of_length_le (by have := HZF.out; have := HSZ.out; omega)]
                  cases lw.drop i <;> rfl
                have HV := hid_intro HI.out.v
                have HO2 := hid_intro HI.out.box
                clear HR him hi hsm
                have d0 := cell_heapS (i := 0) HO2.out rfl
                have d1 := cell_heapS (i := 1) HO2.out rfl
                have d2 := cell_heapS (i := 2) HO2.out rfl
                have d3 := cell_heapS (i := 3) HO2.out rfl
                have d4 := cell_heapS (i := 4) HO2.out rfl
                have d5 := cell_heapS (i := 5) HO2.out rfl
                have d6 := cell_heapS (i := 6) HO2.out rfl
                have d7 := cell_heapS (i := 7) HO2.out rfl
                have u0 := cell_heapS (i := 0) HU.out rfl
                have zu0 := frozen_of_row wr U 0 _ _ HU.out
                have u1 := cell_heapS (i := 1) HU.out rfl
                have zu1 := frozen_of_row wr U 1 _ _ HU.out
                have u2 := cell_heapS (i := 2) HU.out rfl
                have zu2 := frozen_of_row wr U 2 _ _ HU.out
                have u3 := cell_heapS (i := 3) HU.out rfl
                have zu3 := frozen_of_row wr U 3 _ _ HU.out
                have u4 := cell_heapS (i := 4) HU.out rfl
                have zu4 := frozen_of_row wr U 4 _ _ HU.out
                have u5 := cell_heapS (i := 5) HU.out rfl
                have zu5 := frozen_of_row wr U 5 _ _ HU.out
                have u6 := cell_heapS (i := 6) HU.out rfl
                have zu6 := frozen_of_row wr U 6 _ _ HU.out
                have u7 := cell_heapS (i := 7) HU.out rfl
                have zu7 := frozen_of_row wr U 7 _ _ HU.out
                go_wp2
                obtain ⟨y1, y2⟩ := box8_put HU.out (.int .i64 o.k) (.int .i64 o.a) (.int .i64 o.b) (.int .i64 o.c) (.slice ka o.key.length kc) (.slice va o.val.length vc) (.slice ha o.hi.length hc) (.slice fa o.f.length fc)
                refine bodyPost_ret (results_aop rfl _ _ U _ _ _ _ _ _ _ _ rfl y1) rfl ?_
                exact ⟨grown_new HG.out y2 HUW.out, .inl ⟨o, ka, kc, va, vc, ha, hc, fa, fc, HR3.out, rfl, HV.out.one HU.out (by decide) (by decide) y2⟩⟩
          · have gl : ((m : Int) == (s.size : Int)) = false := by rw [beq_eq_false_iff_ne]; omega
            have HR : Hid (R = .error 233) := by show _ = _; rw [HS2.out, if_pos hlen]
            have HO2 := hid_intro I4.out.box
            clear HS2 hlen hzf
            have d0 := cell_heapS (i := 0) HO2.out rfl
            have d1 := cell_heapS (i := 1) HO2.out rfl
            have d2 := cell_heapS (i := 2) HO2.out rfl
            have d3 := cell_heapS (i := 3) HO2.out rfl
            have d4 := cell_heapS (i := 4) HO2.out rfl
            have d5 := cell_heapS (i := 5) HO2.out rfl
            have d6 := cell_heapS (i := 6) HO2.out rfl
            have d7 := cell_heapS (i := 7) HO2.out rfl
            have u0 := cell_heapS (i := 0) U4.out rfl
            have zu0 := frozen_of_row w4 U 0 _ _ U4.out
            have u1 := cell_heapS (i := 1) U4.out rfl
            have zu1 := frozen_of_row w4 U 1 _ _ U4.out
            have u2 := cell_heapS (i := 2) U4.out rfl
            have zu2 := frozen_of_row w4 U 2 _ _ U4.out
            have u3 := cell_heapS (i := 3) U4.out rfl
            have zu3 := frozen_of_row w4 U 3 _ _ U4.out
            have u4 := cell_heapS (i := 4) U4.out rfl
            have zu4 := frozen_of_row w4 U 4 _ _ U4.out
            have u5 := cell_heapS (i := 5) U4.out rfl
            have zu5 := frozen_of_row w4 U 5 _ _ U4.out
            have u6 := cell_heapS (i := 6) U4.out rfl
            have zu6 := frozen_of_row w4 U 6 _ _ U4.out
            have u7 := cell_heapS (i := 7) U4.out rfl
            have zu7 := frozen_of_row w4 U 7 _ _ U4.out
            go_wp2
            obtain ⟨y1, y2⟩ := box8_put U4.out (.int .i64 (kd : Nat)) (.int .i64 0) (.int .i64 0) (.int .i64 0) (.slice none 0 0) (.slice none 0 0) (.slice none 0 0) (.slice none 0 0)
            refine bodyPost_ret (results_aop rfl _ _ U _ _ _ _ _ _ _ _ rfl y1) rfl ?_
            exact ⟨grown_new G4.out y2 HUW.out, .inr ⟨Opq.zero kd, _, _, _, _, _, _, _, _, 233, HR.out, by decide, rfl⟩⟩
end Go.Proofs.YtdoclmmghdaaaaaGreatDoor
