import Derived.Test.YtcjgmiilfjjbcaaGreatDoorSrF
namespace Go.Proofs.YtcjgmiilfjjbcaaGreatDoor
open Go.RowKit

theorem grown_drewS (w : World) : w.grownBy w.drew none := ⟨rfl, rfl, rfl, Nat.le_refl _, fun _ _ _ => rfl⟩
theorem bld_new (w : World) : Bld (w.alloc (.cells #[.pointer none, .slice none 0 0] 52)) w.heap.size w.heap.size (Lib.byteCells []) :=
  .inl ⟨Nat.le_refl _, .slice none 0 0, heap_at0S _ _ _, ⟨rfl, .inl ⟨rfl, rfl⟩⟩, by simp [Value.ownBlock]⟩
theorem jdg_ok {n : Int} {l : List Opq} (h : jdg23 n l = 0) : smn n = true ∧ l.length ≤ 2000 ∧ jdA l = 0 := by
  unfold jdg23 at h
  split at h
  · rename_i hs
    split at h
    · cases h
    · exact ⟨hs, by omega, h⟩
  · cases h
set_option maxHeartbeats 16000000 in
set_option maxRecDepth 100000 in
theorem print_any (n : Int) (l : List Opq) (ao : Option Addr) (c : Nat) (w : World) (hL : Lv w) (hR : OpsR w ao l) (hf : Fnw l) (hz : ∀ o ∈ l, lsz o ≤ 140737488355328) (hm : l.length ≤ 140737488355328) : Calls Tryz.prog 8 #[.agg #[.int .i64 n, .slice ao l.length c]] w fun en w' => PrP w (prt n l) en w' := by
  have HL : Hid (Lv w) := hL
  have g1 := World.grownBy_alloc w (.cells #[.int .i64 n, .slice ao l.length c] 24) none
  have xb := heap_at0S w #[.int .i64 n, .slice ao l.length c] 24
  have HJ := hid_intro (judge_any n l ao c _ (hL.keptN g1) (hR.keptN g1) hf hm)
  have HR := hid_intro hR
  have HZ := hid_intro hz
  have G1 := hid_intro g1
  have XB := hid_intro xb
  have HP : Hid (prt n l = if jdg23 n l = 0 then prl (lnw [ttw, Lib.itoa n]) l else .error (jdg23 n l)) := rfl
  have hok := fun h => jdg_ok (n := n) (l := l) h
  have HOK := hid_intro hok
  obtain ⟨m, hmn⟩ : ∃ m, l.length = m := ⟨_, rfl⟩
  have HMN := hid_intro hmn
  rw [hmn] at HJ G1 XB ⊢
  clear hL hR hf hz g1 xb hmn hok
  generalize prt n l = PR at *
  generalize jdg23 n l = j at *
  by_cases h0 : j = 0
  · subst h0
    obtain ⟨k1, k2, k3⟩ := HOK.out rfl
    have hjs := jdA_ok k3
    have HJS := hid_intro hjs
    have HP2 : Hid (PR = prl (lnw [ttw, Lib.itoa n]) l) := by show _ = _; rw [HP.out, if_pos rfl]
    obtain ⟨n0, n1⟩ := smn_le k1
    have hm2 : (m : Int) ≤ 2000 := by have := HMN.out; omega
    have hil := itoa_len n (by omega) (by omega)
    have HLW : Hid ((lnw [ttw, Lib.itoa n]).length ≤ 60000000) := by
      show _ ≤ _
      have := join_le [ttw, Lib.itoa n]
      have e : sml [ttw, Lib.itoa n] = 8 + ((Lib.itoa n).length + 1) := by simp [sml, ttw]
      unfold lnw
      simp
      omega
    have HIT := hid_intro (fun W hW => itoa_any n (by omega) (by omega) W hW)
    have HTW : Hid ((⟨#[99, 111, 112, 112, 105, 99, 101]⟩ : ByteArray) = tstr ttw) := rfl
    clear k1 k2 k3 hjs HP HOK hil hm
    go_enter Tryz.func8, Tryz.ntmps8
    go_wp2_with fail
    refine HJ.out.mono ?_
    rintro en w2 ⟨rfl, hg2⟩
    have G2 := hid_intro (grown_trans G1.out hg2)
    have X2 := hid_intro (heap_keptS XB.out hg2)
    have gb := World.grownBy_alloc w2 (.cells #[.pointer none, .slice none 0 0] 52) none
    have G3 := hid_intro (grown_trans G2.out gb)
    have X3 := hid_intro (heap_keptS X2.out gb)
    have B3 := hid_intro (bld_new w2)
    have d0 := cell_heapS (i := 0) X3.out rfl
    have d1 := cell_heapS (i := 1) X3.out rfl
    have hBB : w.heap.size < w2.heap.size := (Array.getElem?_eq_some_iff.1 X2.out).1
    have hs3 : w2.heap.size < (w2.alloc (.cells #[.pointer none, .slice none 0 0] 52)).heap.size := by simp
    clear hg2 gb G1 XB G2 X2 HJ
    go_upto_region 5 with fail
    generalize w2.alloc (.cells #[.pointer none, .slice none 0 0] 52) = w3 at *
    generalize w2.heap.size = b at *
    go_wp2_with fail
    refine (HIT.out _ (HL.out.keptN G3.out).pow).mono ?_
    rintro en w4 ⟨rfl, hg4⟩
    have ga := World.grownBy_alloc w4 (.cells #[.string ⟨#[99, 111, 112, 112, 105, 99, 101]⟩, .string (tstr (Lib.itoa n))] 9) none
    have g5 := grown_trans hg4 ga
    have G5 := hid_intro (grown_trans G3.out g5)
    have X5 := hid_intro (heap_keptS X3.out g5)
    have B5 := hid_intro (B3.out.keptN g5)
    have xw := heap_at0S w4 #[.string ⟨#[99, 111, 112, 112, 105, 99, 101]⟩, .string (tstr (Lib.itoa n))] 9
    have HWS : Hid (Wsl (w4.alloc (.cells #[.string ⟨#[99, 111, 112, 112, 105, 99, 101]⟩, .string (tstr (Lib.itoa n))] 9)) w4.heap.size 0 [ttw, Lib.itoa n]) := fun i T hi => by
      rw [Nat.zero_add]
      match i, hi with
      | 0, hi => cases hi; exact cell_heapS (i := 0) xw rfl
      | 1, hi => cases hi; exact cell_heapS (i := 1) xw rfl
      | i + 2, hi => simp at hi
    have hs5 := g5.size
    have hgl : w4.heap.size < (w4.alloc (.cells #[.string ⟨#[99, 111, 112, 112, 105, 99, 101]⟩, .string (tstr (Lib.itoa n))] 9)).heap.size := by simp
    have HWL := hid_intro (writeLine_any b b w4.heap.size 2 2 [] [ttw, Lib.itoa n] _ B5.out HWS.out rfl (Nat.le_refl _) hgl (by omega) (by have := HLW.out; simp only [List.length_nil]; omega) (by omega))
    clear hg4 ga g5 xw
    go_wp2_with fail
    refine HWL.out.mono ?_
    rintro en w6 ⟨rfl, hb6, hbw6⟩
    rw [List.nil_append] at hb6
    have B6 := hid_intro hb6
    have hs6 := hbw6.size
    have X6 : Hid (w6.heap[w.heap.size]? = some (.cells #[.int .i64 n, .slice ao m c] 24 (0, 0))) := by show _ = _; rw [hbw6.block _ hBB]; exact X5.out
    have G6 : Hid (w.grownBy w6 none) := by
      have hg := G5.out
      exact ⟨hbw6.os.trans hg.os, hbw6.tape.trans hg.tape, hbw6.output.trans hg.output, Nat.le_trans hg.size hbw6.size, fun k hk hn => (hbw6.block k (by omega)).trans (hg.block k hk hn)⟩
    have e1 := cell_heapS (i := 1) X6.out rfl
    have hsb6 : b ≤ w6.heap.size := by omega
    generalize lnw [ttw, Lib.itoa n] = T0 at *
    clear hb6 hbw6 B5 G5 X5 HWS HWL d0 d1 B3 G3 X3 hs5 hgl hs6 hs3
    go_wp2
    go_loopw [7, 21] (fun _ s21 wr => ∃ (i : Nat) (T : List UInt8), i ≤ m ∧ s21 = .int .i64 (i : Nat) ∧ w.grownBy wr none ∧ Bld wr b b (Lib.byteCells T) ∧ T.length ≤ 60000000 ∧ b ≤ wr.heap.size ∧ PR = prl T (l.drop i)) (fun _ s21 _ => m - (intOf s21).toNat)
    case atStart => exact ⟨0, T0, Nat.zero_le _, rfl, G6.out, B6.out, HLW.out, hsb6, HP2.out⟩
    case round =>
      obtain ⟨i, T, hi, rfl, hg, hbd, hTl, hsb, hpr⟩ := hrel
      have HG := hid_intro hg
      have HB := hid_intro hbd
      have HPR := hid_intro hpr
      clear G6 B6 HP2 hg hbd hpr X6 e1 hsb6
      by_cases him : i < m
      · have e4 : (i : Int) < (m : Int) := by omega
        have e5 : (0 : Int) ≤ (i : Int) := by omega
        have hil : i < l.length := by rw [HMN.out]; exact him
        obtain ⟨o, ho⟩ : ∃ o, l[i]? = some o := ⟨_, List.getElem?_eq_getElem hil⟩
        have hmem := List.mem_of_getElem? ho
        obtain ⟨g, off, ka, kc, va, vc, ha, hc, fa, fc, ea, hcell, hopr⟩ := (HR.out.keptN HG.out) i o ho
        have hpp : prl T (l.drop i) = if 1048576 < T.length + lsz o then .error 234 else prl (T ++ lnw (stw o)) (l.drop (i + 1)) := by
          rw [List.drop_eq_getElem_cons hil, (List.getElem?_eq_some_iff.1 ho).2]
          rfl
        have HPP := hid_intro hpp
        obtain ⟨q1, q2, q3⟩ := jdS_ok (HJS.out o hmem)
        have hls := HZ.out o hmem
        subst ea
        have y0 := hcell 0 _ rfl
        have y1 := hcell 1 _ rfl
        have y2 := hcell 2 _ rfl
        have y3 := hcell 3 _ rfl
        have y4 := hcell 4 _ rfl
        have y5 := hcell 5 _ rfl
        have y6 := hcell 6 _ rfl
        have y7 := hcell 7 _ rfl
        simp only [Nat.add_zero] at y0
        have ga := World.grownBy_alloc wr (.cells #[.int .i64 o.k, .int .i64 o.a, .int .i64 o.b, .int .i64 o.c, .slice ka o.key.length kc, .slice va o.val.length vc, .slice ha o.hi.length hc, .slice fa o.f.length fc] 35) none
        have xo := heap_at0S wr #[.int .i64 o.k, .int .i64 o.a, .int .i64 o.b, .int .i64 o.c, .slice ka o.key.length kc, .slice va o.val.length vc, .slice ha o.hi.length hc, .slice fa o.f.length fc] 35
        have GA := hid_intro (grown_trans HG.out ga)
        have BA := hid_intro (HB.out.keptN ga)
        have XO := hid_intro xo
        have RA := hid_intro (hopr.keptN ga)
        have hsz := ga.size
        have HLE : Hid (∀ W, (wr.alloc (.cells #[.int .i64 o.k, .int .i64 o.a, .int .i64 o.b, .int .i64 o.c, .slice ka o.key.length kc, .slice va o.val.length vc, .slice ha o.hi.length hc, .slice fa o.f.length fc] 35)).grownBy W none → Calls Tryz.prog 21 #[.pointer (some ⟨b, 0, none⟩)] W fun e w' => e = .returned (.int .i64 (T.length : Nat)) ∧ w' = W) := fun W hW => by
          have hh := builderLen_call b b (Lib.byteCells T) W (BA.out.keptN hW)
          rw [Lib.byteCells_length] at hh
          exact hh
        have HLS := hid_intro (fun W => leastSize_any o ka kc va vc ha hc fa fc W hls)
        have hwr : IntKind.i64.wrap ((i : Int) + 1) = (i : Int) + 1 := wrap_small _ (by omega) (by omega)
        have hwa : IntKind.i64.wrap ((T.length : Int) + ((lsz o : Nat) : Int)) = (T.length : Int) + ((lsz o : Nat) : Int) := wrap_small _ (by omega) (by omega)
        have Q1 := hid_intro q1
        have Q2 := hid_intro q2
        have Q3 := hid_intro q3
        have x0 := cell_heapS (i := 0) XO.out rfl
        have x1 := cell_heapS (i := 1) XO.out rfl
        have x2 := cell_heapS (i := 2) XO.out rfl
        have x3 := cell_heapS (i := 3) XO.out rfl
        have x4 := cell_heapS (i := 4) XO.out rfl
        have x5 := cell_heapS (i := 5) XO.out rfl
        have x6 := cell_heapS (i := 6) XO.out rfl
        have x7 := cell_heapS (i := 7) XO.out rfl
        clear hpp ho hcell hopr hil hmem ga xo q1 q2 q3 hls
        go_upto_region 9 with fail
        generalize wr.alloc (.cells #[.int .i64 o.k, .int .i64 o.a, .int .i64 o.b, .int .i64 o.c, .slice ka o.key.length kc, .slice va o.val.length vc, .slice ha o.hi.length hc, .slice fa o.f.length fc] 35) = w7 at *
        generalize wr.heap.size = X at *
        obtain ⟨L, hL⟩ : ∃ L, lsz o = L := ⟨_, rfl⟩
        have HLL := hid_intro hL
        rw [hL] at HLS hwa HPP
        clear hL
        go_region_with (first
          | (go_at_call 21; refine (HLE.out w7.drew (grown_drewS w7)).mono ?_; rintro en w8 ⟨rfl, rfl⟩)
          | (go_at_call 22; refine (HLS.out w7.drew).mono ?_; rintro en w9 ⟨rfl, hg9⟩; have G9 := hid_intro (grown_trans (grown_drewS w7) hg9); clear hg9))
        all_goals
          by_cases hbig : 1048576 < T.length + L
          · have eb : (1048576 : Int) < (T.length : Int) + (L : Int) := by omega
            have HE : Hid (PR = .error 234) := by show _ = _; rw [HPR.out, HPP.out, if_pos hbig]
            go_wp2
            go_ret2
            exact ⟨grown_trans GA.out G9.out, .inr ⟨234, HE.out, by decide, rfl⟩⟩
          · have eb : ¬ (1048576 : Int) < (T.length : Int) + (L : Int) := by omega
            have HE : Hid (PR = prl (T ++ lnw (stw o)) (l.drop (i + 1))) := by show _ = _; rw [HPR.out, HPP.out, if_neg hbig]
            obtain ⟨hsl, hsn⟩ := stw_le o (by have := HLL.out; omega) Q1.out Q2.out Q3.out
            have hg9 := G9.out
            have hs9 := hg9.size
            have X9 := hid_intro (heap_keptS XO.out hg9)
            have HSW := hid_intro (stepWords_any o ka kc va vc ha hc fa fc w9 (HL.out.keptN (grown_trans GA.out hg9)) (RA.out.keptN hg9) Q1.out (by have := HLL.out; omega) Q2.out Q3.out)
            have u0 := cell_heapS (i := 0) X9.out rfl
            have u1 := cell_heapS (i := 1) X9.out rfl
            have u2 := cell_heapS (i := 2) X9.out rfl
            have u3 := cell_heapS (i := 3) X9.out rfl
            have u4 := cell_heapS (i := 4) X9.out rfl
            have u5 := cell_heapS (i := 5) X9.out rfl
            have u6 := cell_heapS (i := 6) X9.out rfl
            have u7 := cell_heapS (i := 7) X9.out rfl
            have hne : stw o ≠ [] := by unfold stw; simp
            clear hg9
            go_wp2_with fail
            refine HSW.out.mono ?_
            rintro en wA ⟨sa, sc, rfl, hoA, hgA⟩
            obtain ⟨gw, ea, hwl, hwn, hwc⟩ := wsl_own hoA hne
            subst ea
            have hgl : gw < wA.heap.size := by
              rcases hoA.2 with ⟨e, _⟩ | ⟨g', _, _, e, _, e3, _⟩
              · cases e
              · simp only [Value.slice.injEq, Option.some.injEq, Addr.mk.injEq] at e
                rw [e.1.1]
                exact (Array.getElem?_eq_some_iff.1 e3).1
            have g79 := grown_trans G9.out hgA
            have BA2 := hid_intro (BA.out.keptN g79)
            have GA2 := hid_intro (grown_trans GA.out g79)
            have hsA := hgA.size
            have HWL := hid_intro (writeLine_any b b gw sc (stw o).length T (stw o) wA BA2.out hwl rfl hwc hgl hsn (by omega) (by omega))
            clear hoA hgA g79 hwl
            generalize stw o = SW at *
            go_wp2_with fail
            refine HWL.out.mono ?_
            rintro en wB ⟨rfl, hbB, hbwB⟩
            have BB := hid_intro hbB
            have hsB := hbwB.size
            have GB : Hid (w.grownBy wB none) := by
              have hg := GA2.out
              exact ⟨hbwB.os.trans hg.os, hbwB.tape.trans hg.tape, hbwB.output.trans hg.output, Nat.le_trans hg.size hbwB.size, fun k hk hn => (hbwB.block k (by omega)).trans (hg.block k hk hn)⟩
            clear hbB hbwB
            go_wp2
            go_roundw
            case rel => exact ⟨i + 1, T ++ lnw SW, by omega, by go_num, GB.out, BB.out, by rw [List.length_append]; omega, by omega, HE.out⟩
            case measure => simp [intOf]; omega
      · obtain rfl : i = m := by omega
        have HE : Hid (PR = if 1048576 < T.length then .error 234 else .ok T) := by show _ = _; rw [HPR.out, ← HMN.out, List.drop_length]; rfl
        have HLE : Hid (Calls Tryz.prog 21 #[.pointer (some ⟨b, 0, none⟩)] wr fun e w' => e = .returned (.int .i64 (T.length : Nat)) ∧ w' = wr) := by
          have hh := builderLen_call b b (Lib.byteCells T) wr HB.out
          rw [Lib.byteCells_length] at hh
          exact hh
        by_cases hbig : 1048576 < T.length
        · have eb : (1048576 : Int) < (T.length : Int) := by omega
          rw [if_pos hbig] at HE
          go_wp2_with fail
          refine HLE.out.mono ?_
          rintro en w8 ⟨rfl, rfl⟩
          go_wp2
          go_ret2
          exact ⟨HG.out, .inr ⟨234, HE.out, by decide, rfl⟩⟩
        · have eb : ¬ (1048576 : Int) < (T.length : Int) := by omega
          rw [if_neg hbig] at HE
          go_wp2_with fail
          refine HLE.out.mono ?_
          rintro en w8 ⟨rfl, rfl⟩
          go_wp2_with fail
          refine (builderString_call b b T _ HB.out hsb).mono ?_
          rintro en w9 ⟨rfl, hbw9⟩
          have GB : Hid (w.grownBy w9 none) := by
            have hg := HG.out
            exact ⟨hbw9.os.trans hg.os, hbw9.tape.trans hg.tape, hbw9.output.trans hg.output, Nat.le_trans hg.size hbw9.size, fun k hk hn => (hbw9.block k (by omega)).trans (hg.block k hk hn)⟩
          clear hbw9
          go_wp2
          go_ret2
          exact ⟨GB.out, .inl ⟨T, HE.out, rfl⟩⟩
  · have gj : (j == 0) = false := by rw [beq_eq_false_iff_ne]; exact h0
    have HP2 : Hid (PR = .error j) := by show _ = _; rw [HP.out, if_neg h0]
    go_enter Tryz.func8, Tryz.ntmps8
    go_wp2_with fail
    refine HJ.out.mono ?_
    rintro en w2 ⟨rfl, hg2⟩
    have G2 := hid_intro (grown_trans G1.out hg2)
    clear hg2
    go_wp2
    go_ret2
    exact ⟨G2.out, .inr ⟨j, HP2.out, h0, rfl⟩⟩
end Go.Proofs.YtcjgmiilfjjbcaaGreatDoor
