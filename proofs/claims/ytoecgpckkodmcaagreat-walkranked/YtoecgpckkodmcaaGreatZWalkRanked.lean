import Derived.Test.YtoecgpckkodmcaaGreatQ40
import Derived.Test.YtoecgpckkodmcaaGreatQ27
import Derived.Test.YtoecgpckkodmcaaGreatQ41
import Derived.WalkKit
import Derived.ProofKit
import Derived.OpenShut
import Derived.ShutString
import Derived.ChangeOld
import Derived.Below
import Derived.SizedLaws
import Derived.Deep.Slices
import Derived.Test.YtoecgpckkodmcaaGreatRows
namespace Go.Proofs.YtoecgpckkodmcaaGreat
open Go.RowKit
set_option maxHeartbeats 16000000 in
set_option maxRecDepth 100000 in
theorem walkRanked_walk (a : Option Addr) (n c : Nat) (C : List CgT) (la : Option Addr) (ln lc : Nat) (lo : List Int) (ha : Option Addr) (hn hc : Nat) (hi : List Int) (w : World) (hC : CgW w a C) (hCn : C.length = n) (hlo : Byt w la ln lc lo) (btl : Bt lo) (hhi : Byt w ha hn hc hi) (bth : Bt hi) :
  Calls Tryz.prog 8 #[.slice a n c, .slice la ln lc, .slice ha hn hc] w fun en w' => en = .returned (.bool true) ∧ w.grownBy w' none := by
 have HC := hid_intro hC
 have HLO := hid_intro hlo
 have HHI := hid_intro hhi
 have HN := hid_intro hCn
 have lhi := hhi.len
 have HLH := hid_intro lhi
 clear hC hlo hhi hCn lhi
 go_enter Tryz.func8, Tryz.ntmps8
 go_wp2_with fail
 refine (first11 w).mono ?_
 rintro en w1 ⟨rfl, hg1⟩
 have G1 := hid_intro hg1
 clear hg1
 go_wp2_with fail
 refine (grown_law a n c C w1 (HC.out.cef (CeF.of G1.out)) HN.out).mono ?_
 rintro en w2 ⟨p, t, ma, mn, mc, rfl, ht2, hw2, _, hg2⟩
 have HT := hid_intro ht2
 have HW := hid_intro hw2
 have G2 := hid_intro (grown_trans G1.out hg2)
 clear ht2 hw2 hg2 HC
 go_wp2_with fail
 refine (short11 la ha ln hn lc hc w2).mono ?_
 rintro en w3 ⟨rfl, hw⟩
 rw [hw]
 clear hw
 by_cases hs : ln ≤ 1000 ∧ hn ≤ 1000
 ·have e1 : (decide (ln ≤ 1000) && decide (hn ≤ 1000)) = true := by simp [hs.1, hs.2]
  rw [e1]
  obtain ⟨hs1, hs2⟩ := hs
  clear e1
  have KW := hid_intro (HW.out.walk (Nat.le_refl _))
  have HFL := hid_intro HW.out.fl
  have LC := hid_intro (len_any t p w2 HT.out HW.out.ok (by rw [HFL.out]; have := HW.out.le; omega))
  rw [HFL.out] at LC
  have HSR := hid_intro HW.out.srt
  have HVP := hid_intro HW.out.vp
  have HOK := hid_intro HW.out.ok
  have hle := HW.out.le
  generalize hL : grG C = L at *
  obtain ⟨M, hM⟩ : ∃ M, L.length = M := ⟨_, rfl⟩
  rw [hM] at LC hle
  have HM := hid_intro hM
  clear hM hL HW
  go_wp2_with fail
  refine LC.out.mono ?_
  rintro en w4 ⟨rfl, hg4⟩
  have G4 := hid_intro (grown_trans G2.out hg4)
  have T4 := hid_intro (HT.out.kept (FrT.of hg4))
  clear hg4 LC HT
  obtain ⟨Q, hQ⟩ : ∃ Q, M / 40 = Q := ⟨_, rfl⟩
  have hq1 : Int.tdiv (M : Int) 40 = (Q : Int) := by rw [← hQ]; rfl
  have hQ2 : Q ≤ 400 := by omega
  clear hQ
  go_upto_block 0 with fail
  go_cut [12] from 13 to 93 (fun _ wx => w4.grownBy wx none)
  case first =>
   go_wp2_with fail
   go_loopw [12] (fun si wr => ∃ i : Nat, i ≤ M + Q + 1 ∧ si = .int .i64 (i : Nat) ∧ w4.grownBy wr none) (fun si _ => M - (intOf si).toNat)
   case atStart => exact ⟨0, Nat.zero_le _, rfl, World.grownBy.refl _ _⟩
   case round =>
    obtain ⟨i, hi9, rfl, hg⟩ := hrel
    have G := hid_intro hg
    clear hg
    by_cases hlt : i < M
    ·have i1 : (i : Int) < (M : Int) := by omega
     obtain ⟨pr, hpr⟩ : ∃ pr, L[i]? = some pr := ⟨_, List.getElem?_eq_getElem (by have := HM.out; omega)⟩
     have HPR := hid_intro hpr
     have HV := hid_intro (HVP.out pr (List.mem_of_getElem? hpr))
     have NC := hid_intro (nth_ok t p i pr wr (T4.out.kept (FrT.of G.out)) KW.out (by rw [HFL.out]; exact hpr))
     clear hpr
     go_wp2_with fail
     refine NC.out.mono ?_
     rintro en w5 ⟨kv, vv, lo5, hi5, rfl, hp5, _, _, hg5⟩
     obtain ⟨ka, kc, va, vc, e5, x5, y5⟩ := pv_bp hp5
     injection e5 with e1 e2
     injection e2 with e2 _
     subst e1 e2
     obtain ⟨kl, hkl⟩ : ∃ kl, pr.key.length = kl := ⟨_, rfl⟩
     obtain ⟨vl, hvl⟩ : ∃ vl, pr.val.length = vl := ⟨_, rfl⟩
     rw [hkl] at x5 ⊢
     rw [hvl] at y5 ⊢
     clear hkl hvl
     have g6 := World.grownBy_alloc w5 (.cells #[.slice ka kl kc, .slice va vl vc] 38) none
     have r6 := heap_at0 w5 #[.slice ka kl kc, .slice va vl vc] 38
     have X6 := hid_intro (x5.keptN g6)
     have Y6 := hid_intro (y5.keptN g6)
     have G6 := hid_intro (grown_trans G.out (grown_trans hg5 g6))
     have GC := hid_intro (tget_any t p ka kl kc pr.key _ (T4.out.kept (FrT.of G6.out)) HOK.out X6.out HV.out.kb)
     have hgl : getO t pr.key = some pr.val := by rw [getO_look HOK.out, HFL.out]; exact look_self HSR.out HPR.out
     rw [hgl] at GC
     have R6 := hid_intro r6
     clear hp5 hg5 x5 y5 g6 NC hgl r6
     go_upto_region 10 with fail
     generalize w5.alloc (.cells #[.slice ka kl kc, .slice va vl vc] 38) = w6 at *
     generalize w5.heap.size = S5 at *
     have d0 := cell_heap (i := 0) R6.out rfl
     have d1 := cell_heap (i := 1) R6.out rfl
     go_wp2_with fail
     refine GC.out.mono ?_
     rintro en w7 ⟨⟨ga, gn, gc, rfl, hb7⟩, hg7⟩
     have G7 := hid_intro hg7
     have f0 := hg7.cell d0 (by simp)
     have f1 := hg7.cell d1 (by simp)
     have SC := hid_intro (same_yes ga va gn vl gc vc _ pr.val w7 hb7.b (Y6.out.keptN hg7) rfl)
     clear hg7 hb7 GC d0 d1
     go_wp2_with fail
     refine SC.out.mono ?_
     rintro en w8 ⟨rfl, hw⟩
     rw [hw]
     clear hw SC
     go_wp2_with fail
     refine (num11 0 w7).mono ?_
     rintro en w8 ⟨rfl, hw⟩
     rw [hw]
     clear hw
     have RC := hid_intro (rank_any t p ka kl kc pr.key w7 (T4.out.kept (FrT.of (grown_trans G6.out G7.out))) KW.out (X6.out.keptN G7.out) HV.out.kb)
     rw [HFL.out, find_self HSR.out HPR.out] at RC
     go_wp2_with fail
     refine RC.out.mono ?_
     rintro en w9 ⟨rfl, hg9⟩
     have G9 := hid_intro (grown_trans (grown_trans G6.out G7.out) hg9)
     clear hg9 RC
     go_wp2_with fail
     go_roundw
     case rel => exact ⟨i + Q + 1, by omega, by first | go_num | rfl, G9.out⟩
     case measure => simp [intOf]; omega
    ·have i1 : ¬ (i : Int) < (M : Int) := by omega
     go_wp2_with fail
     go_meet
     exact G.out
  case rest =>
   have hcut' := hcut
   have G5 := hid_intro (grown_trans G4.out hcut')
   have T5 := hid_intro (T4.out.kept (FrT.of hcut'))
   clear hcut hcut' T4 G4
   have NC := hid_intro (nth_no t p (M : Int) wc T5.out KW.out (.inr (by rw [HFL.out, HM.out]; omega)))
   go_wp2_with fail
   refine NC.out.mono ?_
   rintro en w6 ⟨rfl, hg6⟩
   have G6 := hid_intro (grown_al hg6 (.cells #[.slice none 0 0, .slice none 0 0] 38))
   have N2 := hid_intro (nth_no t p (-1) _ (T5.out.kept (FrT.of G6.out)) KW.out (.inl (by omega)))
   clear hg6 NC
   go_wp2_with fail
   refine N2.out.mono ?_
   rintro en w7 ⟨rfl, hg7⟩
   have G7 := hid_intro (grown_al (grown_trans G6.out hg7) (.cells #[.slice none 0 0, .slice none 0 0] 38))
   have GL := hid_intro (grown_trans G5.out G7.out)
   have RA := hid_intro (rank_any t p la ln lc lo _ (T5.out.kept (FrT.of G7.out)) KW.out (HLO.out.keptN GL.out) btl)
   rw [HFL.out] at RA
   have hAM := findT_le L lo
   have hBM := findT_le L hi
   have hAB := find_mono (lo := lo) (hi := hi) (L := L)
   have hWL := within_len L lo hi
   rw [HM.out] at hAM hBM hWL
   rw [HLH.out] at hWL
   obtain ⟨A, hA⟩ : ∃ A, findT L lo = A := ⟨_, rfl⟩
   obtain ⟨B, hB⟩ : ∃ B, findT L hi = B := ⟨_, rfl⟩
   rw [hA] at RA hAM hAB hWL
   rw [hB] at hBM hAB hWL
   have HA := hid_intro hA
   have HB := hid_intro hB
   have HAB := hid_intro hAB
   have HWL := hid_intro hWL
   clear hA hB hg7 N2 hAB hWL
   go_upto_region 16 with fail
   generalize w7.alloc (.cells #[.slice none 0 0, .slice none 0 0] 38) = w8 at *
   clear G6
   go_wp2_with fail
   refine RA.out.mono ?_
   rintro en w9 ⟨rfl, hg9⟩
   have G9 := hid_intro (grown_trans G7.out hg9)
   have RB := hid_intro (rank_any t p ha hn hc hi w9 (T5.out.kept (FrT.of G9.out)) KW.out (HHI.out.keptN (grown_trans G5.out G9.out)) bth)
   rw [HFL.out, HB.out] at RB
   clear hg9 RA
   go_wp2_with fail
   refine RB.out.mono ?_
   rintro en w10 ⟨rfl, hg10⟩
   have G10 := hid_intro (grown_trans G9.out hg10)
   have GA := hid_intro (grown_trans G5.out G10.out)
   clear hg10 RB G7 G9
   have k1 : ¬ ((A : Int) < 0) := by omega
   have k2 : ¬ ((M : Int) < (A : Int)) := by omega
   have LS := hid_intro (less11 la ha ln hn lc hc lo hi w10 (HLO.out.keptN GA.out) (HHI.out.keptN GA.out) (by omega))
   go_wp2_with fail
   refine (num11 110 w10).mono ?_
   rintro en w11 ⟨rfl, hw⟩
   rw [hw]
   clear hw
   go_wp2_with fail
   refine (num11 110 w10).mono ?_
   rintro en w11 ⟨rfl, hw⟩
   rw [hw]
   clear hw
   go_wp2_with fail
   refine LS.out.mono ?_
   rintro en w11 ⟨rfl, hg11⟩
   have G11 := hid_intro (grown_trans G10.out hg11)
   clear hg11 LS G10
   have RN := hid_intro (rank_any t p none 0 0 [] w11 (T5.out.kept (FrT.of G11.out)) KW.out (Byt.empty _) (btW _ rfl))
   rw [HFL.out, find_nil] at RN
   have fin : Hid (∀ W : World, wc.grownBy W none → Calls Tryz.prog 26 #[.pointer (some ⟨p, 0, none⟩), .slice la ln lc, .slice ha hn hc] W fun en w' => en = .returned (.int .i64 ((withinT L lo hi).length : Nat)) ∧ W.grownBy w' none) := fun W hW => by
    have := count_any t p la ln lc lo ha hn hc hi W (T5.out.kept (FrT.of hW)) KW.out (HLO.out.keptN (grown_trans G5.out hW)) btl (HHI.out.keptN (grown_trans G5.out hW)) bth
    rw [HFL.out] at this
    exact this
   have last : Hid (∀ hz : Bool, hz = decide (hn = 0) → True) := fun _ _ => trivial
   clear last
   by_cases hlt : cmpZ lo hi < 0
   ·rw [decide_eq_true hlt]
    have k3 : ¬ ((B : Int) < (A : Int)) := by have := HAB.out hlt; omega
    go_wp2_with fail
    refine RN.out.mono ?_
    rintro en w12 ⟨rfl, hg12⟩
    have G12 := hid_intro (grown_trans G11.out hg12)
    clear hg12
    go_wp2_with fail
    refine (fin.out w12 G12.out).mono ?_
    rintro en w13 ⟨rfl, hg13⟩
    rw [HWL.out]
    have G13 := hid_intro (grown_trans G5.out (grown_trans G12.out hg13))
    clear hg13
    by_cases hz : hn = 0
    ·rw [if_pos hz]
     have z1 : ((hn : Int) == 0) = true := by rw [beq_iff_eq]; omega
     obtain ⟨R, hR⟩ : ∃ R, M - A = R := ⟨_, rfl⟩
     have z2 : (M : Int) - (A : Int) = (R : Int) := by omega
     have z3 : IntKind.i64.wrap (R : Int) = (R : Int) := by rw [IntKind.wrap_i64]; omega
     rw [hR]
     clear hz hR
     go_wp2
     go_ret
     exact ⟨by simp, G13.out⟩
    ·rw [if_neg hz]
     have z1 : ((hn : Int) == 0) = false := by rw [beq_eq_false_iff_ne]; omega
     obtain ⟨R, hR⟩ : ∃ R : Int, (B : Int) - (A : Int) = R := ⟨_, rfl⟩
     have z3 : IntKind.i64.wrap R = R := by rw [IntKind.wrap_i64]; omega
     clear hz
     go_wp2
     all_goals
      go_ret
      refine ⟨?_, G13.out⟩
      simp
      omega
   ·rw [decide_eq_false hlt]
    go_wp2_with fail
    refine RN.out.mono ?_
    rintro en w12 ⟨rfl, hg12⟩
    have G12 := hid_intro (grown_trans G11.out hg12)
    clear hg12
    go_wp2_with fail
    refine (fin.out w12 G12.out).mono ?_
    rintro en w13 ⟨rfl, hg13⟩
    rw [HWL.out]
    have G13 := hid_intro (grown_trans G5.out (grown_trans G12.out hg13))
    clear hg13
    by_cases hz : hn = 0
    ·rw [if_pos hz]
     have z1 : ((hn : Int) == 0) = true := by rw [beq_iff_eq]; omega
     obtain ⟨R, hR⟩ : ∃ R, M - A = R := ⟨_, rfl⟩
     have z2 : (M : Int) - (A : Int) = (R : Int) := by omega
     have z3 : IntKind.i64.wrap (R : Int) = (R : Int) := by rw [IntKind.wrap_i64]; omega
     rw [hR]
     clear hz hR
     go_wp2
     go_ret
     exact ⟨by simp, G13.out⟩
    ·rw [if_neg hz]
     have z1 : ((hn : Int) == 0) = false := by rw [beq_eq_false_iff_ne]; omega
     obtain ⟨R, hR⟩ : ∃ R : Int, (B : Int) - (A : Int) = R := ⟨_, rfl⟩
     have z3 : IntKind.i64.wrap R = R := by rw [IntKind.wrap_i64]; omega
     clear hz
     go_wp2
     all_goals
      go_ret
      refine ⟨?_, G13.out⟩
      simp
      omega
 ·have e1 : (decide (ln ≤ 1000) && decide (hn ≤ 1000)) = false := by
   cases h : (decide (ln ≤ 1000) && decide (hn ≤ 1000)) with
   | false => rfl
   | true => simp at h; exact absurd h hs
  rw [e1]
  clear hs e1
  go_wp2
  go_ret
  exact ⟨rfl, G2.out⟩
end Go.Proofs.YtoecgpckkodmcaaGreat
namespace Go.Proofs.YtoecgpckkodmcaaGreat.walkRanked
open Go.ChangeShapes Go.WideShapes Go.ChangeAt Go.WideMaps Go.WideElems Go.RowKit Go.Deep
open Go.ChangeMaps (open_string shut_string)
theorem own : ownKnob Tryz.prog.godebug = none := by kernel_rfl
theorem laidOut : laidOutB Tryz.prog = true := by kernel_rfl
theorem bytes_u8 : Tryz.prog.bytesOf 5 = 1 := by kernel_rfl
theorem bytes_i64 : Tryz.prog.bytesOf 3 = 8 := by kernel_rfl
set_option linter.unusedVariables false
set_option maxRecDepth 100000 in
theorem lifted (os : Os) (started : os.Started) (H : Type) (enc : TypeId × Value → H) :
  ReturnsInHanded {} Tryz.checked os 8 .any (Rows.walkRankedSpec.pre6 enc Tryz.prog Tryz.f8 Rows.walkRankedRow.domain false) (Rows.walkRankedSpec.post enc Tryz.prog Tryz.f8 false true false false) := by
 refine returnsInHanded_of_change_sized (C := Tryz.checked) own started (by kernel_rfl) Tryz.func8
  (ChangeSpec.witness6 (enc := enc) (C := Tryz.checked) false ⟨#[], #[.slice none 0 0, .slice none 0 0, .slice none 0 0], []⟩ 8 (by kernel_rfl) (by kernel_rfl) (by kernel_rfl) (by kernel_rfl)) ?_
 intro W base args ds gs before hval0 hW hcnd hsz0 _
 have hval : ∀ (j : Nat) t v, Tryz.f8.params[j]? = some t → args[j]? = some v → Value.okWide Tryz.prog W .any base t v := hval0
 have hsz : (DataW.weightsEach Tryz.prog (Tryz.f8.params.toList ++ Rows.walkRankedSpec.plain.varTypes Tryz.prog) (ds ++ gs)).all (· ≤ reachBytes) = true := hsz0
 clear hsz0
 have hW' := hW
 obtain ⟨p, q, hA0, hV, rfl, hfz, hnd⟩ := hW
 have hA : DataW.TrodAll enc Tryz.prog W 0 (fun _ => true) true Tryz.f8.params.toList args.toList ds p := hA0
 rw [Tryz.params8] at hA hval hsz
 obtain ⟨v0, vs0, d0, ds0, p0, q0, hargs, rfl, rfl, h0, r0⟩ := trodAll_cons hA
 obtain ⟨v1, vs1, d1, ds1, p1, q1, rfl, rfl, rfl, h1, r1⟩ := trodAll_cons r0
 obtain ⟨v2, vs2, d2, ds2, p2, q2, rfl, rfl, rfl, h2, r2⟩ := trodAll_cons r1
 obtain ⟨rfl, rfl, rfl⟩ := trodAll_nil r2
 obtain rfl : args = #[v0, v1, v2] := by cases args; simp_all
 obtain ⟨rfl, rfl⟩ := trodVars_none hV
 obtain ⟨a0, len0, cap0, rfl⟩ := okWide_slice Tryz.underlying22 (hval 0 22 v0 rfl rfl)
 have k0 := h0
 have lt0 : ∀ x ∈ p0, x.block < W.heap.size := by obtain ⟨m, hm⟩ := k0; exact DataW.trod_lt m _ _ _ hm
 obtain ⟨z0, b0, e0, l0, c0⟩ : ∃ L, CgW W a0 L ∧ L.length = len0 ∧ len0 ≤ cap0 ∧ cap0 ≤ 9223372036854775807 := by
  obtain ⟨fuel, hf⟩ := h0
  exact chgs_open (by simpa [Value.cells] using hf)
 obtain ⟨a1, len1, cap1, rfl⟩ := okWide_slice Tryz.underlying23 (hval 1 23 v1 rfl rfl)
 have k1 := h1
 have lt1 : ∀ x ∈ p1, x.block < W.heap.size := by obtain ⟨m, hm⟩ := k1; exact DataW.trod_lt m _ _ _ hm
 obtain ⟨z1, b1, t1, l1, c1⟩ : ∃ zs, Byt W a1 len1 cap1 zs ∧ Bt zs ∧ len1 ≤ cap1 ∧ cap1 ≤ 140737488351232 := by
  obtain ⟨fuel, hf⟩ := h1
  rcases open_ints Tryz.underlying23 Tryz.underlying5 (by kernel_rfl) hf with ⟨hcs, _⟩ | ⟨x, l, c, zs, hcs, _, hl, hm, hz, hx, hcell, hwz⟩
  ·simp [Value.cells] at hcs
   obtain ⟨rfl, rfl, rfl⟩ := hcs
   exact ⟨[], Byt.empty W, Bt.nil, Nat.le_refl _, by omega⟩
  ·simp [Value.cells] at hcs
   obtain ⟨rfl, rfl, rfl⟩ := hcs
   have hz' : zs.length = cap1 := by simpa using hz
   obtain ⟨h1, h2, _, _⟩ := byt_of_row (zs := zs) (.inr ⟨_, rfl, hl, hm, hz', hcell, hwz⟩)
   have hs := sized_slice hsz (j := 1) (t := 23) (e := 5) rfl (congrArg (fun y => some (Prod.fst y)) hx) Tryz.underlying23
   rw [bytes_u8] at hs
   simp only [lits, List.length_map, List.length_take, List.length_drop, reachBytes] at hs
   exact ⟨_, h1, h2, hl, by omega⟩
 obtain ⟨a2, len2, cap2, rfl⟩ := okWide_slice Tryz.underlying23 (hval 2 23 v2 rfl rfl)
 have k2 := h2
 have lt2 : ∀ x ∈ p2, x.block < W.heap.size := by obtain ⟨m, hm⟩ := k2; exact DataW.trod_lt m _ _ _ hm
 obtain ⟨z2, b2, t2, l2, c2⟩ : ∃ zs, Byt W a2 len2 cap2 zs ∧ Bt zs ∧ len2 ≤ cap2 ∧ cap2 ≤ 140737488351232 := by
  obtain ⟨fuel, hf⟩ := h2
  rcases open_ints Tryz.underlying23 Tryz.underlying5 (by kernel_rfl) hf with ⟨hcs, _⟩ | ⟨x, l, c, zs, hcs, _, hl, hm, hz, hx, hcell, hwz⟩
  ·simp [Value.cells] at hcs
   obtain ⟨rfl, rfl, rfl⟩ := hcs
   exact ⟨[], Byt.empty W, Bt.nil, Nat.le_refl _, by omega⟩
  ·simp [Value.cells] at hcs
   obtain ⟨rfl, rfl, rfl⟩ := hcs
   have hz' : zs.length = cap2 := by simpa using hz
   obtain ⟨h1, h2, _, _⟩ := byt_of_row (zs := zs) (.inr ⟨_, rfl, hl, hm, hz', hcell, hwz⟩)
   have hs := sized_slice hsz (j := 2) (t := 23) (e := 5) rfl (congrArg (fun y => some (Prod.fst y)) hx) Tryz.underlying23
   rw [bytes_u8] at hs
   simp only [lits, List.length_map, List.length_take, List.length_drop, reachBytes] at hs
   exact ⟨_, h1, h2, hl, by omega⟩
 clear hA0 hval0
 refine (walkRanked_walk a0 len0 cap0 z0 a1 len1 cap1 z1 a2 len2 cap2 z2 W b0 e0 b1 t1 b2 t2).mono fun e W' ⟨he, hg⟩ => ?_
 subst he
 have bel := below_ofW hg
 exact ⟨_, rfl, _, _, _, [], _, [], hW', trodAll_mk1 (shut_bool Tryz.underlying4 _), (trodAll_cons_mk (Below.trod laidOut (by kernel_rfl) (of_decide_eq_true (by kernel_rfl)) k0 bel lt0) (trodAll_cons_mk (Below.trod laidOut (by kernel_rfl) (of_decide_eq_true (by kernel_rfl)) k1 bel lt1) (trodAll_cons_mk (Below.trod laidOut (by kernel_rfl) (of_decide_eq_true (by kernel_rfl)) k2 bel lt2) trodAll_mk0))), rfl, bel.frame _, fun h => by cases h⟩
theorem over : Rows.walkRankedRow.holds Tryz.pinned (OpenSpec.ofChange Rows.walkRankedSpec) :=
 OpenClaim.holds_of_wide 8 Tryz.f8 rfl rfl rfl rfl rfl rfl rfl ⟨rfl, rfl, rfl, rfl, rfl⟩ rfl rfl rfl rfl rfl (by kernel_rfl) Tryz.func8 (by kernel_rfl)
  (of_decide_eq_true (by kernel_rfl)) (by unfold Func.isWrapper; first | (rw [if_pos (by decide +kernel)]; kernel_rfl) | (rw [if_neg (by decide +kernel)]; exact ⟨rfl, rfl⟩))
  (fun os started H enc _ => lifted os started H enc)
end Go.Proofs.YtoecgpckkodmcaaGreat.walkRanked
namespace Go.Proofs.YtoecgpckkodmcaaGreat
theorem walkRanked_holds : Rows.WalkRankedSaid := walkRanked.over
#print axioms walkRanked_holds
end Go.Proofs.YtoecgpckkodmcaaGreat
