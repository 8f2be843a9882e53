import Derived.Test.YtoecgpckkodmcaaGreatQ46
import Derived.Test.YtoecgpckkodmcaaGreatQ44
import Derived.Test.YtoecgpckkodmcaaGreatQ41
import Derived.WalkKit
import Derived.ProofKit
import Derived.OpenShut
import Derived.ShutString
import Derived.ChangeOld
import Derived.Below
import Derived.SizedLaws
import Derived.Deep.Slices
import Derived.Test.YtoecgpckkodmcaaGreatRows
namespace Go.Proofs.YtoecgpckkodmcaaGreat
open Go.RowKit
theorem bp_shape {w : World} {kv vv : Value} {q : PrT} (h : BpW w [kv, vv] q) : ∃ ka kc va vc, kv = .slice ka q.key.length kc ∧ vv = .slice va q.val.length vc ∧ Byt w ka q.key.length kc q.key ∧ Byt w va q.val.length vc q.val := by
 obtain ⟨ka, kc, va, vc, e, h1, h2⟩ := h
 injection e with e1 e2
 injection e2 with e2 _
 exact ⟨ka, kc, va, vc, e1, e2, h1, h2⟩
theorem samePairB (kv vv kq vq : Value) (q : PrT) (w : World) (h1 : BpW w [kv, vv] q) (h2 : BpW w [kq, vq] q) :
  Calls Tryz.prog 29 #[.agg #[kv, vv], .agg #[kq, vq]] w fun en w' => en = .returned (.bool true) ∧ w.grownBy w' none := by
 obtain ⟨a1, c1, b1, d1, rfl, rfl, x1, x2⟩ := bp_shape h1
 obtain ⟨a2, c2, b2, d2, rfl, rfl, y1, y2⟩ := bp_shape h2
 exact samePair11 a1 b1 a2 b2 _ _ c1 d1 c2 d2 q.key q.val w x1 x2 y1 y2
set_option maxHeartbeats 16000000 in
set_option maxRecDepth 100000 in
theorem walkRanks_walk (a : Option Addr) (n c : Nat) (C : List CgT) (la : Option Addr) (ln lc : Nat) (lo : List Int) (ha : Option Addr) (hn hc : Nat) (hi : List Int) (ix : Int) (w : World) (hC : CgW w a C) (hCn : C.length = n) (hlo : Byt w la ln lc lo) (btl : Bt lo) (hhi : Byt w ha hn hc hi) (bth : Bt hi) :
  Calls Tryz.prog 6 #[.slice a n c, .slice la ln lc, .slice ha hn hc, .int .i64 ix] w fun en w' => en = .returned (.bool true) ∧ w.grownBy w' none := by
 have HC := hid_intro hC
 have HLO := hid_intro hlo
 have HHI := hid_intro hhi
 have HN := hid_intro hCn
 clear hC hlo hhi hCn
 go_enter Tryz.func6, Tryz.ntmps6
 go_wp2_with fail
 refine (first11 w).mono ?_
 rintro en w1 ⟨rfl, hg1⟩
 have G1 := hid_intro hg1
 clear hg1
 go_wp2_with fail
 refine (grown_law a n c C w1 (HC.out.cef (CeF.of G1.out)) HN.out).mono ?_
 rintro en w2 ⟨p, t, ma, mn, mc, rfl, ht2, hw2, hm2, hg2⟩
 have HT := hid_intro ht2
 have HW := hid_intro hw2
 have HM := hid_intro hm2
 have G2 := hid_intro (grown_trans G1.out hg2)
 clear ht2 hw2 hg2 hm2 HC
 go_wp2_with fail
 refine (short11 la ha ln hn lc hc w2).mono ?_
 rintro en w3 ⟨rfl, hw⟩
 rw [hw]
 clear hw
 by_cases hs : ln ≤ 1000 ∧ hn ≤ 1000
 ·have e1 : (decide (ln ≤ 1000) && decide (hn ≤ 1000)) = true := by simp [hs.1, hs.2]
  rw [e1]
  obtain ⟨hs1, hs2⟩ := hs
  clear e1
  have KW := hid_intro (HW.out.walk (Nat.le_refl _))
  have HFL := hid_intro HW.out.fl
  have RC := hid_intro (roomy11 la ln lc lo w2 (HLO.out.keptN G2.out) hs1)
  go_wp2_with fail
  refine RC.out.mono ?_
  rintro en w3 ⟨ga, gc, rfl, hga, hoa, hg3⟩
  have OA := hid_intro hoa
  have G3 := hid_intro (grown_trans G2.out hg3)
  have S3 := hid_intro hg3
  have hga2 := (own_lt10 hoa rfl).2.1
  clear hoa hg3 RC
  have RC := hid_intro (roomy11 ha hn hc hi w3 (HHI.out.keptN G3.out) hs2)
  go_wp2_with fail
  refine RC.out.mono ?_
  rintro en w4 ⟨gb, gd, rfl, hgb, hob, hg4⟩
  have OB := hid_intro hob
  have G4 := hid_intro (grown_trans G3.out hg4)
  have S4 := hid_intro (grown_trans S3.out hg4)
  have OA4 := hid_intro (OA.out.kept hg4 (Classical.em _))
  clear hob hg4 RC OA
  have K4 := hid_intro (HT.out.kept (FrT.of S4.out))
  have M4 := hid_intro (HM.out.cef (CeF.of S4.out))
  have L4 := hid_intro (HLO.out.keptN G4.out)
  have H4 := hid_intro (HHI.out.keptN G4.out)
  have hle := HW.out.le
  have hml := HM.out.1
  have hmn : mn ≤ 100000 := by omega
  have HB := hid_intro (fun q hq => (HW.out.vp q hq).kb)
  have HSR := hid_intro HW.out.srt
  have hz2 := G2.out.size
  have hz3 := S3.out.size
  have hgb2 := (own_lt10 OB.out rfl).2.1
  have BA := hid_intro (rm_byt OA4.out HLO.out.len)
  have BB := hid_intro (rm_byt OB.out HHI.out.len)
  clear hle hml HW HT HM S3 S4
  have RK := hid_intro (rank_any t p (some ⟨ga, 0, none⟩) ln gc lo w4 K4.out KW.out BA.out btl)
  rw [HFL.out] at RK
  go_wp2_with fail
  refine RK.out.mono ?_
  rintro en w5 ⟨rfl, hg5⟩
  have F5 := hid_intro hg5
  clear hg5 RK
  have RR := hid_intro (refRank11 ma mn mc (grG C) la ln lc lo w5 (M4.out.cef (CeF.of F5.out)) (L4.out.keptN F5.out) btl HB.out HSR.out hmn)
  obtain ⟨F, hF⟩ : ∃ F, findT (grG C) lo = F := ⟨_, rfl⟩
  rw [hF] at RR ⊢
  have g0 : ((F : Int) == (F : Int)) = true := by simp
  clear hF
  go_wp2_with fail
  refine RR.out.mono ?_
  rintro en w6 ⟨rfl, hg6⟩
  have F6 := hid_intro (grown_trans F5.out hg6)
  clear hg6 RR F5
  have CN := hid_intro (count_any t p (some ⟨ga, 0, none⟩) ln gc lo (some ⟨gb, 0, none⟩) hn gd hi w6 (K4.out.kept (FrT.of F6.out)) KW.out (BA.out.keptN F6.out) btl (BB.out.keptN F6.out) bth)
  rw [HFL.out] at CN
  go_wp2_with fail
  refine CN.out.mono ?_
  rintro en w7 ⟨rfl, hg7⟩
  have F7 := hid_intro (grown_trans F6.out hg7)
  clear hg7 CN F6 g0
  have RA := hid_intro (refRange11 ma mn mc (grG C) la ln lc lo ha hn hc hi w7 (M4.out.cef (CeF.of F7.out)) (L4.out.keptN F7.out) (H4.out.keptN F7.out) btl bth HB.out HSR.out hmn)
  generalize withinT (grG C) lo hi = TL at *
  go_wp2_with fail
  refine RA.out.mono ?_
  rintro en w8 ⟨ra, rn, rc, rfl, hg8, hm8⟩
  have hrn : TL.length = rn := hm8.1
  rw [hrn]
  have g0 : ((rn : Int) == (rn : Int)) = true := by simp
  have F8 := hid_intro (grown_trans F7.out hg8)
  clear hg8 hm8 RA F7 hrn
  have FR := hid_intro (from_an t p (some ⟨ga, 0, none⟩) ln gc lo w8 (K4.out.kept (FrT.of F8.out)) KW.out (BA.out.keptN F8.out) btl (by omega))
  rw [HFL.out] at FR
  obtain ⟨q1, hq1⟩ : ∃ q, (withinT (grG C) lo []).head?.getD pz = q := ⟨_, rfl⟩
  obtain ⟨f1, hf1⟩ : ∃ f, (withinT (grG C) lo []).head?.isSome = f := ⟨_, rfl⟩
  have RF := hid_intro (fun (W : World) (hW : w4.grownBy W none) => refFrom11 ma mn mc (grG C) la ln lc lo w4 W M4.out hW (L4.out.keptN hW) btl HB.out HSR.out hmn)
  rw [hq1, hf1] at FR RF
  clear hq1 hf1
  go_wp2_with fail
  refine FR.out.mono ?_
  rintro en w9 ⟨kv0, vv0, rfl, hv9, hg9⟩
  obtain ⟨av1, cv1, bv1, dv1, ev1, ev1', -, -⟩ := bp_shape hv9.bp
  subst ev1 ev1'
  have F9 := hid_intro (grown_trans F8.out hg9)
  have V9 := hid_intro hv9
  clear hg9 hv9 FR F8 g0
  have F9' := hid_intro (grown_trans F9.out (World.grownBy_alloc w9 (.cells #[(.slice av1 q1.key.length cv1), (.slice bv1 q1.val.length dv1)] 38) none))
  go_wp2_with fail
  refine (RF.out _ F9'.out).mono ?_
  rintro en w10 ⟨kq0, vq0, rfl, hq10, hg10⟩
  obtain ⟨au1, cu1, bu1, du1, eu1, eu1', -, -⟩ := bp_shape hq10
  subst eu1 eu1'
  have F10 := hid_intro (grown_trans F9'.out hg10)
  have V10 := hid_intro ((V9.out.kept (World.grownBy_alloc w9 (.cells #[(.slice av1 q1.key.length cv1), (.slice bv1 q1.val.length dv1)] 38) none)).kept hg10)
  have XP10 := hid_intro (heap_kept (heap_at0 w9 #[(.slice av1 q1.key.length cv1), (.slice bv1 q1.val.length dv1)] 38) hg10)
  have hz9 := F9.out.size
  have hP10 : w9.heap.size < w10.heap.size := (Array.getElem?_eq_some_iff.1 XP10.out).1
  have Q1 := hid_intro hq10
  clear hg10 hq10 RF V9 F9' F9
  obtain ⟨P, hP⟩ : ∃ P, w9.heap.size = P := ⟨_, rfl⟩
  rw [hP] at XP10 hz9 hP10 ⊢
  clear hP
  have ga10 := World.grownBy_alloc w10 (.cells #[(.slice au1 q1.key.length cu1), (.slice bu1 q1.val.length du1)] 38) none
  have XPa := hid_intro (heap_kept XP10.out ga10)
  have XQa := hid_intro (heap_at0 w10 #[(.slice au1 q1.key.length cu1), (.slice bu1 q1.val.length du1)] 38)
  have dp0 := cell_heap (i := 0) XPa.out rfl
  have dp1 := cell_heap (i := 1) XPa.out rfl
  have dq0 := cell_heap (i := 0) XQa.out rfl
  have dq1 := cell_heap (i := 1) XQa.out rfl
  have Fa := hid_intro (grown_trans F10.out ga10)
  have SP := hid_intro (samePairB (.slice av1 q1.key.length cv1) (.slice bv1 q1.val.length dv1) (.slice au1 q1.key.length cu1) (.slice bu1 q1.val.length du1) q1 _ (V10.out.kept ga10).bp (Q1.out.cef (CeF.of Fa.out)))
  have g1 : (f1 == f1) = true := by simp
  clear V10 XP10 ga10 F10 Q1
  go_wp2_with fail
  refine SP.out.mono ?_
  rintro en w11 ⟨rfl, hg11⟩
  have F11 := hid_intro (grown_trans Fa.out hg11)
  have XP := hid_intro (heap_kept XPa.out hg11)
  have XQ := hid_intro (heap_kept XQa.out hg11)
  have hQ11 := (Array.getElem?_eq_some_iff.1 XQ.out).1
  clear hg11 SP XPa XQa Fa dp0 dp1 dq0 dq1
  obtain ⟨Q, hQ⟩ : ∃ Q, w10.heap.size = Q := ⟨_, rfl⟩
  rw [hQ] at XQ hQ11 hP10 ⊢
  clear hQ
  have FU := hid_intro (upto_an t p (some ⟨ga, 0, none⟩) ln gc lo w11 (K4.out.kept (FrT.of F11.out)) KW.out (BA.out.keptN F11.out) btl (by omega))
  rw [HFL.out] at FU
  obtain ⟨q2, hq2⟩ : ∃ q, (withinT (grG C) [] (lo ++ [0])).reverse.head?.getD pz = q := ⟨_, rfl⟩
  obtain ⟨f2, hf2⟩ : ∃ f, (withinT (grG C) [] (lo ++ [0])).reverse.head?.isSome = f := ⟨_, rfl⟩
  have RU := hid_intro (fun (W : World) (hW : w4.grownBy W none) => refUpto11 ma mn mc (grG C) la ln lc lo w4 W M4.out hW (L4.out.keptN hW) btl HB.out HSR.out hmn)
  rw [hq2, hf2] at FU RU
  clear hq2 hf2
  go_wp2_with fail
  refine FU.out.mono ?_
  rintro en w12 ⟨kv20, vv20, rfl, hv12, hg12⟩
  obtain ⟨av2, cv2, bv2, dv2, ev2, ev2', -, -⟩ := bp_shape hv12.bp
  subst ev2 ev2'
  have F12 := hid_intro (grown_trans F11.out hg12)
  have XP12 := hid_intro (heap_kept XP.out hg12)
  have XQ12 := hid_intro (heap_kept XQ.out hg12)
  obtain ⟨y1, y2⟩ := pair_put XP12.out (.slice av2 q2.key.length cv2) (.slice bv2 q2.val.length dv2)
  have V12 := hid_intro (hv12.put XP12.out y2)
  have XP13 := hid_intro y1
  have XQ13 := hid_intro (show _ = _ from (y2.block Q (Array.getElem?_eq_some_iff.1 XQ12.out).1 (by simp; omega)).trans XQ12.out)
  have F13 := hid_intro (gr_set (gr_set F12.out 0 (.slice av2 q2.key.length cv2) (b := P) hz9) 1 (.slice bv2 q2.val.length dv2) (b := P) hz9)
  have dp0 := cell_heap (i := 0) XP12.out rfl
  have dp1 := cell_heap (i := 1) XP12.out rfl
  have zp0 := frozen_of_row w12 P 0 _ _ XP12.out
  have zp1 := frozen_of_row w12 P 1 _ _ XP12.out
  clear hg12 hv12 FU F11 XP XQ y1 y2 g1 XP12 XQ12
  go_wp2_with fail
  refine (RU.out _ F13.out).mono ?_
  rintro en w14 ⟨kq20, vq20, rfl, hq14, hg14⟩
  obtain ⟨au2, cu2, bu2, du2, eu2, eu2', -, -⟩ := bp_shape hq14
  subst eu2 eu2'
  have F14 := hid_intro (grown_trans F13.out hg14)
  have V14 := hid_intro (V12.out.kept hg14)
  have XP14 := hid_intro (heap_kept XP13.out hg14)
  have XQ14 := hid_intro (heap_kept XQ13.out hg14)
  have Q14 := hid_intro hq14
  obtain ⟨y1, y2⟩ := pair_put XQ14.out (.slice au2 q2.key.length cu2) (.slice bu2 q2.val.length du2)
  have V15 := hid_intro (V14.out.put XQ14.out y2)
  have XQ15 := hid_intro y1
  have XP15 := hid_intro (show _ = _ from (y2.block P (Array.getElem?_eq_some_iff.1 XP14.out).1 (by simp; omega)).trans XP14.out)
  have F15 := hid_intro (gr_set (gr_set F14.out 0 (.slice au2 q2.key.length cu2) (b := Q) (by omega)) 1 (.slice bu2 q2.val.length du2) (b := Q) (by omega))
  have dq0 := cell_heap (i := 0) XQ14.out rfl
  have dq1 := cell_heap (i := 1) XQ14.out rfl
  have zq0 := frozen_of_row w14 Q 0 _ _ XQ14.out
  have zq1 := frozen_of_row w14 Q 1 _ _ XQ14.out
  have ep0 := cell_heap (i := 0) XP15.out rfl
  have ep1 := cell_heap (i := 1) XP15.out rfl
  have eq0 := cell_heap (i := 0) XQ15.out rfl
  have eq1 := cell_heap (i := 1) XQ15.out rfl
  have SP := hid_intro (samePairB (.slice av2 q2.key.length cv2) (.slice bv2 q2.val.length dv2) (.slice au2 q2.key.length cu2) (.slice bu2 q2.val.length du2) q2 _ V15.out.bp (Q14.out.cef (CeF.of F15.out)))
  have g1 : (f2 == f2) = true := by simp
  clear hg14 hq14 RU F12 F13 F14 V12 V14 XP13 XQ13 y1 y2 dp0 dp1 zp0 zp1
  go_wp2_with fail
  refine SP.out.mono ?_
  rintro en w16 ⟨rfl, hg16⟩
  have F16 := hid_intro (grown_trans F15.out hg16)
  have XP := hid_intro (heap_kept XP15.out hg16)
  have XQ := hid_intro (heap_kept XQ15.out hg16)
  clear hg16 SP XP15 XQ15 XP14 XQ14 F15 V15 Q14 dq0 dq1 zq0 zq1 ep0 ep1 eq0 eq1
  have FN := hid_intro (nth_an t p ix w16 (K4.out.kept (FrT.of F16.out)) KW.out)
  rw [HFL.out] at FN
  obtain ⟨q3, hq3⟩ : ∃ q, (nthO (grG C) ix).getD pz = q := ⟨_, rfl⟩
  obtain ⟨f3, hf3⟩ : ∃ f : Int, (if (nthO (grG C) ix).isSome then 0 else 110) = f := ⟨_, rfl⟩
  have RN := hid_intro (fun (W : World) (hW : w4.grownBy W none) => refNth11 ma mn mc (grG C) ix w4 W M4.out hW)
  rw [hq3, hf3] at FN RN
  clear hq3 hf3
  go_wp2_with fail
  refine FN.out.mono ?_
  rintro en w17 ⟨kv30, vv30, rfl, hv17, hg17⟩
  obtain ⟨av3, cv3, bv3, dv3, ev3, ev3', -, -⟩ := bp_shape hv17.bp
  subst ev3 ev3'
  have F17 := hid_intro (grown_trans F16.out hg17)
  have XP17 := hid_intro (heap_kept XP.out hg17)
  have XQ17 := hid_intro (heap_kept XQ.out hg17)
  obtain ⟨y1, y2⟩ := pair_put XP17.out (.slice av3 q3.key.length cv3) (.slice bv3 q3.val.length dv3)
  have V17 := hid_intro (hv17.put XP17.out y2)
  have XP18 := hid_intro y1
  have XQ18 := hid_intro (show _ = _ from (y2.block Q (Array.getElem?_eq_some_iff.1 XQ17.out).1 (by simp; omega)).trans XQ17.out)
  have F18 := hid_intro (gr_set (gr_set F17.out 0 (.slice av3 q3.key.length cv3) (b := P) hz9) 1 (.slice bv3 q3.val.length dv3) (b := P) hz9)
  have dp0 := cell_heap (i := 0) XP17.out rfl
  have dp1 := cell_heap (i := 1) XP17.out rfl
  have zp0 := frozen_of_row w17 P 0 _ _ XP17.out
  have zp1 := frozen_of_row w17 P 1 _ _ XP17.out
  clear hg17 hv17 FN F16 XP XQ y1 y2 g1 XP17 XQ17
  go_wp2_with fail
  refine (RN.out _ F18.out).mono ?_
  rintro en w19 ⟨kq30, vq30, rfl, hq19, hg19⟩
  obtain ⟨au3, cu3, bu3, du3, eu3, eu3', -, -⟩ := bp_shape hq19
  subst eu3 eu3'
  have F19 := hid_intro (grown_trans F18.out hg19)
  have V19 := hid_intro (V17.out.kept hg19)
  have XP19 := hid_intro (heap_kept XP18.out hg19)
  have XQ19 := hid_intro (heap_kept XQ18.out hg19)
  have Q19 := hid_intro hq19
  obtain ⟨y1, y2⟩ := pair_put XQ19.out (.slice au3 q3.key.length cu3) (.slice bu3 q3.val.length du3)
  have V20 := hid_intro (V19.out.put XQ19.out y2)
  have XQ20 := hid_intro y1
  have XP20 := hid_intro (show _ = _ from (y2.block P (Array.getElem?_eq_some_iff.1 XP19.out).1 (by simp; omega)).trans XP19.out)
  have F20 := hid_intro (gr_set (gr_set F19.out 0 (.slice au3 q3.key.length cu3) (b := Q) (by omega)) 1 (.slice bu3 q3.val.length du3) (b := Q) (by omega))
  have dq0 := cell_heap (i := 0) XQ19.out rfl
  have dq1 := cell_heap (i := 1) XQ19.out rfl
  have zq0 := frozen_of_row w19 Q 0 _ _ XQ19.out
  have zq1 := frozen_of_row w19 Q 1 _ _ XQ19.out
  have ep0 := cell_heap (i := 0) XP20.out rfl
  have ep1 := cell_heap (i := 1) XP20.out rfl
  have eq0 := cell_heap (i := 0) XQ20.out rfl
  have eq1 := cell_heap (i := 1) XQ20.out rfl
  have SP := hid_intro (samePairB (.slice av3 q3.key.length cv3) (.slice bv3 q3.val.length dv3) (.slice au3 q3.key.length cu3) (.slice bu3 q3.val.length du3) q3 _ V20.out.bp (Q19.out.cef (CeF.of F20.out)))
  have g1 : (f3 == f3) = true := by simp
  clear hg19 hq19 RN F17 F18 F19 V17 V19 XP18 XQ18 y1 y2 dp0 dp1 zp0 zp1
  go_wp2_with fail
  refine SP.out.mono ?_
  rintro en w21 ⟨rfl, hg21⟩
  have F21 := hid_intro (grown_trans F20.out hg21)
  clear hg21 SP XP20 XQ20 XP19 XQ19 F20 V20 Q19 dq0 dq1 zq0 zq1 ep0 ep1 eq0 eq1
  have NC := hid_intro (num11 f3 w21)
  go_wp2_with fail
  refine NC.out.mono ?_
  rintro en w22 ⟨rfl, hw22⟩
  rw [hw22]
  clear hw22 NC
  have OA7 := hid_intro (OA4.out.kept F21.out (Classical.em _))
  have OB7 := hid_intro (OB.out.kept F21.out (Classical.em _))
  have MC := hid_intro (marked11 ga ln gc _ lo la lc w21 OA7.out (L4.out.keptN F21.out) hs1)
  go_wp2_with fail
  refine MC.out.mono ?_
  rintro en w23 ⟨rfl, hg23⟩
  have T8 := hid_intro (grown_new (grown_trans G4.out F21.out) hg23 (by omega))
  have OB8 := hid_intro (OB7.out.kept hg23 (.inr (by simp only [Value.ownBlock, ne_eq, Option.some.injEq]; omega)))
  have MD := hid_intro (marked11 gb hn gd _ hi ha hc w23 OB8.out (HHI.out.keptN T8.out) hs2)
  clear hg23 MC OB7 g1
  go_wp2_with fail
  refine MD.out.mono ?_
  rintro en w24 ⟨rfl, hg24⟩
  have T9 := hid_intro (grown_new T8.out hg24 (by omega))
  clear hg24 MD
  go_wp2
  go_ret
  exact ⟨rfl, T9.out⟩
 ·have e1 : (decide (ln ≤ 1000) && decide (hn ≤ 1000)) = false := by
   cases h : (decide (ln ≤ 1000) && decide (hn ≤ 1000)) with
   | false => rfl
   | true => simp at h; exact absurd h hs
  rw [e1]
  clear hs e1
  go_wp2
  go_ret
  exact ⟨rfl, G2.out⟩
end Go.Proofs.YtoecgpckkodmcaaGreat
namespace Go.Proofs.YtoecgpckkodmcaaGreat.walkRanks
open Go.ChangeShapes Go.WideShapes Go.ChangeAt Go.WideMaps Go.WideElems Go.RowKit Go.Deep
open Go.ChangeMaps (open_string shut_string)
theorem own : ownKnob Tryz.prog.godebug = none := by kernel_rfl
theorem laidOut : laidOutB Tryz.prog = true := by kernel_rfl
theorem bytes_u8 : Tryz.prog.bytesOf 5 = 1 := by kernel_rfl
theorem bytes_i64 : Tryz.prog.bytesOf 3 = 8 := by kernel_rfl
set_option linter.unusedVariables false
set_option maxRecDepth 100000 in
theorem lifted (os : Os) (started : os.Started) (H : Type) (enc : TypeId × Value → H) :
  ReturnsInHanded {} Tryz.checked os 6 .any (Rows.walkRanksSpec.pre6 enc Tryz.prog Tryz.f6 Rows.walkRanksRow.domain false) (Rows.walkRanksSpec.post enc Tryz.prog Tryz.f6 false true false false) := by
 refine returnsInHanded_of_change_sized (C := Tryz.checked) own started (by kernel_rfl) Tryz.func6
  (ChangeSpec.witness6 (enc := enc) (C := Tryz.checked) false ⟨#[], #[.slice none 0 0, .slice none 0 0, .slice none 0 0, .int .i64 0], []⟩ 8 (by kernel_rfl) (by kernel_rfl) (by kernel_rfl) (by kernel_rfl)) ?_
 intro W base args ds gs before hval0 hW hcnd hsz0 _
 have hval : ∀ (j : Nat) t v, Tryz.f6.params[j]? = some t → args[j]? = some v → Value.okWide Tryz.prog W .any base t v := hval0
 have hsz : (DataW.weightsEach Tryz.prog (Tryz.f6.params.toList ++ Rows.walkRanksSpec.plain.varTypes Tryz.prog) (ds ++ gs)).all (· ≤ reachBytes) = true := hsz0
 clear hsz0
 have hW' := hW
 obtain ⟨p, q, hA0, hV, rfl, hfz, hnd⟩ := hW
 have hA : DataW.TrodAll enc Tryz.prog W 0 (fun _ => true) true Tryz.f6.params.toList args.toList ds p := hA0
 rw [Tryz.params6] at hA hval hsz
 obtain ⟨v0, vs0, d0, ds0, p0, q0, hargs, rfl, rfl, h0, r0⟩ := trodAll_cons hA
 obtain ⟨v1, vs1, d1, ds1, p1, q1, rfl, rfl, rfl, h1, r1⟩ := trodAll_cons r0
 obtain ⟨v2, vs2, d2, ds2, p2, q2, rfl, rfl, rfl, h2, r2⟩ := trodAll_cons r1
 obtain ⟨v3, vs3, d3, ds3, p3, q3, rfl, rfl, rfl, h3, r3⟩ := trodAll_cons r2
 obtain ⟨rfl, rfl, rfl⟩ := trodAll_nil r3
 obtain rfl : args = #[v0, v1, v2, v3] := by cases args; simp_all
 obtain ⟨rfl, rfl⟩ := trodVars_none hV
 obtain ⟨a0, len0, cap0, rfl⟩ := okWide_slice Tryz.underlying22 (hval 0 22 v0 rfl rfl)
 have k0 := h0
 have lt0 : ∀ x ∈ p0, x.block < W.heap.size := by obtain ⟨m, hm⟩ := k0; exact DataW.trod_lt m _ _ _ hm
 obtain ⟨z0, b0, e0, l0, c0⟩ : ∃ L, CgW W a0 L ∧ L.length = len0 ∧ len0 ≤ cap0 ∧ cap0 ≤ 9223372036854775807 := by
  obtain ⟨fuel, hf⟩ := h0
  exact chgs_open (by simpa [Value.cells] using hf)
 obtain ⟨a1, len1, cap1, rfl⟩ := okWide_slice Tryz.underlying23 (hval 1 23 v1 rfl rfl)
 have k1 := h1
 have lt1 : ∀ x ∈ p1, x.block < W.heap.size := by obtain ⟨m, hm⟩ := k1; exact DataW.trod_lt m _ _ _ hm
 obtain ⟨z1, b1, t1, l1, c1⟩ : ∃ zs, Byt W a1 len1 cap1 zs ∧ Bt zs ∧ len1 ≤ cap1 ∧ cap1 ≤ 140737488351232 := by
  obtain ⟨fuel, hf⟩ := h1
  rcases open_ints Tryz.underlying23 Tryz.underlying5 (by kernel_rfl) hf with ⟨hcs, _⟩ | ⟨x, l, c, zs, hcs, _, hl, hm, hz, hx, hcell, hwz⟩
  ·simp [Value.cells] at hcs
   obtain ⟨rfl, rfl, rfl⟩ := hcs
   exact ⟨[], Byt.empty W, Bt.nil, Nat.le_refl _, by omega⟩
  ·simp [Value.cells] at hcs
   obtain ⟨rfl, rfl, rfl⟩ := hcs
   have hz' : zs.length = cap1 := by simpa using hz
   obtain ⟨h1, h2, _, _⟩ := byt_of_row (zs := zs) (.inr ⟨_, rfl, hl, hm, hz', hcell, hwz⟩)
   have hs := sized_slice hsz (j := 1) (t := 23) (e := 5) rfl (congrArg (fun y => some (Prod.fst y)) hx) Tryz.underlying23
   rw [bytes_u8] at hs
   simp only [lits, List.length_map, List.length_take, List.length_drop, reachBytes] at hs
   exact ⟨_, h1, h2, hl, by omega⟩
 obtain ⟨a2, len2, cap2, rfl⟩ := okWide_slice Tryz.underlying23 (hval 2 23 v2 rfl rfl)
 have k2 := h2
 have lt2 : ∀ x ∈ p2, x.block < W.heap.size := by obtain ⟨m, hm⟩ := k2; exact DataW.trod_lt m _ _ _ hm
 obtain ⟨z2, b2, t2, l2, c2⟩ : ∃ zs, Byt W a2 len2 cap2 zs ∧ Bt zs ∧ len2 ≤ cap2 ∧ cap2 ≤ 140737488351232 := by
  obtain ⟨fuel, hf⟩ := h2
  rcases open_ints Tryz.underlying23 Tryz.underlying5 (by kernel_rfl) hf with ⟨hcs, _⟩ | ⟨x, l, c, zs, hcs, _, hl, hm, hz, hx, hcell, hwz⟩
  ·simp [Value.cells] at hcs
   obtain ⟨rfl, rfl, rfl⟩ := hcs
   exact ⟨[], Byt.empty W, Bt.nil, Nat.le_refl _, by omega⟩
  ·simp [Value.cells] at hcs
   obtain ⟨rfl, rfl, rfl⟩ := hcs
   have hz' : zs.length = cap2 := by simpa using hz
   obtain ⟨h1, h2, _, _⟩ := byt_of_row (zs := zs) (.inr ⟨_, rfl, hl, hm, hz', hcell, hwz⟩)
   have hs := sized_slice hsz (j := 2) (t := 23) (e := 5) rfl (congrArg (fun y => some (Prod.fst y)) hx) Tryz.underlying23
   rw [bytes_u8] at hs
   simp only [lits, List.length_map, List.length_take, List.length_drop, reachBytes] at hs
   exact ⟨_, h1, h2, hl, by omega⟩
 obtain ⟨a3, rfl, rfl, rfl, w3⟩ := open_int Tryz.underlying3 (hval 3 3 v3 rfl rfl) h3
 clear hA0 hval0
 refine (walkRanks_walk a0 len0 cap0 z0 a1 len1 cap1 z1 a2 len2 cap2 z2 a3 W b0 e0 b1 t1 b2 t2).mono fun e W' ⟨he, hg⟩ => ?_
 subst he
 have bel := below_ofW hg
 exact ⟨_, rfl, _, _, _, [], _, [], hW', trodAll_mk1 (shut_bool Tryz.underlying4 _), (trodAll_cons_mk (Below.trod laidOut (by kernel_rfl) (of_decide_eq_true (by kernel_rfl)) k0 bel lt0) (trodAll_cons_mk (Below.trod laidOut (by kernel_rfl) (of_decide_eq_true (by kernel_rfl)) k1 bel lt1) (trodAll_cons_mk (Below.trod laidOut (by kernel_rfl) (of_decide_eq_true (by kernel_rfl)) k2 bel lt2) (trodAll_cons_mk (shut_int Tryz.underlying3 w3) trodAll_mk0)))), rfl, bel.frame _, fun h => by cases h⟩
theorem over : Rows.walkRanksRow.holds Tryz.pinned (OpenSpec.ofChange Rows.walkRanksSpec) :=
 OpenClaim.holds_of_wide 6 Tryz.f6 rfl rfl rfl rfl rfl rfl rfl ⟨rfl, rfl, rfl, rfl, rfl⟩ rfl rfl rfl rfl rfl (by kernel_rfl) Tryz.func6 (by kernel_rfl)
  (of_decide_eq_true (by kernel_rfl)) (by unfold Func.isWrapper; first | (rw [if_pos (by decide +kernel)]; kernel_rfl) | (rw [if_neg (by decide +kernel)]; exact ⟨rfl, rfl⟩))
  (fun os started H enc _ => lifted os started H enc)
end Go.Proofs.YtoecgpckkodmcaaGreat.walkRanks
namespace Go.Proofs.YtoecgpckkodmcaaGreat
theorem walkRanks_holds : Rows.WalkRanksSaid := walkRanks.over
#print axioms walkRanks_holds
end Go.Proofs.YtoecgpckkodmcaaGreat
