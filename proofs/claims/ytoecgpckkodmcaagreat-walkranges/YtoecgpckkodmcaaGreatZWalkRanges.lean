import Derived.Test.YtoecgpckkodmcaaGreatQ44
import Derived.Test.YtoecgpckkodmcaaGreatQ41
import Derived.WalkKit
import Derived.ProofKit
import Derived.OpenShut
import Derived.ShutString
import Derived.ChangeOld
import Derived.Below
import Derived.SizedLaws
import Derived.Deep.Slices
import Derived.Test.YtoecgpckkodmcaaGreatRows
namespace Go.Proofs.YtoecgpckkodmcaaGreat
open Go.RowKit
set_option maxHeartbeats 16000000 in
set_option maxRecDepth 100000 in
theorem walkRanges_walk (a : Option Addr) (n c : Nat) (C : List CgT) (la : Option Addr) (ln lc : Nat) (lo : List Int) (ha : Option Addr) (hn hc : Nat) (hi : List Int) (stop : Int) (w : World) (hC : CgW w a C) (hCn : C.length = n) (hlo : Byt w la ln lc lo) (btl : Bt lo) (hhi : Byt w ha hn hc hi) (bth : Bt hi) :
  Calls Tryz.prog 3 #[.slice a n c, .slice la ln lc, .slice ha hn hc, .int .i64 stop] w fun en w' => en = .returned (.bool true) ∧ w.grownBy w' none := by
 have HC := hid_intro hC
 have HLO := hid_intro hlo
 have HHI := hid_intro hhi
 have HN := hid_intro hCn
 clear hC hlo hhi hCn
 go_enter Tryz.func3, Tryz.ntmps3
 go_wp2_with fail
 refine (first11 w).mono ?_
 rintro en w1 ⟨rfl, hg1⟩
 have G1 := hid_intro hg1
 clear hg1
 go_wp2_with fail
 refine (grown_law a n c C w1 (HC.out.cef (CeF.of G1.out)) HN.out).mono ?_
 rintro en w2 ⟨p, t, ma, mn, mc, rfl, ht2, hw2, hm2, hg2⟩
 have HT := hid_intro ht2
 have HW := hid_intro hw2
 have HM := hid_intro hm2
 have G2 := hid_intro (grown_trans G1.out hg2)
 clear ht2 hw2 hg2 hm2 HC
 go_wp2_with fail
 refine (short11 la ha ln hn lc hc w2).mono ?_
 rintro en w3 ⟨rfl, hw⟩
 rw [hw]
 clear hw
 by_cases hs : ln ≤ 1000 ∧ hn ≤ 1000
 ·have e1 : (decide (ln ≤ 1000) && decide (hn ≤ 1000)) = true := by simp [hs.1, hs.2]
  rw [e1]
  obtain ⟨hs1, hs2⟩ := hs
  clear e1
  have KW := hid_intro (HW.out.walk (Nat.le_refl _))
  have HFL := hid_intro HW.out.fl
  have RC := hid_intro (roomy11 la ln lc lo w2 (HLO.out.keptN G2.out) hs1)
  go_wp2_with fail
  refine RC.out.mono ?_
  rintro en w3 ⟨ga, gc, rfl, hga, hoa, hg3⟩
  have OA := hid_intro hoa
  have G3 := hid_intro (grown_trans G2.out hg3)
  have S3 := hid_intro hg3
  have hga2 := (own_lt10 hoa rfl).2.1
  clear hoa hg3 RC
  have RC := hid_intro (roomy11 ha hn hc hi w3 (HHI.out.keptN G3.out) hs2)
  go_wp2_with fail
  refine RC.out.mono ?_
  rintro en w4 ⟨gb, gd, rfl, hgb, hob, hg4⟩
  have OB := hid_intro hob
  have hgb4 := (own_lt10 hob rfl).2.1
  have G4 := hid_intro (grown_trans G3.out hg4)
  have S4 := hid_intro (grown_trans S3.out hg4)
  have OA4 := hid_intro (OA.out.kept hg4 (Classical.em _))
  clear hob hg4 RC OA
  have HGW := hid_intro HW.out
  have R5 := hid_intro (range_c p (some ⟨ga, 0, none⟩) ln gc lo (some ⟨gb, 0, none⟩) hn gd hi w4 (rm_byt OA4.out HLO.out.len) (rm_byt OB.out HHI.out.len) (by omega) (by omega))
  go_wp2_with fail
  refine R5.out.mono ?_
  rintro en w5 ⟨A1, A2, A3, rfl, hr5⟩
  have RR := hid_intro hr5
  have g5 := hr5.rb.gr
  have OA5 := hid_intro (OA4.out.kept g5 (Classical.em _))
  have OB5 := hid_intro (OB.out.kept g5 (Classical.em _))
  have G5 := hid_intro g5
  clear hr5 R5 g5 OA4 OB
  have R6 := hid_intro (back_c p (some ⟨ga, 0, none⟩) ln gc lo (some ⟨gb, 0, none⟩) hn gd hi w5 (rm_byt OA5.out HLO.out.len) (rm_byt OB5.out HHI.out.len) (by omega) (by omega))
  go_wp2_with fail
  refine R6.out.mono ?_
  rintro en w6 ⟨B1, B2, B3, rfl, hr6⟩
  have RB := hid_intro hr6
  have g6 := hr6.rb.gr
  have OA6 := hid_intro (OA5.out.kept g6 (Classical.em _))
  have OB6 := hid_intro (OB5.out.kept g6 (Classical.em _))
  have G6 := hid_intro g6
  have S6 := hid_intro (grown_trans S4.out (grown_trans G5.out g6))
  clear hr6 R6 g6 OA5 OB5
  have MC := hid_intro (marked11 ga ln gc _ lo la lc w6 OA6.out (HLO.out.keptN (grown_trans G2.out S6.out)) hs1)
  have hz2 := G2.out.size
  have hz3 := S3.out.size
  have hz34 := S4.out.size
  have hz45 := G5.out.size
  have hgb2 := (own_lt10 OB6.out rfl).2.1
  go_wp2_with fail
  refine MC.out.mono ?_
  rintro en w7 ⟨rfl, hg7⟩
  have T7 := hid_intro (grown_new (grown_trans G2.out S6.out) hg7 (by omega))
  have OB7 := hid_intro (OB6.out.kept hg7 (.inr (by simp only [Value.ownBlock, ne_eq, Option.some.injEq]; omega)))
  have MD := hid_intro (marked11 gb hn gd _ hi ha hc w7 OB7.out (HHI.out.keptN T7.out) hs2)
  have H7 := hid_intro hg7
  clear hg7 MC OB6 OA6
  go_wp2_with fail
  refine MD.out.mono ?_
  rintro en w8 ⟨rfl, hg8⟩
  have T8 := hid_intro (grown_new T7.out hg8 (by omega))
  have U8 := hid_intro (grown_new (grown_new S6.out H7.out (by omega)) hg8 (by omega))
  have KA := hid_intro (RR.out.behind G6.out H7.out hg8 (by omega) hgb4)
  have KB := hid_intro (RB.out.behind (World.grownBy.refl _ _) H7.out hg8 (by omega) (by omega))
  clear hg8 MD OB7 RR RB H7
  have TR8 := hid_intro (HT.out.kept (FrT.of U8.out))
  have hle := HW.out.le
  have hml := HM.out.1
  have HL8 := hid_intro (HLO.out.keptN T8.out)
  have HH8 := hid_intro (HHI.out.keptN T8.out)
  have M8 := hid_intro (HM.out.cef (CeF.of U8.out))
  have BL : Hid (∀ q ∈ grG C, Bt q.key) := fun q hq => (HW.out.vp q hq).kb
  have HSR := hid_intro HW.out.srt
  have hlen := (within_sub (grG C) lo hi).length_le
  have RF := hid_intro (refRange11 ma mn mc (grG C) la ln lc lo ha hn hc hi w8 M8.out HL8.out HH8.out btl bth BL.out HSR.out (by omega))
  go_wp2_with fail
  refine RF.out.mono ?_
  rintro en w9 ⟨ra, rn, rc, rfl, hg9, hm9⟩
  have hr9 := hm9.1
  have GO := hid_intro (goes11 (.func (.func 46) #[] #[.pointer (some ⟨A1, 0, none⟩), .pointer (some ⟨A2, 0, none⟩), .pointer (some ⟨A3, 0, none⟩)]) (withinT (grG C) lo hi) w9
   (fun n W h1 h2 hg => rangeK HGW.out (KA.out.grown (grown_trans hg9 hg)) (TR8.out.kept (FrT.of (grown_trans hg9 hg))) btl bth n h1 h2)
   (fun h0 n W hg => rangeK0 HGW.out (KA.out.grown (grown_trans hg9 hg)) (TR8.out.kept (FrT.of (grown_trans hg9 hg))) btl bth h0 n) ra rn rc hm9 stop (by omega))
  have G9 := hid_intro hg9
  clear hg9 hm9 hr9 RF
  go_wp2_with fail
  refine GO.out.mono ?_
  rintro en w10 ⟨rfl, hg10⟩
  have G10 := hid_intro (grown_trans G9.out hg10)
  clear hg10 GO
  have RF := hid_intro (refBack11 ma mn mc (grG C) la ln lc lo ha hn hc hi w10 (M8.out.cef (CeF.of G10.out)) (HL8.out.keptN G10.out) (HH8.out.keptN G10.out) btl bth BL.out HSR.out (by omega))
  go_wp2_with fail
  refine RF.out.mono ?_
  rintro en w11 ⟨qa, qn, qc, rfl, hg11, hm11⟩
  have hr11 := hm11.1
  rw [List.length_reverse] at hr11
  have GO := hid_intro (goes11 (.func (.func 48) #[] #[.pointer (some ⟨B1, 0, none⟩), .pointer (some ⟨B2, 0, none⟩), .pointer (some ⟨B3, 0, none⟩)]) (withinT (grG C) lo hi).reverse w11
   (fun n W h1 h2 hg => backK HGW.out (KB.out.grown (grown_trans (grown_trans G10.out hg11) hg)) (TR8.out.kept (FrT.of (grown_trans (grown_trans G10.out hg11) hg))) btl bth n h1 h2)
   (fun h0 n W hg => backK0 HGW.out (KB.out.grown (grown_trans (grown_trans G10.out hg11) hg)) (TR8.out.kept (FrT.of (grown_trans (grown_trans G10.out hg11) hg))) btl bth (List.reverse_eq_nil_iff.1 h0) n) qa qn qc hm11 stop (by omega))
  have G11 := hid_intro (grown_trans G10.out hg11)
  clear hg11 hm11 hr11 RF
  go_wp2_with fail
  refine GO.out.mono ?_
  rintro en w12 ⟨rfl, hg12⟩
  have T12 := hid_intro (grown_trans T8.out (grown_trans G11.out hg12))
  clear hg12 GO
  go_wp2
  go_ret
  exact ⟨rfl, T12.out⟩
 ·have e1 : (decide (ln ≤ 1000) && decide (hn ≤ 1000)) = false := by
   cases h : (decide (ln ≤ 1000) && decide (hn ≤ 1000)) with
   | false => rfl
   | true => simp at h; exact absurd h hs
  rw [e1]
  clear hs e1
  go_wp2
  go_ret
  exact ⟨rfl, G2.out⟩
end Go.Proofs.YtoecgpckkodmcaaGreat
namespace Go.Proofs.YtoecgpckkodmcaaGreat.walkRanges
open Go.ChangeShapes Go.WideShapes Go.ChangeAt Go.WideMaps Go.WideElems Go.RowKit Go.Deep
open Go.ChangeMaps (open_string shut_string)
theorem own : ownKnob Tryz.prog.godebug = none := by kernel_rfl
theorem laidOut : laidOutB Tryz.prog = true := by kernel_rfl
theorem bytes_u8 : Tryz.prog.bytesOf 5 = 1 := by kernel_rfl
theorem bytes_i64 : Tryz.prog.bytesOf 3 = 8 := by kernel_rfl
set_option linter.unusedVariables false
set_option maxRecDepth 100000 in
theorem lifted (os : Os) (started : os.Started) (H : Type) (enc : TypeId × Value → H) :
  ReturnsInHanded {} Tryz.checked os 3 .any (Rows.walkRangesSpec.pre6 enc Tryz.prog Tryz.f3 Rows.walkRangesRow.domain false) (Rows.walkRangesSpec.post enc Tryz.prog Tryz.f3 false true false false) := by
 refine returnsInHanded_of_change_sized (C := Tryz.checked) own started (by kernel_rfl) Tryz.func3
  (ChangeSpec.witness6 (enc := enc) (C := Tryz.checked) false ⟨#[], #[.slice none 0 0, .slice none 0 0, .slice none 0 0, .int .i64 0], []⟩ 8 (by kernel_rfl) (by kernel_rfl) (by kernel_rfl) (by kernel_rfl)) ?_
 intro W base args ds gs before hval0 hW hcnd hsz0 _
 have hval : ∀ (j : Nat) t v, Tryz.f3.params[j]? = some t → args[j]? = some v → Value.okWide Tryz.prog W .any base t v := hval0
 have hsz : (DataW.weightsEach Tryz.prog (Tryz.f3.params.toList ++ Rows.walkRangesSpec.plain.varTypes Tryz.prog) (ds ++ gs)).all (· ≤ reachBytes) = true := hsz0
 clear hsz0
 have hW' := hW
 obtain ⟨p, q, hA0, hV, rfl, hfz, hnd⟩ := hW
 have hA : DataW.TrodAll enc Tryz.prog W 0 (fun _ => true) true Tryz.f3.params.toList args.toList ds p := hA0
 rw [Tryz.params3] at hA hval hsz
 obtain ⟨v0, vs0, d0, ds0, p0, q0, hargs, rfl, rfl, h0, r0⟩ := trodAll_cons hA
 obtain ⟨v1, vs1, d1, ds1, p1, q1, rfl, rfl, rfl, h1, r1⟩ := trodAll_cons r0
 obtain ⟨v2, vs2, d2, ds2, p2, q2, rfl, rfl, rfl, h2, r2⟩ := trodAll_cons r1
 obtain ⟨v3, vs3, d3, ds3, p3, q3, rfl, rfl, rfl, h3, r3⟩ := trodAll_cons r2
 obtain ⟨rfl, rfl, rfl⟩ := trodAll_nil r3
 obtain rfl : args = #[v0, v1, v2, v3] := by cases args; simp_all
 obtain ⟨rfl, rfl⟩ := trodVars_none hV
 obtain ⟨a0, len0, cap0, rfl⟩ := okWide_slice Tryz.underlying22 (hval 0 22 v0 rfl rfl)
 have k0 := h0
 have lt0 : ∀ x ∈ p0, x.block < W.heap.size := by obtain ⟨m, hm⟩ := k0; exact DataW.trod_lt m _ _ _ hm
 obtain ⟨z0, b0, e0, l0, c0⟩ : ∃ L, CgW W a0 L ∧ L.length = len0 ∧ len0 ≤ cap0 ∧ cap0 ≤ 9223372036854775807 := by
  obtain ⟨fuel, hf⟩ := h0
  exact chgs_open (by simpa [Value.cells] using hf)
 obtain ⟨a1, len1, cap1, rfl⟩ := okWide_slice Tryz.underlying23 (hval 1 23 v1 rfl rfl)
 have k1 := h1
 have lt1 : ∀ x ∈ p1, x.block < W.heap.size := by obtain ⟨m, hm⟩ := k1; exact DataW.trod_lt m _ _ _ hm
 obtain ⟨z1, b1, t1, l1, c1⟩ : ∃ zs, Byt W a1 len1 cap1 zs ∧ Bt zs ∧ len1 ≤ cap1 ∧ cap1 ≤ 140737488351232 := by
  obtain ⟨fuel, hf⟩ := h1
  rcases open_ints Tryz.underlying23 Tryz.underlying5 (by kernel_rfl) hf with ⟨hcs, _⟩ | ⟨x, l, c, zs, hcs, _, hl, hm, hz, hx, hcell, hwz⟩
  ·simp [Value.cells] at hcs
   obtain ⟨rfl, rfl, rfl⟩ := hcs
   exact ⟨[], Byt.empty W, Bt.nil, Nat.le_refl _, by omega⟩
  ·simp [Value.cells] at hcs
   obtain ⟨rfl, rfl, rfl⟩ := hcs
   have hz' : zs.length = cap1 := by simpa using hz
   obtain ⟨h1, h2, _, _⟩ := byt_of_row (zs := zs) (.inr ⟨_, rfl, hl, hm, hz', hcell, hwz⟩)
   have hs := sized_slice hsz (j := 1) (t := 23) (e := 5) rfl (congrArg (fun y => some (Prod.fst y)) hx) Tryz.underlying23
   rw [bytes_u8] at hs
   simp only [lits, List.length_map, List.length_take, List.length_drop, reachBytes] at hs
   exact ⟨_, h1, h2, hl, by omega⟩
 obtain ⟨a2, len2, cap2, rfl⟩ := okWide_slice Tryz.underlying23 (hval 2 23 v2 rfl rfl)
 have k2 := h2
 have lt2 : ∀ x ∈ p2, x.block < W.heap.size := by obtain ⟨m, hm⟩ := k2; exact DataW.trod_lt m _ _ _ hm
 obtain ⟨z2, b2, t2, l2, c2⟩ : ∃ zs, Byt W a2 len2 cap2 zs ∧ Bt zs ∧ len2 ≤ cap2 ∧ cap2 ≤ 140737488351232 := by
  obtain ⟨fuel, hf⟩ := h2
  rcases open_ints Tryz.underlying23 Tryz.underlying5 (by kernel_rfl) hf with ⟨hcs, _⟩ | ⟨x, l, c, zs, hcs, _, hl, hm, hz, hx, hcell, hwz⟩
  ·simp [Value.cells] at hcs
   obtain ⟨rfl, rfl, rfl⟩ := hcs
   exact ⟨[], Byt.empty W, Bt.nil, Nat.le_refl _, by omega⟩
  ·simp [Value.cells] at hcs
   obtain ⟨rfl, rfl, rfl⟩ := hcs
   have hz' : zs.length = cap2 := by simpa using hz
   obtain ⟨h1, h2, _, _⟩ := byt_of_row (zs := zs) (.inr ⟨_, rfl, hl, hm, hz', hcell, hwz⟩)
   have hs := sized_slice hsz (j := 2) (t := 23) (e := 5) rfl (congrArg (fun y => some (Prod.fst y)) hx) Tryz.underlying23
   rw [bytes_u8] at hs
   simp only [lits, List.length_map, List.length_take, List.length_drop, reachBytes] at hs
   exact ⟨_, h1, h2, hl, by omega⟩
 obtain ⟨a3, rfl, rfl, rfl, w3⟩ := open_int Tryz.underlying3 (hval 3 3 v3 rfl rfl) h3
 clear hA0 hval0
 refine (walkRanges_walk a0 len0 cap0 z0 a1 len1 cap1 z1 a2 len2 cap2 z2 a3 W b0 e0 b1 t1 b2 t2).mono fun e W' ⟨he, hg⟩ => ?_
 subst he
 have bel := below_ofW hg
 exact ⟨_, rfl, _, _, _, [], _, [], hW', trodAll_mk1 (shut_bool Tryz.underlying4 _), (trodAll_cons_mk (Below.trod laidOut (by kernel_rfl) (of_decide_eq_true (by kernel_rfl)) k0 bel lt0) (trodAll_cons_mk (Below.trod laidOut (by kernel_rfl) (of_decide_eq_true (by kernel_rfl)) k1 bel lt1) (trodAll_cons_mk (Below.trod laidOut (by kernel_rfl) (of_decide_eq_true (by kernel_rfl)) k2 bel lt2) (trodAll_cons_mk (shut_int Tryz.underlying3 w3) trodAll_mk0)))), rfl, bel.frame _, fun h => by cases h⟩
theorem over : Rows.walkRangesRow.holds Tryz.pinned (OpenSpec.ofChange Rows.walkRangesSpec) :=
 OpenClaim.holds_of_wide 3 Tryz.f3 rfl rfl rfl rfl rfl rfl rfl ⟨rfl, rfl, rfl, rfl, rfl⟩ rfl rfl rfl rfl rfl (by kernel_rfl) Tryz.func3 (by kernel_rfl)
  (of_decide_eq_true (by kernel_rfl)) (by unfold Func.isWrapper; first | (rw [if_pos (by decide +kernel)]; kernel_rfl) | (rw [if_neg (by decide +kernel)]; exact ⟨rfl, rfl⟩))
  (fun os started H enc _ => lifted os started H enc)
end Go.Proofs.YtoecgpckkodmcaaGreat.walkRanges
namespace Go.Proofs.YtoecgpckkodmcaaGreat
theorem walkRanges_holds : Rows.WalkRangesSaid := walkRanges.over
#print axioms walkRanges_holds
end Go.Proofs.YtoecgpckkodmcaaGreat
