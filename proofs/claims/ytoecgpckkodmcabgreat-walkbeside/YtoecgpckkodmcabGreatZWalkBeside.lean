import Derived.Test.YtoecgpckkodmcabGreatQ51
import Derived.Test.YtoecgpckkodmcabGreatQ50
import Derived.Test.YtoecgpckkodmcabGreatQ41
import Derived.WalkKit
import Derived.ProofKit
import Derived.OpenShut
import Derived.ShutString
import Derived.ChangeOld
import Derived.Below
import Derived.SizedLaws
import Derived.Deep.Slices
import Derived.Test.YtoecgpckkodmcabGreatRows
namespace Go.Proofs.YtoecgpckkodmcabGreat
open Go.RowKit
set_option maxHeartbeats 16000000 in
set_option maxRecDepth 100000 in
theorem walkBeside_walk (a : Option Addr) (n c : Nat) (C : List CgT) (la : Option Addr) (ln lc : Nat) (key : List Int) (w : World) (hC : CgW w a C) (hCn : C.length = n) (hlo : Byt w la ln lc key) (btl : Bt key) :
  Calls Tryz.prog 3 #[.slice a n c, .slice la ln lc] w fun en w' => en = .returned (.bool true) ∧ w.grownBy w' none := by
 have HC := hid_intro hC
 have HLO := hid_intro hlo
 have HN := hid_intro hCn
 clear hC hlo hCn
 go_enter Tryz.func3, Tryz.ntmps3
 go_wp2_with fail
 refine (first11 w).mono ?_
 rintro en w1 ⟨rfl, hg1⟩
 have G1 := hid_intro hg1
 clear hg1
 go_wp2_with fail
 refine (grown_law a n c C w1 (HC.out.cef (CeF.of G1.out)) HN.out).mono ?_
 rintro en w2 ⟨p, t, ma, mn, mc, rfl, ht2, hw2, _, hg2⟩
 have HT := hid_intro ht2
 have HW := hid_intro hw2
 have G2 := hid_intro (grown_trans G1.out hg2)
 clear ht2 hw2 hg2 HC
 by_cases hs : ln ≤ 1000
 ·have hs9 : ¬ (1000 : Int) < (ln : Int) := by omega
  have KW := hid_intro (HW.out.walk (Nat.le_refl _))
  have HFL := hid_intro HW.out.fl
  have HOK := hid_intro HW.out.ok
  have HSR := hid_intro HW.out.srt
  have HB : Hid (∀ q ∈ grG C, Bt q.key) := fun q hq => (HW.out.vp q hq).kb
  have HVP := hid_intro HW.out.vp
  have hle := HW.out.le
  have L2 := hid_intro (HLO.out.keptN G2.out)
  have LC := hid_intro (fun (W : World) (hW : w2.grownBy W none) => len_any t p W (HT.out.kept (FrT.of hW)) HOK.out (by rw [HFL.out]; have := HW.out.le; omega))
  have FR := hid_intro (from_an t p la ln lc key w2 HT.out KW.out L2.out btl (by omega))
  have UP := hid_intro (fun (W : World) (hW : w2.grownBy W none) => upto_an t p la ln lc key W (HT.out.kept (FrT.of hW)) KW.out (L2.out.keptN hW) btl (by omega))
  have GT := hid_intro (fun (W : World) (hW : w2.grownBy W none) => tget_any t p la ln lc key W (HT.out.kept (FrT.of hW)) HOK.out (L2.out.keptN hW) btl)
  have RK := hid_intro (fun (W : World) (hW : w2.grownBy W none) => rank_any t p la ln lc key W (HT.out.kept (FrT.of hW)) KW.out (L2.out.keptN hW) btl)
  have NT := hid_intro (fun (i : Int) (W : World) (hW : w2.grownBy W none) => nth_an t p i W (HT.out.kept (FrT.of hW)) KW.out)
  rw [getO_look HOK.out] at GT
  rw [HFL.out] at FR UP GT RK LC NT
  generalize hL : grG C = L at *
  clear HW hL
  have BH := hid_intro (beside_has (key := key) HSR.out HB.out)
  have BN := hid_intro (beside_no (key := key) HSR.out HB.out)
  obtain ⟨o1, ho1⟩ : ∃ o, (withinT L key []).head? = o := ⟨_, rfl⟩
  obtain ⟨o2, ho2⟩ : ∃ o, (withinT L [] (key ++ [0])).reverse.head? = o := ⟨_, rfl⟩
  rw [ho1] at FR BH BN
  rw [ho2] at UP BH BN
  clear ho1 ho2
  obtain ⟨f1, hf1⟩ : ∃ f, o1.isSome = f := ⟨_, rfl⟩
  obtain ⟨f2, hf2⟩ : ∃ f, o2.isSome = f := ⟨_, rfl⟩
  obtain ⟨q1, hq1⟩ : ∃ q, o1.getD pz = q := ⟨_, rfl⟩
  obtain ⟨q2, hq2⟩ : ∃ q, o2.getD pz = q := ⟨_, rfl⟩
  have HF1 := hid_intro hf1
  have HF2 := hid_intro hf2
  have HQ1 := hid_intro hq1
  have HQ2 := hid_intro hq2
  rw [hf1, hq1] at FR
  rw [hf2, hq2] at UP
  clear hf1 hf2 hq1 hq2
  go_wp2_with fail
  refine FR.out.mono ?_
  rintro en w3 ⟨kv0, vv0, rfl, hv3, hg3⟩
  obtain ⟨a1, c1, b1, d1, e1, e1', -, -⟩ := bp_shapeB hv3.bp
  subst e1 e1'
  have V3 := hid_intro hv3
  have gA := World.grownBy_alloc w3 (.cells #[.slice a1 q1.key.length c1, .slice b1 q1.val.length d1] 30) none
  have GA := hid_intro gA
  have F3 := hid_intro (grown_trans hg3 gA)
  clear hg3 hv3 gA FR
  go_wp2_with fail
  refine (UP.out _ F3.out).mono ?_
  rintro en w4 ⟨kv0, vv0, rfl, hv4, hg4⟩
  obtain ⟨a2, c2, b2, d2, e2, e2', -, -⟩ := bp_shapeB hv4.bp
  subst e2 e2'
  have gB := World.grownBy_alloc w4 (.cells #[.slice a2 q2.key.length c2, .slice b2 q2.val.length d2] 30) none
  have VA := hid_intro (((V3.out.kept GA.out).kept hg4).kept gB)
  have VB := hid_intro (hv4.kept gB)
  have XA := hid_intro (heap_kept (heap_kept (heap_at0 w3 #[.slice a1 q1.key.length c1, .slice b1 q1.val.length d1] 30) hg4) gB)
  have XB := hid_intro (heap_at0 w4 #[.slice a2 q2.key.length c2, .slice b2 q2.val.length d2] 30)
  have F4 := hid_intro (grown_trans (grown_trans F3.out hg4) gB)
  clear hg4 hv4 gB UP V3 GA F3
  go_wp2_with fail
  refine (GT.out _ F4.out).mono ?_
  rintro en w5 ⟨⟨ga, gn, gc, rfl, hb5⟩, hg5⟩
  have V1 := hid_intro (VA.out.kept hg5)
  have V2 := hid_intro (VB.out.kept hg5)
  have X1 := hid_intro (heap_kept XA.out hg5)
  have X2 := hid_intro (heap_kept XB.out hg5)
  have F5 := hid_intro (grown_trans F4.out hg5)
  have B5 := hid_intro hb5
  clear hg5 hb5 VA VB XA XB F4 GT
  generalize w3.heap.size = P1 at *
  generalize w4.heap.size = P2 at *
  cases hh : (lookT L key).isSome with
  | true =>
   obtain ⟨pr, h1, h2, h3, h4⟩ := BH.out hh
   have i1 : f1 = true := by rw [← HF1.out, h3]; rfl
   have i2 : f2 = true := by rw [← HF2.out, h4]; rfl
   have i3 : q1 = pr := by rw [← HQ1.out, h3]; rfl
   have i4 : q2 = pr := by rw [← HQ2.out, h4]; rfl
   rw [h2] at B5
   subst i1 i2
   obtain ⟨_, _, _, _, j1, j2, j3, j4⟩ := bp_shapeB V1.out.bp
   obtain ⟨_, _, _, _, k1, k2, k3, k4⟩ := bp_shapeB V2.out.bp
   cases j1
   cases j2
   cases k1
   cases k2
   have L5 := L2.out.keptN F5.out
   have S1 := hid_intro (same_yes a1 la q1.key.length ln c1 lc q1.key key w5 j3 L5 (by rw [i3, h1]))
   have S2 := hid_intro (same_yes b1 ga q1.val.length gn d1 gc q1.val _ w5 j4 B5.out.b (by rw [i3]; rfl))
   have S3 := hid_intro (same_yes a2 la q2.key.length ln c2 lc q2.key key w5 k3 L5 (by rw [i4, h1]))
   have S4 := hid_intro (same_yes b2 ga q2.val.length gn d2 gc q2.val _ w5 k4 B5.out.b (by rw [i4]; rfl))
   have d10 := cell_heap (i := 0) X1.out rfl
   have d11 := cell_heap (i := 1) X1.out rfl
   have d20 := cell_heap (i := 0) X2.out rfl
   have d21 := cell_heap (i := 1) X2.out rfl
   clear hh h1 h2 h3 h4 i3 i4 j3 j4 k3 k4 L5 B5
   generalize q1.key.length = n1 at *
   generalize q1.val.length = m1 at *
   generalize q2.key.length = n2 at *
   generalize q2.val.length = m2 at *
   go_wp2_with fail
   refine S1.out.mono ?_
   rintro en w6 ⟨rfl, hw⟩
   rw [hw]
   clear hw
   go_wp2_with fail
   refine S2.out.mono ?_
   rintro en w6 ⟨rfl, hw⟩
   rw [hw]
   clear hw
   go_wp2_with fail
   refine S3.out.mono ?_
   rintro en w6 ⟨rfl, hw⟩
   rw [hw]
   clear hw
   go_wp2_with fail
   refine S4.out.mono ?_
   rintro en w6 ⟨rfl, hw⟩
   rw [hw]
   clear hw
   go_wp2
   go_ret
   exact ⟨rfl, grown_trans G2.out F5.out⟩
  | false =>
   obtain ⟨h1, h2, h3, h4, h5, h6⟩ := BN.out hh
   have hfl := findT_le L key
   obtain ⟨F, hF⟩ : ∃ F, findT L key = F := ⟨_, rfl⟩
   obtain ⟨M, hM⟩ : ∃ M, L.length = M := ⟨_, rfl⟩
   rw [hF] at h1 h2 h3 h4 h5 h6
   rw [← h1, HF1.out, hM] at h3
   rw [← h1, HF1.out, HQ1.out] at h5
   rw [← h2, HF2.out] at h4
   rw [← h2, HF2.out, HQ2.out] at h6
   have NA := hid_intro (NT.out (F : Int))
   have NB := hid_intro (NT.out ((F : Int) - 1))
   rw [← h1, HQ1.out, HF1.out] at NA
   rw [← h2, HQ2.out, HF2.out] at NB
   obtain ⟨E1, hE1⟩ : ∃ E : Int, (if f1 then 0 else 110) = E := ⟨_, rfl⟩
   obtain ⟨E2, hE2⟩ : ∃ E : Int, (if f2 then 0 else 110) = E := ⟨_, rfl⟩
   have e5 : (E1 == 0) = f1 := by rw [← hE1]; cases f1 <;> rfl
   have e6 : (E2 == 0) = f2 := by rw [← hE2]; cases f2 <;> rfl
   rw [hE1] at NA
   rw [hE2] at NB
   have HE5 := hid_intro e5
   have HE6 := hid_intro e6
   have H3 := hid_intro h3
   have H4 := hid_intro h4
   clear hE1 hE2 e5 e6 h3 h4
   rw [hF, hM] at hfl
   rw [hM] at LC hle
   rw [hF] at RK
   have H5 := hid_intro h5
   have H6 := hid_intro h6
   have HK2 : Hid (f2 = true → q2.key.length ≤ 1000000) := fun e => by
    have e2 := HF2.out
    rw [e] at e2
    cases ho : o2 with
    | none => rw [ho] at e2; cases e2
    | some pr =>
     have e3 := HQ2.out
     rw [ho] at e3 h2
     have e4 : pr ∈ L := by
      unfold nthO at h2
      split at h2
      ·cases h2
      ·exact List.mem_of_getElem? h2.symm
     rw [← e3]
     have := (HVP.out pr e4).k2
     show pr.key.length ≤ 1000000
     omega
   clear hh h1 h2 h5 h6 hF hM BH BN NT B5 HF1 HF2 HQ1 HQ2
   go_wp2_with fail
   refine (RK.out w5 F5.out).mono ?_
   rintro en w6 ⟨rfl, hg6⟩
   have V1' := hid_intro (V1.out.kept hg6)
   have V2' := hid_intro (V2.out.kept hg6)
   have X1' := hid_intro (heap_kept X1.out hg6)
   have X2' := hid_intro (heap_kept X2.out hg6)
   have F6 := hid_intro (grown_trans F5.out hg6)
   clear hg6 V1 V2 X1 X2 F5 RK
   go_wp2_with fail
   refine (LC.out w6 F6.out).mono ?_
   rintro en w7 ⟨rfl, hg7⟩
   have V1 := hid_intro (V1'.out.kept hg7)
   have V2 := hid_intro (V2'.out.kept hg7)
   have X1 := hid_intro (heap_kept X1'.out hg7)
   have X2 := hid_intro (heap_kept X2'.out hg7)
   have F7 := hid_intro (grown_trans F6.out hg7)
   clear hg7 V1' V2' X1' X2' F6 LC
   have q0 : IntKind.i64.wrap ((F : Int) - 1) = (F : Int) - 1 := by rw [IntKind.wrap_i64]; omega
   go_wp2_with fail
   refine (NA.out w7 F7.out).mono ?_
   rintro en w8 ⟨kv0, vv0, rfl, hv8, hg8⟩
   obtain ⟨a3, c3, b3, d3, e3, e3', -, -⟩ := bp_shapeB hv8.bp
   subst e3 e3'
   have gC := World.grownBy_alloc w8 (.cells #[.slice a3 q1.key.length c3, .slice b3 q1.val.length d3] 30) none
   have V1' := hid_intro ((V1.out.kept hg8).kept gC)
   have V2' := hid_intro ((V2.out.kept hg8).kept gC)
   have V3' := hid_intro (hv8.kept gC)
   have X1' := hid_intro (heap_kept (heap_kept X1.out hg8) gC)
   have X2' := hid_intro (heap_kept (heap_kept X2.out hg8) gC)
   have X3' := hid_intro (heap_at0 w8 #[.slice a3 q1.key.length c3, .slice b3 q1.val.length d3] 30)
   have F8 := hid_intro (grown_trans (grown_trans F7.out hg8) gC)
   clear hg8 hv8 gC V1 V2 X1 X2 F7 NA
   go_wp2_with fail
   refine (NB.out _ F8.out).mono ?_
   rintro en w9 ⟨kv0, vv0, rfl, hv9, hg9⟩
   obtain ⟨a4, c4, b4, d4, e4, e4', -, -⟩ := bp_shapeB hv9.bp
   subst e4 e4'
   have gD := World.grownBy_alloc w9 (.cells #[.slice a4 q2.key.length c4, .slice b4 q2.val.length d4] 30) none
   have V1 := hid_intro ((V1'.out.kept hg9).kept gD)
   have V2 := hid_intro ((V2'.out.kept hg9).kept gD)
   have V3 := hid_intro ((V3'.out.kept hg9).kept gD)
   have V4 := hid_intro (hv9.kept gD)
   have X1 := hid_intro (heap_kept (heap_kept X1'.out hg9) gD)
   have X2 := hid_intro (heap_kept (heap_kept X2'.out hg9) gD)
   have X3 := hid_intro (heap_kept (heap_kept X3'.out hg9) gD)
   have X4 := hid_intro (heap_at0 w9 #[.slice a4 q2.key.length c4, .slice b4 q2.val.length d4] 30)
   have F9 := hid_intro (grown_trans (grown_trans F8.out hg9) gD)
   clear hg9 hv9 gD V1' V2' V3' X1' X2' X3' F8 NB
   go_upto_region 16 with fail
   generalize w9.alloc (.cells #[.slice a4 q2.key.length c4, .slice b4 q2.val.length d4] 30) = wA at *
   generalize w8.heap.size = P3 at *
   generalize w9.heap.size = P4 at *
   cases f1 <;> cases f2
   all_goals
    have e5 := HE5.out
    have e6 := HE6.out
    have h3 := H3.out
    have h4 := H4.out
    clear HE5 HE6 H3 H4
    first | replace h3 := of_decide_eq_true h3 | replace h3 := of_decide_eq_false h3
    first | replace h4 := of_decide_eq_true h4 | replace h4 := of_decide_eq_false h4
    first | have h4n : 0 < F := by omega | have h4n : ¬ 0 < F := by omega
    go_wp2_with fail
    refine (num11 E1 wA).mono ?_
    rintro en wB ⟨rfl, hw⟩
    rw [hw]
    clear hw
    go_wp2_with fail
    refine (num11 E2 wA).mono ?_
    rintro en wB ⟨rfl, hw⟩
    rw [hw]
    clear hw
    have d10 := cell_heap (i := 0) X1.out rfl
    have d11 := cell_heap (i := 1) X1.out rfl
    have d20 := cell_heap (i := 0) X2.out rfl
    have d21 := cell_heap (i := 1) X2.out rfl
    have d30 := cell_heap (i := 0) X3.out rfl
    have d31 := cell_heap (i := 1) X3.out rfl
    have d40 := cell_heap (i := 0) X4.out rfl
    have d41 := cell_heap (i := 1) X4.out rfl
    have SP := hid_intro (samePairC _ _ _ _ q1 wA V1.out.bp V3.out.bp)
    go_wp2_with fail
    refine SP.out.mono ?_
    rintro en wB ⟨rfl, hgB⟩
    have V1' := hid_intro (V1.out.kept hgB)
    have V2' := hid_intro (V2.out.kept hgB)
    have V4' := hid_intro (V4.out.kept hgB)
    have FB := hid_intro (grown_trans F9.out hgB)
    have X1' := hid_intro (heap_kept X1.out hgB)
    have X2' := hid_intro (heap_kept X2.out hgB)
    have X4' := hid_intro (heap_kept X4.out hgB)
    clear hgB d10 d11 d20 d21 d30 d31 d40 d41 X1 X2 X3 X4 V1 V2 V3 V4 F9 SP
    have d20 := cell_heap (i := 0) X2'.out rfl
    have d21 := cell_heap (i := 1) X2'.out rfl
    have d40 := cell_heap (i := 0) X4'.out rfl
    have d41 := cell_heap (i := 1) X4'.out rfl
    have SP := hid_intro (samePairC _ _ _ _ q2 wB V2'.out.bp V4'.out.bp)
    go_wp2_with fail
    refine SP.out.mono ?_
    rintro en wC ⟨rfl, hgC⟩
    have V1 := hid_intro (V1'.out.kept hgC)
    have V2 := hid_intro (V2'.out.kept hgC)
    have FC := hid_intro (grown_trans FB.out hgC)
    have X1 := hid_intro (heap_kept X1'.out hgC)
    have X2 := hid_intro (heap_kept X2'.out hgC)
    clear hgC d20 d21 d40 d41 X1' X2' X4' V1' V2' V4' FB SP
    have d10 := cell_heap (i := 0) X1.out rfl
    have d20 := cell_heap (i := 0) X2.out rfl
    obtain ⟨_, _, _, _, j1, j2, j3, j4⟩ := bp_shapeB V1.out.bp
    obtain ⟨_, _, _, _, k1, k2, k3, k4⟩ := bp_shapeB V2.out.bp
    cases j1
    cases j2
    cases k1
    cases k2
    have LA := hid_intro (less11 la a1 ln q1.key.length lc c1 key q1.key wC (L2.out.keptN FC.out) j3 (by omega))
    have K3 := hid_intro k3
    clear j3 j4 k3 k4 V1 V2
   ·go_wp2
    go_ret
    exact ⟨rfl, grown_trans G2.out FC.out⟩
   ·have hx := H6.out (by trivial)
    have LB := hid_intro (less11 a2 la q2.key.length ln c2 lc q2.key key wC K3.out (L2.out.keptN FC.out) (by have := HK2.out (by trivial); omega))
    rw [decide_eq_true hx] at LB
    clear hx
    go_wp2_with fail
    refine LB.out.mono ?_
    rintro en wD ⟨rfl, hgD⟩
    have FD := hid_intro (grown_trans FC.out hgD)
    clear hgD
    go_wp2
    go_ret
    exact ⟨rfl, grown_trans G2.out FD.out⟩
   ·have hx := H5.out (by trivial)
    rw [decide_eq_true hx] at LA
    clear hx
    go_wp2_with fail
    refine LA.out.mono ?_
    rintro en wD ⟨rfl, hgD⟩
    have FD := hid_intro (grown_trans FC.out hgD)
    clear hgD
    go_wp2
    go_ret
    exact ⟨rfl, grown_trans G2.out FD.out⟩
   ·have hx := H5.out (by trivial)
    rw [decide_eq_true hx] at LA
    have hy := H6.out (by trivial)
    clear hx
    go_wp2_with fail
    refine LA.out.mono ?_
    rintro en wD ⟨rfl, hgD⟩
    have dD := hgD.cell d20 (by simp)
    have LB := hid_intro (less11 a2 la q2.key.length ln c2 lc q2.key key wD (K3.out.keptN hgD) (L2.out.keptN (grown_trans FC.out hgD)) (by have := HK2.out (by trivial); omega))
    rw [decide_eq_true hy] at LB
    have FD := hid_intro (grown_trans FC.out hgD)
    clear hgD hy
    go_wp2_with fail
    refine LB.out.mono ?_
    rintro en wE ⟨rfl, hgE⟩
    have FE := hid_intro (grown_trans FD.out hgE)
    clear hgE
    go_wp2
    go_ret
    exact ⟨rfl, grown_trans G2.out FE.out⟩
 ·have hs9 : (1000 : Int) < (ln : Int) := by omega
  go_wp2
  go_ret
  exact ⟨rfl, G2.out⟩
end Go.Proofs.YtoecgpckkodmcabGreat
namespace Go.Proofs.YtoecgpckkodmcabGreat.walkBeside
open Go.ChangeShapes Go.WideShapes Go.ChangeAt Go.WideMaps Go.WideElems Go.RowKit Go.Deep
open Go.ChangeMaps (open_string shut_string)
theorem own : ownKnob Tryz.prog.godebug = none := by kernel_rfl
theorem laidOut : laidOutB Tryz.prog = true := by kernel_rfl
theorem bytes_u8 : Tryz.prog.bytesOf 5 = 1 := by kernel_rfl
theorem bytes_i64 : Tryz.prog.bytesOf 3 = 8 := by kernel_rfl
set_option linter.unusedVariables false
set_option maxRecDepth 100000 in
theorem lifted (os : Os) (started : os.Started) (H : Type) (enc : TypeId × Value → H) :
  ReturnsInHanded {} Tryz.checked os 3 .any (Rows.walkBesideSpec.pre6 enc Tryz.prog Tryz.f3 Rows.walkBesideRow.domain false) (Rows.walkBesideSpec.post enc Tryz.prog Tryz.f3 false true false false) := by
 refine returnsInHanded_of_change_sized (C := Tryz.checked) own started (by kernel_rfl) Tryz.func3
  (ChangeSpec.witness6 (enc := enc) (C := Tryz.checked) false ⟨#[], #[.slice none 0 0, .slice none 0 0], []⟩ 8 (by kernel_rfl) (by kernel_rfl) (by kernel_rfl) (by kernel_rfl)) ?_
 intro W base args ds gs before hval0 hW hcnd hsz0 _
 have hval : ∀ (j : Nat) t v, Tryz.f3.params[j]? = some t → args[j]? = some v → Value.okWide Tryz.prog W .any base t v := hval0
 have hsz : (DataW.weightsEach Tryz.prog (Tryz.f3.params.toList ++ Rows.walkBesideSpec.plain.varTypes Tryz.prog) (ds ++ gs)).all (· ≤ reachBytes) = true := hsz0
 clear hsz0
 have hW' := hW
 obtain ⟨p, q, hA0, hV, rfl, hfz, hnd⟩ := hW
 have hA : DataW.TrodAll enc Tryz.prog W 0 (fun _ => true) true Tryz.f3.params.toList args.toList ds p := hA0
 rw [Tryz.params3] at hA hval hsz
 obtain ⟨v0, vs0, d0, ds0, p0, q0, hargs, rfl, rfl, h0, r0⟩ := trodAll_cons hA
 obtain ⟨v1, vs1, d1, ds1, p1, q1, rfl, rfl, rfl, h1, r1⟩ := trodAll_cons r0
 obtain ⟨rfl, rfl, rfl⟩ := trodAll_nil r1
 obtain rfl : args = #[v0, v1] := by cases args; simp_all
 obtain ⟨rfl, rfl⟩ := trodVars_none hV
 obtain ⟨a0, len0, cap0, rfl⟩ := okWide_slice Tryz.underlying22 (hval 0 22 v0 rfl rfl)
 have k0 := h0
 have lt0 : ∀ x ∈ p0, x.block < W.heap.size := by obtain ⟨m, hm⟩ := k0; exact DataW.trod_lt m _ _ _ hm
 obtain ⟨z0, b0, e0, l0, c0⟩ : ∃ L, CgW W a0 L ∧ L.length = len0 ∧ len0 ≤ cap0 ∧ cap0 ≤ 9223372036854775807 := by
  obtain ⟨fuel, hf⟩ := h0
  exact chgs_open (by simpa [Value.cells] using hf)
 obtain ⟨a1, len1, cap1, rfl⟩ := okWide_slice Tryz.underlying23 (hval 1 23 v1 rfl rfl)
 have k1 := h1
 have lt1 : ∀ x ∈ p1, x.block < W.heap.size := by obtain ⟨m, hm⟩ := k1; exact DataW.trod_lt m _ _ _ hm
 obtain ⟨z1, b1, t1, l1, c1⟩ : ∃ zs, Byt W a1 len1 cap1 zs ∧ Bt zs ∧ len1 ≤ cap1 ∧ cap1 ≤ 140737488351232 := by
  obtain ⟨fuel, hf⟩ := h1
  rcases open_ints Tryz.underlying23 Tryz.underlying5 (by kernel_rfl) hf with ⟨hcs, _⟩ | ⟨x, l, c, zs, hcs, _, hl, hm, hz, hx, hcell, hwz⟩
  ·simp [Value.cells] at hcs
   obtain ⟨rfl, rfl, rfl⟩ := hcs
   exact ⟨[], Byt.empty W, Bt.nil, Nat.le_refl _, by omega⟩
  ·simp [Value.cells] at hcs
   obtain ⟨rfl, rfl, rfl⟩ := hcs
   have hz' : zs.length = cap1 := by simpa using hz
   obtain ⟨h1, h2, _, _⟩ := byt_of_row (zs := zs) (.inr ⟨_, rfl, hl, hm, hz', hcell, hwz⟩)
   have hs := sized_slice hsz (j := 1) (t := 23) (e := 5) rfl (congrArg (fun y => some (Prod.fst y)) hx) Tryz.underlying23
   rw [bytes_u8] at hs
   simp only [lits, List.length_map, List.length_take, List.length_drop, reachBytes] at hs
   exact ⟨_, h1, h2, hl, by omega⟩
 clear hA0 hval0
 refine (walkBeside_walk a0 len0 cap0 z0 a1 len1 cap1 z1 W b0 e0 b1 t1).mono fun e W' ⟨he, hg⟩ => ?_
 subst he
 have bel := below_ofW hg
 exact ⟨_, rfl, _, _, _, [], _, [], hW', trodAll_mk1 (shut_bool Tryz.underlying4 _), (trodAll_cons_mk (Below.trod laidOut (by kernel_rfl) (of_decide_eq_true (by kernel_rfl)) k0 bel lt0) (trodAll_cons_mk (Below.trod laidOut (by kernel_rfl) (of_decide_eq_true (by kernel_rfl)) k1 bel lt1) trodAll_mk0)), rfl, bel.frame _, fun h => by cases h⟩
theorem over : Rows.walkBesideRow.holds Tryz.pinned (OpenSpec.ofChange Rows.walkBesideSpec) :=
 OpenClaim.holds_of_wide 3 Tryz.f3 rfl rfl rfl rfl rfl rfl rfl ⟨rfl, rfl, rfl, rfl, rfl⟩ rfl rfl rfl rfl rfl (by kernel_rfl) Tryz.func3 (by kernel_rfl)
  (of_decide_eq_true (by kernel_rfl)) (by unfold Func.isWrapper; first | (rw [if_pos (by decide +kernel)]; kernel_rfl) | (rw [if_neg (by decide +kernel)]; exact ⟨rfl, rfl⟩))
  (fun os started H enc _ => lifted os started H enc)
end Go.Proofs.YtoecgpckkodmcabGreat.walkBeside
namespace Go.Proofs.YtoecgpckkodmcabGreat
theorem walkBeside_holds : Rows.WalkBesideSaid := walkBeside.over
#print axioms walkBeside_holds
end Go.Proofs.YtoecgpckkodmcabGreat
