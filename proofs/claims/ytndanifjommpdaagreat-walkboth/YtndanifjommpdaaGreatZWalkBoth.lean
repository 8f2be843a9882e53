import Derived.Test.YtndanifjommpdaaGreatQ32
import Derived.Test.YtndanifjommpdaaGreatQ40
import Derived.Deep.RegionHeld3
import Derived.Deep.QuietTactic
import Derived.Test.YtndanifjommpdaaGreatQ41
import Derived.WalkKit
import Derived.ProofKit
import Derived.OpenShut
import Derived.ShutString
import Derived.ChangeOld
import Derived.Below
import Derived.SizedLaws
import Derived.Deep.Slices
import Derived.Test.YtndanifjommpdaaGreatRows
namespace Go.Proofs.YtndanifjommpdaaGreat
open Go.RowKit
set_option maxHeartbeats 16000000 in
set_option maxRecDepth 100000 in
theorem walkBoth_walk (a : Option Addr) (n c : Nat) (C : List CgT) (la : Option Addr) (ln lc : Nat) (lo : List Int) (ma : Option Addr) (mn mc : Nat) (md : List Int) (ha : Option Addr) (hn hc : Nat) (hi : List Int) (w : World) (hC : CgW w a C) (hCn : C.length = n) (hlo : Byt w la ln lc lo) (btl : Bt lo) (hmd : Byt w ma mn mc md) (btm : Bt md) (hhi : Byt w ha hn hc hi) (bth : Bt hi) :
  Calls Tryz.prog 4 #[.slice a n c, .slice la ln lc, .slice ma mn mc, .slice ha hn hc] w fun en w' => en = .returned (.bool true) ∧ w.grownBy w' none := by
 obtain ⟨ip, hip, hp0, hp1, hp2⟩ := info_parts info_pair10
 have HC := hid_intro hC
 have HLO := hid_intro hlo
 have HMD := hid_intro hmd
 have HHI := hid_intro hhi
 have HN := hid_intro hCn
 have HLH := hid_intro hhi.len
 clear hC hlo hhi hCn hmd
 go_enter Tryz.func4, Tryz.ntmps4
 go_wp2_with fail
 refine (first11 w).mono ?_
 rintro en w1 ⟨rfl, hg1⟩
 have G1 := hid_intro hg1
 clear hg1
 go_wp2_with fail
 refine (grown_law a n c C w1 (HC.out.cef (CeF.of G1.out)) HN.out).mono ?_
 rintro en w2 ⟨p, t, ma', mn', mc', rfl, ht2, hw2, _, hg2⟩
 have HT := hid_intro ht2
 have HW := hid_intro hw2
 have G2 := hid_intro (grown_trans G1.out hg2)
 clear ht2 hw2 hg2 HC
 go_wp2_with fail
 refine (short11 la ha ln hn lc hc w2).mono ?_
 rintro en w3 ⟨rfl, hw⟩
 rw [hw]
 clear hw
 by_cases hs : ln ≤ 1000 ∧ hn ≤ 1000
 ·have e1 : (decide (ln ≤ 1000) && decide (hn ≤ 1000)) = true := by simp [hs.1, hs.2]
  rw [e1]
  obtain ⟨hs1, hs2⟩ := hs
  clear e1
  by_cases hm : mn ≤ 1000
  ·have hm1 : ¬ ((mn : Int) > 1000) := by omega
   have KW := hid_intro (HW.out.walk (Nat.le_refl _))
   have HFL := hid_intro HW.out.fl
   have LC := hid_intro (len_any t p w2 HT.out HW.out.ok (by rw [HFL.out]; have := HW.out.le; omega))
   rw [HFL.out] at LC
   have hle := HW.out.le
   have HGW := hid_intro HW.out
   have HSR := hid_intro HW.out.srt
   have HVP := hid_intro HW.out.vp
   have HOK := hid_intro HW.out.ok
   have hwl := (within_sub (grG C) lo hi).length_le
   have hwl2 := (within_sub (grG C) lo md).length_le
   have hwl3 := (within_sub (grG C) md hi).length_le
   generalize grG C = L at *
   obtain ⟨M, hM⟩ : ∃ M, L.length = M := ⟨_, rfl⟩
   rw [hM] at LC hle hwl hwl2 hwl3
   clear hM HW
   go_wp2_with fail
   refine LC.out.mono ?_
   rintro en w4 ⟨rfl, hg4⟩
   have G4 := hid_intro (grown_trans G2.out hg4)
   have T4 := hid_intro (HT.out.kept (FrT.of hg4))
   clear hg4 LC HT
   have R5 := hid_intro (range_any p la ln lc lo ha hn hc hi w4 (HLO.out.keptN G4.out) (HHI.out.keptN G4.out) (by omega) (by omega))
   go_wp2_with fail
   refine R5.out.mono ?_
   rintro en w5 ⟨A1, A2, A3, rfl, hr5⟩
   have RR := hid_intro hr5
   have F5 := hid_intro hr5.gr
   clear hr5 R5
   obtain ⟨M1, hM1⟩ : ∃ M1, M + 1 = M1 := ⟨_, rfl⟩
   have i1 : (M : Int) + 1 = (M1 : Int) := by omega
   have i2 : IntKind.i64.wrap (M1 : Int) = (M1 : Int) := by rw [IntKind.wrap_i64]; omega
   have hM2 : 1 ≤ M1 ∧ M1 ≤ 1000 := by omega
   have HTA : Hid ((withinT L lo hi).take M1 = withinT L lo hi) := List.take_of_length_le (by omega)
   have HTB : Hid ((withinT L lo hi).reverse.take M1 = (withinT L lo hi).reverse) := List.take_of_length_le (by rw [List.length_reverse]; omega)
   have HTC : Hid ((withinT L lo md).take M1 = withinT L lo md) := List.take_of_length_le (by omega)
   have HTD : Hid ((withinT L md hi).take M1 = withinT L md hi) := List.take_of_length_le (by omega)
   have GC := hid_intro (gather_range HGW.out RR.out T4.out btl bth M1 (by omega) (by omega))
   rw [HTA.out] at GC
   clear hM1 hwl2 hwl3
   go_wp2_with fail
   refine GC.out.mono ?_
   rintro en w6 ⟨ba, bk, bc, rfl, hm6, hg6⟩
   have F6 := hid_intro (grown_trans F5.out hg6)
   have M6 := hid_intro hm6
   have hbk : (withinT L lo hi).length = bk := hm6.1
   have HBK := hid_intro hbk
   rw [hbk] at hwl
   clear hg6 hm6 GC F5 RR hbk
   have T6 := hid_intro (T4.out.kept (FrT.of F6.out))
   have G6 := hid_intro (grown_trans G4.out F6.out)
   have R7 := hid_intro (back_any p la ln lc lo ha hn hc hi w6 (HLO.out.keptN G6.out) (HHI.out.keptN G6.out) (by omega) (by omega))
   go_wp2_with fail
   refine R7.out.mono ?_
   rintro en w7 ⟨B1, B2, B3, rfl, hr7⟩
   have GC := hid_intro (gather_back HGW.out hr7 T6.out btl bth M1 (by omega) (by omega))
   rw [HTB.out] at GC
   have F7 := hid_intro hr7.gr
   clear hr7 R7
   go_wp2_with fail
   refine GC.out.mono ?_
   rintro en w8 ⟨da, dk, dc, rfl, hm8, hg8⟩
   have F8 := hid_intro (grown_trans F7.out hg8)
   have hdk : dk = bk := by have := hm8.1; rw [List.length_reverse, HBK.out] at this; exact this.symm
   rw [hdk] at hm8 ⊢
   have M8 := hid_intro hm8
   have U8 := hid_intro (M6.out.cef (CeF.of F8.out))
   have T8 := hid_intro (T6.out.kept (FrT.of F8.out))
   have G8 := hid_intro (grown_trans G6.out F8.out)
   clear hm8 hg8 GC hdk F7 F8 M6 T6 T4 G6 F6 G4 G2
   have HU : Hid (∀ q ∈ withinT L lo hi, ¬ cmpZ q.key lo < 0 ∧ (hn = 0 ∨ cmpZ q.key hi < 0)) := fun q hq => by
    have := within_in HSR.out lo hi hq
    rw [HLH.out] at this
    exact this
   have HUS : Hid (Srt (withinT L lo hi)) := HSR.out.sublist (within_sub L lo hi)
   have HUV : Hid (∀ q ∈ withinT L lo hi, Vp q) := fun q hq => HVP.out q ((within_sub L lo hi).mem hq)
   have HUL : Hid (∀ q ∈ withinT L lo hi, lookT L q.key = some q.val) := fun q hq => by
    obtain ⟨k, hk, hk2⟩ := List.mem_iff_getElem.1 ((within_sub L lo hi).mem hq)
    exact look_self HSR.out (by rw [← hk2]; exact List.getElem?_eq_getElem hk)
   have HCUT : Hid (cmpZ lo md < 0 → (hn = 0 ∨ cmpZ md hi < 0) → withinT L lo md ++ withinT L md hi = withinT L lo hi) := fun h1 h2 => within_cut HSR.out h1 (by rw [HLH.out]; exact h2)
   generalize withinT L lo hi = U at *
   have k1 : ((bk : Int) == (bk : Int)) = true := by simp
   have k2 : ¬ ((bk : Int) > (M : Int)) := by omega
   have k3 : decide (M < bk) = false := decide_eq_false (by omega)
   go_upto_block 0 with fail
   go_cut [18] from 19 to 187 (fun _ wx => w8.grownBy wx none)
   case first =>
    go_wp2_with fail
    go_loopw [18] (fun si wr => ∃ i : Nat, i ≤ bk ∧ si = .int .i64 (i : Nat) ∧ w8.grownBy wr none) (fun si _ => bk - (intOf si).toNat)
    case atStart => exact ⟨0, Nat.zero_le _, rfl, World.grownBy.refl _ _⟩
    case round =>
     obtain ⟨i, hi9, rfl, hg⟩ := hrel
     have G := hid_intro hg
     clear hg
     by_cases hlt : i < bk
     ·have i1 : (i : Int) < (bk : Int) := by omega
      have i0 : (0 : Int) ≤ (i : Int) := by omega
      obtain ⟨pr, hpr⟩ : ∃ pr, U[i]? = some pr := ⟨_, List.getElem?_eq_getElem (by have := HBK.out; omega)⟩
      obtain ⟨K1, hK1⟩ : ∃ K1, bk - 1 = K1 := ⟨_, rfl⟩
      obtain ⟨j, hj⟩ : ∃ j, K1 - i = j := ⟨_, rfl⟩
      have hpd : U.reverse[j]? = some pr := by
       rw [List.getElem?_reverse (by have := HBK.out; omega), ← hpr]
       congr 1
       have := HBK.out
       omega
      have v1 : (bk : Int) - 1 = (K1 : Int) := by omega
      have v2 : IntKind.i64.wrap (K1 : Int) = (K1 : Int) := by rw [IntKind.wrap_i64]; omega
      have v3 : (K1 : Int) - (i : Int) = (j : Int) := by omega
      have v4 : IntKind.i64.wrap (j : Int) = (j : Int) := by rw [IntKind.wrap_i64]; omega
      have j0 : (0 : Int) ≤ (j : Int) := by omega
      have j1 : (j : Int) < (bk : Int) := by omega
      have hmem := List.mem_of_getElem? hpr
      have HV := hid_intro (HUV.out pr hmem)
      have HI2 := hid_intro (HU.out pr hmem)
      have HLK := hid_intro (HUL.out pr hmem)
      have HPR := hid_intro hpr
      obtain ⟨b1, off1, ka, kc, va, vc, rfl, q1, q2, q3, q5⟩ := U8.out.get hpr
      obtain ⟨b2, off2, ka2, kc2, va2, vc2, rfl, r1, r2, r3, r5⟩ := M8.out.get hpd
      have HSP := hid_intro (fun (W : World) (hW : W.heap = wr.heap) => samePair11 ka va ka2 va2 _ _ kc vc kc2 vc2 pr.key pr.val W ((q3.keptN G.out).heap hW) ((q5.keptN G.out).heap hW) ((r3.keptN G.out).heap hW) ((r5.keptN G.out).heap hW))
      have x1 := G.out.cell q1 (by simp)
      have x2 := G.out.cell q2 (by simp)
      have y1 := G.out.cell r1 (by simp)
      have y2 := G.out.cell r2 (by simp)
      have Q1 := hid_intro q1
      have Q2 := hid_intro q2
      have Q3 := hid_intro q3
      have Q5 := hid_intro q5
      have hkb : pr.key.length ≤ 255 := HV.out.k2
      clear q1 q2 q3 q5 r1 r2 r3 r5 hpr hpd hmem hK1 hj
      obtain ⟨kl, hkl⟩ : ∃ kl, pr.key.length = kl := ⟨_, rfl⟩
      obtain ⟨vl, hvl⟩ : ∃ vl, pr.val.length = vl := ⟨_, rfl⟩
      rw [hkl] at HSP x1 y1 Q1 Q3 hkb
      rw [hvl] at HSP x2 y2 Q2 Q5
      clear hkl hvl
      go_upto_region 13 with fail
      go_cut [19] from 98 to 187 (fun s wx => s = .bool true ∧ w8.grownBy wx none)
      case first =>
       go_region_with ((go_at_call 16; refine (HSP.out wr.drew rfl).mono ?_; rintro en w3 ⟨rfl, hg3⟩; have G3 := hid_intro (grown_trans G.out (undrewW hg3)); clear hg3))
       all_goals
        go_simp
        refine Met.intro ?_
        apply_assumption
        refine Met.intro ?_
        apply_assumption
        (repeat apply Exists.intro)
        exact ⟨⟨rfl, G3.out⟩, rfl⟩
      case rest =>
       obtain ⟨hs19, hg13⟩ := hcut
       subst hs19
       have GA := hid_intro hg13
       have d1 := hg13.cell Q1.out (by simp)
       have d2 := hg13.cell Q2.out (by simp)
       have GC := hid_intro (tget_any t p ka kl kc pr.key wc (T8.out.kept (FrT.of hg13)) HOK.out (Q3.out.keptN hg13) HV.out.kb)
       have hgl : getO t pr.key = some pr.val := by rw [getO_look HOK.out, HFL.out]; exact HLK.out
       rw [hgl] at GC
       clear hgl hg13 x1 x2 y1 y2 HSP G
       go_wp2_with fail
       refine GC.out.mono ?_
       rintro en w9 ⟨⟨ga, gn, gc, rfl, hb9⟩, hg9⟩
       have GB := hid_intro (grown_trans GA.out hg9)
       have e1 := hg9.cell d1 (by simp)
       have e2 := hg9.cell d2 (by simp)
       have SC := hid_intro (same_yes ga va gn vl gc vc _ pr.val w9 hb9.b (Q5.out.keptN GB.out) rfl)
       clear hg9 hb9 GC d1 d2 GA
       go_wp2_with fail
       refine SC.out.mono ?_
       rintro en w10 ⟨rfl, hw⟩
       rw [hw]
       clear hw SC e2
       have LA := hid_intro (less11 ka la kl ln kc lc pr.key lo w9 (Q3.out.keptN GB.out) (HLO.out.keptN (grown_trans G8.out GB.out)) (by omega))
       rw [decide_eq_false (by have := HI2.out.1; omega)] at LA
       go_upto_region 16 with fail
       go_cut [23] from 98 to 187 (fun s wx => s = .bool false ∧ w8.grownBy wx none)
       case first =>
        by_cases h0 : hn = 0
        ·have z1 : ¬ ((hn : Int) > 0) := by omega
         clear h0
         go_wp2_with fail
         refine LA.out.mono ?_
         rintro en w11 ⟨rfl, hg11⟩
         have GD := hid_intro (grown_trans GB.out hg11)
         clear hg11
         go_wp2
         go_meet
         exact ⟨rfl, GD.out⟩
        ·have z1 : (hn : Int) > 0 := by omega
         have HL2 : Hid (cmpZ pr.key hi < 0) := HI2.out.2.resolve_left h0
         clear h0
         go_wp2_with fail
         refine LA.out.mono ?_
         rintro en w11 ⟨rfl, hg11⟩
         have GD := hid_intro (grown_trans GB.out hg11)
         have f1 := hg11.cell e1 (by simp)
         have LB := hid_intro (less11 ka ha kl hn kc hc pr.key hi w11 (Q3.out.keptN GD.out) (HHI.out.keptN (grown_trans G8.out GD.out)) (by omega))
         rw [decide_eq_true HL2.out] at LB
         clear hg11 e1
         go_wp2_with fail
         refine LB.out.mono ?_
         rintro en w12 ⟨rfl, hg12⟩
         have GE := hid_intro (grown_trans GD.out hg12)
         clear hg12
         go_wp2
         go_meet
         exact ⟨rfl, GE.out⟩
       case rest =>
        obtain ⟨hs23, hg16⟩ := hcut
        subst hs23
        have GF := hid_intro hg16
        have f1 := hg16.cell Q1.out (by simp)
        clear hg16 LA GB e1
        by_cases h0 : i = 0
        ·have z1 : ¬ ((i : Int) > 0) := by omega
         have z2 : decide ((i : Int) > 0) = false := decide_eq_false z1
         have z3 : decide (0 < i) = false := decide_eq_false (by omega)
         have z4 : decide ((0 : Int) < (i : Int)) = false := decide_eq_false (by omega)
         clear h0
         go_upto_region 17 with fail
         go_quiet (fail)
         go_wp2
         go_roundw
         case rel => exact ⟨i + 1, by omega, by go_num, grown_trans GF.out ((Qt.drewN _ _).grown none)⟩
         case measure => simp [intOf]; omega
        ·obtain ⟨g, hgi⟩ : ∃ g, i - 1 = g := ⟨_, rfl⟩
         have z1 : (i : Int) > 0 := by omega
         have z2 : decide ((i : Int) > 0) = true := decide_eq_true z1
         have z3 : decide (0 < i) = true := decide_eq_true (by omega)
         have z4 : decide ((0 : Int) < (i : Int)) = true := decide_eq_true z1
         have z5 : 0 < i := by omega
         have v5 : (i : Int) - 1 = (g : Int) := by omega
         have v6 : IntKind.i64.wrap (g : Int) = (g : Int) := by rw [IntKind.wrap_i64]; omega
         have g0 : (0 : Int) ≤ (g : Int) := by omega
         have g1 : (g : Int) < (bk : Int) := by omega
         obtain ⟨pg, hpg⟩ : ∃ pg, U[g]? = some pg := ⟨_, List.getElem?_eq_getElem (by have := HBK.out; omega)⟩
         obtain ⟨b3, off3, kg, cg, _, _, e3, q1, _, q3, _⟩ := U8.out.get hpg
         injection e3 with e3
         injection e3 with e3 e4 _
         subst e3 e4
         have hlt2 : cmpZ pg.key pr.key < 0 := by
          obtain ⟨h1, h1'⟩ := List.getElem?_eq_some_iff.1 hpg
          obtain ⟨h2, h2'⟩ := List.getElem?_eq_some_iff.1 HPR.out
          rw [← h1', ← h2']
          exact List.pairwise_iff_getElem.1 HUS.out g i h1 h2 (by omega)
         have hgb : pg.key.length ≤ 255 := (HUV.out pg (List.mem_of_getElem? hpg)).k2
         obtain ⟨gl, hgl⟩ : ∃ gl, pg.key.length = gl := ⟨_, rfl⟩
         rw [hgl] at q1 q3 hgb
         have f2 := GF.out.cell q1 (by simp)
         have LB := hid_intro (fun (W : World) (hW : W.heap = wc.heap) => less11 kg ka gl kl cg kc pg.key pr.key W ((q3.keptN GF.out).heap hW) ((Q3.out.keptN GF.out).heap hW) (by omega))
         rw [decide_eq_true hlt2] at LB
         clear h0 hgi hgl q1 q3 hpg hlt2
         go_upto_region 17 with fail
         go_region_held3 (fun w' => w'.cell? ⟨b1, off1 + g * 2, none⟩ = some (.slice kg gl cg) ∧ w'.cell? ⟨b1, off1 + i * 2, none⟩ = some (.slice ka kl kc)) (first | exact ⟨f2, f1⟩ | go_keep) ((go_at_call 18; refine (LB.out wc.drew rfl).mono ?_; rintro en w13 ⟨rfl, hg13⟩; have GH := hid_intro (grown_trans GF.out (undrewW hg13)); have f3 := (undrewW hg13).cell f2 (by simp); have f4 := (undrewW hg13).cell f1 (by simp); clear hg13))
         all_goals
          go_wp2
          go_roundw
          case rel => exact ⟨i + 1, by omega, by go_num, GH.out⟩
          case measure => simp [intOf]; omega
     ·have i1 : ¬ (i : Int) < (bk : Int) := by omega
      go_wp2_with fail
      go_meet
      exact G.out
   case rest =>
    obtain ⟨w9, hw9⟩ : ∃ w9, w9 = wc := ⟨_, rfl⟩
    subst hw9
    have F9 := hid_intro hcut
    have T9 := hid_intro (T8.out.kept (FrT.of hcut))
    have U9 := hid_intro (U8.out.cef (CeF.of hcut))
    have G9 := hid_intro (grown_trans G8.out hcut)
    clear hcut T8 U8 M8 G8 F9 HU HUS HUV HUL
    obtain ⟨b, hb⟩ : ∃ b : Bool, b = !decide (cmpZ lo md < 0 ∧ (hn = 0 ∨ cmpZ md hi < 0)) := ⟨_, rfl⟩
    have HB := hid_intro hb
    clear hb
    have LA := hid_intro (less11 la ma ln mn lc mc lo md w9 (HLO.out.keptN G9.out) (HMD.out.keptN G9.out) (by omega))
    go_upto_region 19 with fail
    go_cut [202] from 188 to 201 (fun s wx => s = .bool b ∧ w9.grownBy wx none)
    case first =>
     by_cases h1 : cmpZ lo md < 0
     ·rw [decide_eq_true h1] at LA
      by_cases h0 : hn = 0
      ·have z1 : ¬ ((hn : Int) > 0) := by omega
       have hbf : b = false := by rw [HB.out]; simp [h1, h0]
       subst hbf
       clear h0 h1
       go_wp2_with fail
       refine LA.out.mono ?_
       rintro en w11 ⟨rfl, hg11⟩
       have GD := hid_intro hg11
       clear hg11
       go_wp2
       go_meet
       exact ⟨rfl, GD.out⟩
      ·have z1 : (hn : Int) > 0 := by omega
       have hbf : b = !decide (cmpZ md hi < 0) := by rw [HB.out]; simp [h1, h0]
       have HBF := hid_intro hbf
       clear h0 h1 hbf
       go_wp2_with fail
       refine LA.out.mono ?_
       rintro en w11 ⟨rfl, hg11⟩
       have GD := hid_intro hg11
       have LB := hid_intro (less11 ma ha mn hn mc hc md hi w11 (HMD.out.keptN (grown_trans G9.out hg11)) (HHI.out.keptN (grown_trans G9.out hg11)) (by omega))
       clear hg11
       generalize decide (cmpZ md hi < 0) = f2 at *
       cases f2 with
       | true =>
        have hbf : b = false := HBF.out
        subst hbf
        go_wp2_with fail
        refine LB.out.mono ?_
        rintro en w12 ⟨rfl, hg12⟩
        have GE := hid_intro (grown_trans GD.out hg12)
        clear hg12
        go_wp2
        go_meet
        exact ⟨rfl, GE.out⟩
       | false =>
        have hbf : b = true := HBF.out
        subst hbf
        go_wp2_with fail
        refine LB.out.mono ?_
        rintro en w12 ⟨rfl, hg12⟩
        have GE := hid_intro (grown_trans GD.out hg12)
        clear hg12
        go_wp2
        go_meet
        exact ⟨rfl, GE.out⟩
     ·rw [decide_eq_false h1] at LA
      have hbf : b = true := by rw [HB.out]; simp [h1]
      subst hbf
      clear h1
      go_wp2_with fail
      refine LA.out.mono ?_
      rintro en w11 ⟨rfl, hg11⟩
      have GD := hid_intro hg11
      clear hg11
      go_wp2
      go_meet
      exact ⟨rfl, GD.out⟩
    case rest =>
     obtain ⟨hs202, hg10⟩ := hcut
     subst hs202
     cases b with
     | true =>
      have GE := hid_intro (grown_trans G9.out hg10)
      clear hg10
      go_wp2
      go_ret
      exact ⟨rfl, GE.out⟩
     | false =>
      have HCC : Hid (withinT L lo md ++ withinT L md hi = U) := by
       have h := HB.out
       have h2 : decide (cmpZ lo md < 0 ∧ (hn = 0 ∨ cmpZ md hi < 0)) = true := by
        cases h3 : decide (cmpZ lo md < 0 ∧ (hn = 0 ∨ cmpZ md hi < 0)) with
        | true => rfl
        | false => rw [h3] at h; cases h
       have h4 := of_decide_eq_true h2
       exact HCUT.out h4.1 h4.2
      obtain ⟨w10, hw10⟩ : ∃ w10, w10 = wc := ⟨_, rfl⟩
      subst hw10
      have T10 := hid_intro (T9.out.kept (FrT.of hg10))
      have U10 := hid_intro (U9.out.cef (CeF.of hg10))
      have G10 := hid_intro (grown_trans G9.out hg10)
      clear hg10 T9 U9 G9 LA HB HCUT
      have R5 := hid_intro (range_any p la ln lc lo ma mn mc md w10 (HLO.out.keptN G10.out) (HMD.out.keptN G10.out) (by omega) (by omega))
      go_wp2_with fail
      refine R5.out.mono ?_
      rintro en w11 ⟨D1, D2, D3, rfl, hr11⟩
      have GC := hid_intro (gather_range HGW.out hr11 T10.out btl btm M1 (by omega) (by omega))
      rw [HTC.out] at GC
      have F11 := hid_intro hr11.gr
      clear hr11 R5
      go_wp2_with fail
      refine GC.out.mono ?_
      rintro en w12 ⟨xa, xk, xc, rfl, hm12, hg12⟩
      have F12 := hid_intro (grown_trans F11.out hg12)
      have X12 := hid_intro hm12
      have T12 := hid_intro (T10.out.kept (FrT.of F12.out))
      have G12 := hid_intro (grown_trans G10.out F12.out)
      clear hg12 hm12 GC F11 T10
      have R5 := hid_intro (range_any p ma mn mc md ha hn hc hi w12 (HMD.out.keptN G12.out) (HHI.out.keptN G12.out) (by omega) (by omega))
      go_wp2_with fail
      refine R5.out.mono ?_
      rintro en w13 ⟨E1, E2, E3, rfl, hr13⟩
      have GC := hid_intro (gather_range HGW.out hr13 T12.out btm bth M1 (by omega) (by omega))
      rw [HTD.out] at GC
      have F13 := hid_intro hr13.gr
      clear hr13 R5
      go_wp2_with fail
      refine GC.out.mono ?_
      rintro en w14 ⟨ya, yk, yc, rfl, hm14, hg14⟩
      have F14 := hid_intro (grown_trans F13.out hg14)
      have Y14 := hid_intro hm14
      have X14 := hid_intro (X12.out.cef (CeF.of F14.out))
      have U14 := hid_intro (U10.out.cef (CeF.of (grown_trans F12.out F14.out)))
      have G14 := hid_intro (grown_trans G12.out F14.out)
      have hxk := X12.out.1
      have hyk := hm14.1
      have hxy : xk + yk = bk := by
       have h1 := congrArg List.length HCC.out
       rw [List.length_append, hxk, hyk, HBK.out] at h1
       exact h1
      have HXK := hid_intro hxk
      have HYK := hid_intro hyk
      clear hg14 hm14 GC F13 F14 F12 X12 U10 T12 G12 G10 hxk hyk
      generalize withinT L lo md = X at *
      generalize withinT L md hi = Y at *
      have W14 : Hid (w14.grownBy (w14.alloc (.cells #[] 35)) none) := World.grownBy_alloc _ _ _
      obtain ⟨_, xs, hex, hpx⟩ := X14.out
      have HEX := hid_intro (hex.kept (by decide) (FrT.of W14.out))
      have HPX0 := hid_intro hpx
      have O14 : Hid ((w14.alloc (.cells #[] 35)).ownsRow w14.heap.size 35 2 (.slice (some ⟨w14.heap.size, 0, none⟩) 0 0) 0 []) := World.ownsRow_made w14 #[] 0 (Nat.le_refl _) (by unfold maxLen; omega) rfl
      clear hex hpx
      go_wp2_with (at_builtin; refine append_es rfl _ _ 26 rfl w14.heap.size 35 ip (.agg #[.slice none 0 0, .slice none 0 0]) 2 48 Tryz.underlying26 hip hp0 hp1 hp2 rfl (by decide) (.slice (some ⟨w14.heap.size, 0, none⟩) 0 0) 0 [] rfl O14.out xa xk xc xs rfl HEX.out ?c1 ?c2 ?c3 ?_)
      case c1 => unfold maxLen; omega
      case c2 => omega
      case c3 => first | omega | (simp; done)
      intro v15 w15 ho15 hg15
      have G15 : Hid (w14.grownBy w15 none) := gr_turn (World.grownBy_alloc _ _ _) hg15 (fun r e => by simp only [Value.ownBlock, Option.some.injEq] at e; omega)
      have hz15 := G15.out.size
      obtain ⟨a15, c15, hv15⟩ := own_shape10 ho15
      subst hv15
      have O15 := hid_intro ho15
      obtain ⟨_, ys, hey, hpy⟩ := Y14.out
      have HEY := hid_intro (hey.kept (by decide) (FrT.of G15.out))
      have HPY := hid_intro hpy
      clear ho15 hg15 hey hpy O14 HEX W14
      go_wp2_with (at_builtin; refine append_es rfl _ _ 26 rfl w14.heap.size 35 ip (.agg #[.slice none 0 0, .slice none 0 0]) 2 48 Tryz.underlying26 hip hp0 hp1 hp2 rfl (by decide) (.slice a15 xk c15) xk xs.flatten rfl O15.out ya yk yc ys rfl HEY.out ?d1 ?d2 ?d3 ?_)
      case d1 => unfold maxLen; omega
      case d2 => omega
      case d3 => exact hz15
      intro v16 w16 ho16 hg16
      have G16 := hid_intro (gr_turn G15.out hg16 (fun r e => (own_lt10 O15.out e).1))
      rw [← List.flatten_append] at ho16
      have hps := (HPX0.out.cef (CeF.of G16.out)).app (HPY.out.cef (CeF.of G16.out))
      rw [HCC.out] at hps
      obtain ⟨a16, c16, hv16, hm16⟩ := MpW.of ho16 hps HBK.out
      subst hv16
      have S1 := hid_intro (samePairs11 a16 ba bk c16 bc U w16 hm16 (U14.out.cef (CeF.of G16.out)) (by omega))
      have G17 := hid_intro (grown_trans G14.out G16.out)
      clear ho16 hg16 hps hm16 O15 HEY HPY
      go_wp2_with fail
      refine S1.out.mono ?_
      rintro en w17 ⟨rfl, hg17⟩
      have G18 := hid_intro (grown_trans G17.out hg17)
      clear hg17
      go_wp2
      go_ret
      exact ⟨rfl, G18.out⟩
  ·have hm1 : (mn : Int) > 1000 := by omega
   clear hm
   go_wp2
   go_ret
   exact ⟨rfl, G2.out⟩
 ·have e1 : (decide (ln ≤ 1000) && decide (hn ≤ 1000)) = false := by
   cases h : (decide (ln ≤ 1000) && decide (hn ≤ 1000)) with
   | false => rfl
   | true => simp at h; exact absurd h hs
  rw [e1]
  clear hs e1
  go_wp2
  go_ret
  exact ⟨rfl, G2.out⟩
end Go.Proofs.YtndanifjommpdaaGreat
namespace Go.Proofs.YtndanifjommpdaaGreat.walkBoth
open Go.ChangeShapes Go.WideShapes Go.ChangeAt Go.WideMaps Go.WideElems Go.RowKit Go.Deep
open Go.ChangeMaps (open_string shut_string)
theorem own : ownKnob Tryz.prog.godebug = none := by kernel_rfl
theorem laidOut : laidOutB Tryz.prog = true := by kernel_rfl
theorem bytes_u8 : Tryz.prog.bytesOf 5 = 1 := by kernel_rfl
theorem bytes_i64 : Tryz.prog.bytesOf 3 = 8 := by kernel_rfl
set_option linter.unusedVariables false
set_option maxRecDepth 100000 in
theorem lifted (os : Os) (started : os.Started) (H : Type) (enc : TypeId × Value → H) :
  ReturnsInHanded {} Tryz.checked os 4 .any (Rows.walkBothSpec.pre6 enc Tryz.prog Tryz.f4 Rows.walkBothRow.domain false) (Rows.walkBothSpec.post enc Tryz.prog Tryz.f4 false true false false) := by
 refine returnsInHanded_of_change_sized (C := Tryz.checked) own started (by kernel_rfl) Tryz.func4
  (ChangeSpec.witness6 (enc := enc) (C := Tryz.checked) false ⟨#[], #[.slice none 0 0, .slice none 0 0, .slice none 0 0, .slice none 0 0], []⟩ 8 (by kernel_rfl) (by kernel_rfl) (by kernel_rfl) (by kernel_rfl)) ?_
 intro W base args ds gs before hval0 hW hcnd hsz0 _
 have hval : ∀ (j : Nat) t v, Tryz.f4.params[j]? = some t → args[j]? = some v → Value.okWide Tryz.prog W .any base t v := hval0
 have hsz : (DataW.weightsEach Tryz.prog (Tryz.f4.params.toList ++ Rows.walkBothSpec.plain.varTypes Tryz.prog) (ds ++ gs)).all (· ≤ reachBytes) = true := hsz0
 clear hsz0
 have hW' := hW
 obtain ⟨p, q, hA0, hV, rfl, hfz, hnd⟩ := hW
 have hA : DataW.TrodAll enc Tryz.prog W 0 (fun _ => true) true Tryz.f4.params.toList args.toList ds p := hA0
 rw [Tryz.params4] at hA hval hsz
 obtain ⟨v0, vs0, d0, ds0, p0, q0, hargs, rfl, rfl, h0, r0⟩ := trodAll_cons hA
 obtain ⟨v1, vs1, d1, ds1, p1, q1, rfl, rfl, rfl, h1, r1⟩ := trodAll_cons r0
 obtain ⟨v2, vs2, d2, ds2, p2, q2, rfl, rfl, rfl, h2, r2⟩ := trodAll_cons r1
 obtain ⟨v3, vs3, d3, ds3, p3, q3, rfl, rfl, rfl, h3, r3⟩ := trodAll_cons r2
 obtain ⟨rfl, rfl, rfl⟩ := trodAll_nil r3
 obtain rfl : args = #[v0, v1, v2, v3] := by cases args; simp_all
 obtain ⟨rfl, rfl⟩ := trodVars_none hV
 obtain ⟨a0, len0, cap0, rfl⟩ := okWide_slice Tryz.underlying22 (hval 0 22 v0 rfl rfl)
 have k0 := h0
 have lt0 : ∀ x ∈ p0, x.block < W.heap.size := by obtain ⟨m, hm⟩ := k0; exact DataW.trod_lt m _ _ _ hm
 obtain ⟨z0, b0, e0, l0, c0⟩ : ∃ L, CgW W a0 L ∧ L.length = len0 ∧ len0 ≤ cap0 ∧ cap0 ≤ 9223372036854775807 := by
  obtain ⟨fuel, hf⟩ := h0
  exact chgs_open (by simpa [Value.cells] using hf)
 obtain ⟨a1, len1, cap1, rfl⟩ := okWide_slice Tryz.underlying23 (hval 1 23 v1 rfl rfl)
 have k1 := h1
 have lt1 : ∀ x ∈ p1, x.block < W.heap.size := by obtain ⟨m, hm⟩ := k1; exact DataW.trod_lt m _ _ _ hm
 obtain ⟨z1, b1, t1, l1, c1⟩ : ∃ zs, Byt W a1 len1 cap1 zs ∧ Bt zs ∧ len1 ≤ cap1 ∧ cap1 ≤ 140737488351232 := by
  obtain ⟨fuel, hf⟩ := h1
  rcases open_ints Tryz.underlying23 Tryz.underlying5 (by kernel_rfl) hf with ⟨hcs, _⟩ | ⟨x, l, c, zs, hcs, _, hl, hm, hz, hx, hcell, hwz⟩
  ·simp [Value.cells] at hcs
   obtain ⟨rfl, rfl, rfl⟩ := hcs
   exact ⟨[], Byt.empty W, Bt.nil, Nat.le_refl _, by omega⟩
  ·simp [Value.cells] at hcs
   obtain ⟨rfl, rfl, rfl⟩ := hcs
   have hz' : zs.length = cap1 := by simpa using hz
   obtain ⟨h1, h2, _, _⟩ := byt_of_row (zs := zs) (.inr ⟨_, rfl, hl, hm, hz', hcell, hwz⟩)
   have hs := sized_slice hsz (j := 1) (t := 23) (e := 5) rfl (congrArg (fun y => some (Prod.fst y)) hx) Tryz.underlying23
   rw [bytes_u8] at hs
   simp only [lits, List.length_map, List.length_take, List.length_drop, reachBytes] at hs
   exact ⟨_, h1, h2, hl, by omega⟩
 obtain ⟨a2, len2, cap2, rfl⟩ := okWide_slice Tryz.underlying23 (hval 2 23 v2 rfl rfl)
 have k2 := h2
 have lt2 : ∀ x ∈ p2, x.block < W.heap.size := by obtain ⟨m, hm⟩ := k2; exact DataW.trod_lt m _ _ _ hm
 obtain ⟨z2, b2, t2, l2, c2⟩ : ∃ zs, Byt W a2 len2 cap2 zs ∧ Bt zs ∧ len2 ≤ cap2 ∧ cap2 ≤ 140737488351232 := by
  obtain ⟨fuel, hf⟩ := h2
  rcases open_ints Tryz.underlying23 Tryz.underlying5 (by kernel_rfl) hf with ⟨hcs, _⟩ | ⟨x, l, c, zs, hcs, _, hl, hm, hz, hx, hcell, hwz⟩
  ·simp [Value.cells] at hcs
   obtain ⟨rfl, rfl, rfl⟩ := hcs
   exact ⟨[], Byt.empty W, Bt.nil, Nat.le_refl _, by omega⟩
  ·simp [Value.cells] at hcs
   obtain ⟨rfl, rfl, rfl⟩ := hcs
   have hz' : zs.length = cap2 := by simpa using hz
   obtain ⟨h1, h2, _, _⟩ := byt_of_row (zs := zs) (.inr ⟨_, rfl, hl, hm, hz', hcell, hwz⟩)
   have hs := sized_slice hsz (j := 2) (t := 23) (e := 5) rfl (congrArg (fun y => some (Prod.fst y)) hx) Tryz.underlying23
   rw [bytes_u8] at hs
   simp only [lits, List.length_map, List.length_take, List.length_drop, reachBytes] at hs
   exact ⟨_, h1, h2, hl, by omega⟩
 obtain ⟨a3, len3, cap3, rfl⟩ := okWide_slice Tryz.underlying23 (hval 3 23 v3 rfl rfl)
 have k3 := h3
 have lt3 : ∀ x ∈ p3, x.block < W.heap.size := by obtain ⟨m, hm⟩ := k3; exact DataW.trod_lt m _ _ _ hm
 obtain ⟨z3, b3, t3, l3, c3⟩ : ∃ zs, Byt W a3 len3 cap3 zs ∧ Bt zs ∧ len3 ≤ cap3 ∧ cap3 ≤ 140737488351232 := by
  obtain ⟨fuel, hf⟩ := h3
  rcases open_ints Tryz.underlying23 Tryz.underlying5 (by kernel_rfl) hf with ⟨hcs, _⟩ | ⟨x, l, c, zs, hcs, _, hl, hm, hz, hx, hcell, hwz⟩
  ·simp [Value.cells] at hcs
   obtain ⟨rfl, rfl, rfl⟩ := hcs
   exact ⟨[], Byt.empty W, Bt.nil, Nat.le_refl _, by omega⟩
  ·simp [Value.cells] at hcs
   obtain ⟨rfl, rfl, rfl⟩ := hcs
   have hz' : zs.length = cap3 := by simpa using hz
   obtain ⟨h1, h2, _, _⟩ := byt_of_row (zs := zs) (.inr ⟨_, rfl, hl, hm, hz', hcell, hwz⟩)
   have hs := sized_slice hsz (j := 3) (t := 23) (e := 5) rfl (congrArg (fun y => some (Prod.fst y)) hx) Tryz.underlying23
   rw [bytes_u8] at hs
   simp only [lits, List.length_map, List.length_take, List.length_drop, reachBytes] at hs
   exact ⟨_, h1, h2, hl, by omega⟩
 clear hA0 hval0
 refine (walkBoth_walk a0 len0 cap0 z0 a1 len1 cap1 z1 a2 len2 cap2 z2 a3 len3 cap3 z3 W b0 e0 b1 t1 b2 t2 b3 t3).mono fun e W' ⟨he, hg⟩ => ?_
 subst he
 have bel := below_ofW hg
 exact ⟨_, rfl, _, _, _, [], _, [], hW', trodAll_mk1 (shut_bool Tryz.underlying4 _), (trodAll_cons_mk (Below.trod laidOut (by kernel_rfl) (of_decide_eq_true (by kernel_rfl)) k0 bel lt0) (trodAll_cons_mk (Below.trod laidOut (by kernel_rfl) (of_decide_eq_true (by kernel_rfl)) k1 bel lt1) (trodAll_cons_mk (Below.trod laidOut (by kernel_rfl) (of_decide_eq_true (by kernel_rfl)) k2 bel lt2) (trodAll_cons_mk (Below.trod laidOut (by kernel_rfl) (of_decide_eq_true (by kernel_rfl)) k3 bel lt3) trodAll_mk0)))), rfl, bel.frame _, fun h => by cases h⟩
theorem over : Rows.walkBothRow.holds Tryz.pinned (OpenSpec.ofChange Rows.walkBothSpec) :=
 OpenClaim.holds_of_wide 4 Tryz.f4 rfl rfl rfl rfl rfl rfl rfl ⟨rfl, rfl, rfl, rfl, rfl⟩ rfl rfl rfl rfl rfl (by kernel_rfl) Tryz.func4 (by kernel_rfl)
  (of_decide_eq_true (by kernel_rfl)) (by unfold Func.isWrapper; first | (rw [if_pos (by decide +kernel)]; kernel_rfl) | (rw [if_neg (by decide +kernel)]; exact ⟨rfl, rfl⟩))
  (fun os started H enc _ => lifted os started H enc)
end Go.Proofs.YtndanifjommpdaaGreat.walkBoth
namespace Go.Proofs.YtndanifjommpdaaGreat
theorem walkBoth_holds : Rows.WalkBothSaid := walkBoth.over
#print axioms walkBoth_holds
end Go.Proofs.YtndanifjommpdaaGreat
