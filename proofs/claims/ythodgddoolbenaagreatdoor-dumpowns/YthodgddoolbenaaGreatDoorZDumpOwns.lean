import Derived.Test.YthodgddoolbenaaGreatDoorQ35
import Derived.Deep.CutBlock
import Derived.Test.YthodgddoolbenaaGreatDoorQ36
import Derived.Test.YthodgddoolbenaaGreatDoorQ37
import Derived.LaidMore
import Derived.Stop.Joined
import Derived.SevenTiedAt
import Derived.WalkKit
import Derived.ProofKit
import Derived.OpenShut
import Derived.ShutString
import Derived.ChangeOld
import Derived.Below
import Derived.SizedLaws
import Derived.Deep.Slices
import Derived.Test.YthodgddoolbenaaGreatDoorRows
import Derived.Test.YthodgddoolbenaaGreatDoorCards
import Derived.Test.YthodgddoolbenaaGreatDoorTie
namespace Go.Proofs.YthodgddoolbenaaGreatDoor
open Go.RowKit
set_option maxHeartbeats 16000000 in
set_option maxRecDepth 100000 in
theorem dumpOwns_walk (a : Option Addr) (n c : Nat) (l : List Pq) (w : World) (hl : Pm w a l) (hn : l.length = n) (ht : Tzd w) :
  Calls Tryz.prog 3 #[.slice a n c] w fun en w' => en = .returned (.bool true) ∧ w.grownBy w' none := by
 have HF := hid_intro (first20 w ht)
 have HL := hid_intro hl
 have HN := hid_intro hn
 have HBL := hid_intro hl.bt
 have HTZ : Hid (Tz w) := ht
 clear hl hn ht
 go_enter Tryz.func3, Tryz.ntmps3
 go_wp2_with fail
 refine HF.out.mono ?_
 rintro en w1 ⟨rfl, hg1⟩
 have G1 := hid_intro hg1
 clear hg1 HF
 by_cases h60 : n ≤ 60
 ·have z1 : ¬ ((n : Int) > 60) := by omega
  go_wp2_with fail
  refine (few20 a n c l w1 (HL.out.keptN G1.out) HN.out).mono ?_
  rintro en w2 ⟨f1, rfl, hq2, _⟩
  have G2 := hid_intro (grown_trans G1.out (hq2.grown none))
  clear hq2 G1
  cases f1 with
  | false =>
   go_wp2
   go_ret
   exact ⟨rfl, G2.out⟩
  | true =>
   go_wp2_with fail
   refine (refText_any a n c l w2 (HL.out.keptN G2.out) HN.out (by omega)).mono ?_
   rintro en w3 ⟨rfl, hg3⟩
   have G3 := hid_intro (grown_trans G2.out hg3)
   clear hg3 G2
   by_cases hj : jdg [] l = 0
   ·have HPR := hid_intro (prs_tx hj HBL.out (by have := HN.out; omega))
    have HPW := hid_intro (fun W => parse_own (tx l) W (tx_len20 (by have := HN.out; omega) hj))
    have HKY := hid_intro (jdg_keys hj)
    rw [txt_ok hj, hj]
    have K4 := hid_intro (kbx_new w3)
    have ga := World.grownBy_alloc w3 (.cells kbookZ 42 (0, 0)) none
    have HD4 : Hid (Dz w w3.heap.size (w3.alloc (.cells kbookZ 42 (0, 0))).heap.size (w3.alloc (.cells kbookZ 42 (0, 0))) 0 0) :=
     ⟨⟨_, _, _, kst_new kds_ok K4.out (by simp) (Nat.le_refl _), fun _ _ _ => rfl, Nat.le_refl _, Nat.le_refl _⟩, grown_trans G3.out ga, G3.out.size, by have := G3.out.size; simp; omega⟩
    clear K4 ga G3 hj
    generalize tstr (tx l) = T at *
    go_upto_block 0 with (refine wpList_build_kbook rfl rfl ?_)
    obtain ⟨w4, hw4⟩ : ∃ w4, w3.alloc (.cells kbookZ 42 (0, 0)) = w4 := ⟨_, rfl⟩
    rw [hw4] at HD4 ⊢
    obtain ⟨B, hB⟩ : ∃ B, w3.heap.size = B := ⟨_, rfl⟩
    rw [hB] at HD4 ⊢
    obtain ⟨base, hbase⟩ : ∃ base, w4.heap.size = base := ⟨_, rfl⟩
    rw [hbase] at HD4
    clear hw4 hB hbase
    go_wp2_with fail
    go_loopw [7, 8, 9, 10, 11, 12, 13, 14] (fun s7 _ _ _ _ _ _ _ wr => ∃ i : Nat, i ≤ 2 ∧ s7 = .int .i64 (i : Nat) ∧ Dz w B base wr (i * 200) i) (fun s7 _ _ _ _ _ _ _ _ => 2 - (intOf s7).toNat)
    case atStart => exact ⟨0, by omega, rfl, HD4.out⟩
    case round =>
     obtain ⟨i, hi, rfl, hd⟩ := hrel
     have HD := hid_intro hd
     clear hd HD4
     by_cases hlt : i < 2
     ·have i1 : (i : Int) < 2 := by omega
      go_wp2_with fail
      refine (HPW.out wr).mono ?_
      rintro en w5 ⟨hg5, ⟨k, e, he, _⟩ | ⟨m, ma, mc, xs, he, rfl, ho5, hw5, hr5, hb5⟩⟩
      ·exfalso
       rw [HPR.out] at he
       cases he
      ·have hml : m = l := by rw [HPR.out] at he; cases he; rfl
       subst hml
       have hnl := HN.out
       rw [hnl] at ho5 ⊢
       have J5 := hid_intro hg5
       have PM := hid_intro (hw5.pm ho5).1
       have G5 := hid_intro (grown_trans HD.out.g hg5)
       have SP := hid_intro (samePairs20 ma a n n mc c m m w5 PM.out (HL.out.keptN G5.out) hnl hnl (by omega) (by omega))
       rw [decide_eq_true (rfl : m = m)] at SP
       have KP := hid_intro (fun (W : World) (hW : w5.grownBy W none) => keep_p20 HD.out (grown_trans J5.out hW) (own_keptD ho5 hW) (hw5.keptN hW) hnl hr5 (hb5.up hW.size) h60 HKY.out (by omega) (by omega))
       clear he hg5 ho5 hw5 hr5 hb5 hnl
       go_wp2_with fail
       refine SP.out.mono ?_
       rintro en w6 ⟨rfl, hg6⟩
       have J6 := hid_intro hg6
       clear hg6 SP
       go_wp2_with fail
       refine (num20 0 w6).mono ?_
       rintro en w7 ⟨rfl, hw⟩
       rw [hw]
       clear hw
       go_wp2_with fail
       refine (KP.out w6 J6.out).mono ?_
       rintro en w8 ⟨rfl, hd8⟩
       have D8 := hid_intro hd8
       clear hd8 KP
       go_wp2_with fail
       go_loopw [12, 13, 14] (fun s12 _ _ wr => ∃ j : Nat, j ≤ n ∧ s12 = .int .i64 (j : Nat) ∧ Dz w B base wr (i * 200 + 2 * n + j) (i + 1)) (fun s12 _ _ _ => n - (intOf s12).toNat)
       case atStart => exact ⟨0, Nat.zero_le _, rfl, D8.out⟩
       case round =>
        obtain ⟨j, hj', rfl, hd⟩ := hrel
        have HE := hid_intro hd
        clear hd D8
        by_cases hlj : j < n
        ·obtain ⟨p, hp⟩ : ∃ p, m[j]? = some p := ⟨_, List.getElem?_eq_getElem (by have := HN.out; omega)⟩
         obtain ⟨b, off, ao, c1, bo, d1, rfl, q1, q2, q3, q4, q5, q6⟩ := HL.out.el j p hp
         have hpk := HKY.out p (List.mem_of_getElem? hp)
         have x2 := HE.out.g.cell q2 (by simp)
         have RH := hid_intro (refHex_any bo p.2.length d1 p.2 wr (q5.keptN HE.out.g) q6 (by omega))
         have UH := hid_intro (uh_hx q6)
         have i2 : (j : Int) < (n : Int) := by omega
         have i3 : (0 : Int) ≤ (j : Int) := by omega
         obtain ⟨z, hz⟩ : ∃ z, p.2 = z := ⟨_, rfl⟩
         rw [hz] at x2 RH UH hpk
         clear q1 q2 q3 q4 q5 q6 hp hz
         obtain ⟨zn, hzn⟩ : ∃ zn, z.length = zn := ⟨_, rfl⟩
         have HZN := hid_intro hzn
         rw [hzn] at x2 RH hpk
         have hsz : (tstr (hx z)).size ≤ 2000000000 := by
          have := hx_len z
          have e : (tstr (hx z)).size = (hx z).length := rfl
          omega
         have UC := hid_intro (fun W => unhex_any (tstr (hx z)) W hsz)
         have UE : Hid ((tstr (hx z)).data.toList = hx z) := rfl
         rw [UE.out] at UC
         clear hzn hsz
         generalize tstr (hx z) = SS at *
         go_wp2_with fail
         refine RH.out.mono ?_
         rintro en w9 ⟨rfl, hg9⟩
         have J9 := hid_intro hg9
         clear hg9 RH
         go_wp2_with fail
         refine (UC.out w9).mono ?_
         rintro en w10 ⟨hg10, ⟨e, _⟩ | ⟨bz, bo2, bc, e, rfl, ho10⟩⟩
         ·exfalso
          rw [UH.out] at e
          cases e
         ·have hbz : bz = z := by rw [UH.out] at e; cases e; rfl
          subst hbz
          rw [HZN.out] at ho10 ⊢
          have D9 := hid_intro (HE.out.keptN J9.out)
          have KB := hid_intro (keep_b20 D9.out hg10 ho10 (by omega) (by omega))
          clear e hg10 ho10 UC D9
          go_wp2_with fail
          refine KB.out.mono ?_
          rintro en w11 ⟨rfl, hd11⟩
          have D11 := hid_intro hd11
          clear hd11 KB
          go_wp2
          go_roundw
          case rel => exact ⟨j + 1, by omega, by go_num, by rw [← Nat.add_assoc]; exact D11.out⟩
          case measure => simp [intOf]; omega
        ·obtain rfl : j = n := by omega
         have hle := HE.out
         have HE2 : Hid (Dz w B base wr ((i + 1) * 200) (i + 1)) := by
          obtain ⟨⟨cs, L, ys, k1, k2, k3, k4⟩, k5, k6⟩ := hle
          exact ⟨⟨cs, L, ys, k1, k2, by omega, k4⟩, k5, k6⟩
         clear hle HE
         go_wp2
         go_roundw
         case rel => exact ⟨i + 1, by omega, by go_num, HE2.out⟩
         case measure => simp [intOf]; omega
     ·obtain rfl : i = 2 := by omega
      have FN := hid_intro (finish20 HD.out HTZ.out (by omega) (by omega))
      go_wp2_with fail
      refine FN.out.mono ?_
      rintro en w12 ⟨rfl, hg12⟩
      have G12 := hid_intro hg12
      clear hg12 FN
      go_wp2
      go_ret
      exact ⟨rfl, G12.out⟩
   ·have hjb : (jdg [] l != 0) = true := by simp [hj]
    have hjc : ¬ jdg [] l = 0 := hj
    obtain ⟨J, hJ⟩ : ∃ J, jdg [] l = J := ⟨_, rfl⟩
    rw [hJ] at hjb hjc ⊢
    clear hJ hj
    go_wp2
    go_ret
    exact ⟨rfl, G3.out⟩
 ·have z1 : (n : Int) > 60 := by omega
  clear h60
  go_wp2
  go_ret
  exact ⟨rfl, G1.out⟩
end Go.Proofs.YthodgddoolbenaaGreatDoor
namespace Go.Proofs.YthodgddoolbenaaGreatDoor.dumpOwns
open Go.ChangeShapes Go.WideShapes Go.ChangeAt Go.WideMaps Go.WideElems Go.RowKit Go.Deep
open Go.ChangeMaps (open_string shut_string)
theorem own : ownKnob Tryz.prog.godebug = none := by kernel_rfl
theorem laidOut : laidOutB Tryz.prog = true := by kernel_rfl
theorem bytes_u8 : Tryz.prog.bytesOf 5 = 1 := by kernel_rfl
theorem bytes_i64 : Tryz.prog.bytesOf 3 = 8 := by kernel_rfl
set_option linter.unusedVariables false
set_option maxRecDepth 100000 in
theorem lifted (os : Os) (started : os.Started) (H : Type) (enc : TypeId × Value → H) :
  ReturnsInHanded {} Tryz.checked os 3 .any (fun w args => (Rows.dumpOwnsSpec.pre enc Tryz.prog Tryz.f3 [] false w args ∧ laidMetH Tryz.prog [("math/bits.deBruijn32tab", Rows.laid_math_bits_deBruijn32tab), ("math/bits.deBruijn64tab", Rows.laid_math_bits_deBruijn64tab), ("internal/strconv.uint64pow10", Rows.laid_internal_strconv_uint64pow10)] w) ∧ sizedMet enc Tryz.prog Tryz.f3 (OpenSpec.ofChange Rows.dumpOwnsSpec) false w args) (Rows.dumpOwnsSpec.post enc Tryz.prog Tryz.f3 false true false false) := by
 refine returnsInHanded_of_change_and (C := Tryz.checked) (X := fun w _ => laidMetH Tryz.prog [("math/bits.deBruijn32tab", Rows.laid_math_bits_deBruijn32tab), ("math/bits.deBruijn64tab", Rows.laid_math_bits_deBruijn64tab), ("internal/strconv.uint64pow10", Rows.laid_internal_strconv_uint64pow10)] w) (fun _ _ _ hh h => h.of_heap hh) own started (by kernel_rfl) Tryz.func3
  (ChangeSpec.witness_shaped (enc := enc) (C := Tryz.checked) (os := os) (X := fun w _ => laidMetH Tryz.prog [("math/bits.deBruijn32tab", Rows.laid_math_bits_deBruijn32tab), ("math/bits.deBruijn64tab", Rows.laid_math_bits_deBruijn64tab), ("internal/strconv.uint64pow10", Rows.laid_internal_strconv_uint64pow10)] w) false (World.doorLaid Tryz.prog 400 os) #[.slice none 0 0] 8 rfl (World.shaped_of_RefB (by kernel_rfl) (by kernel_rfl)) (by kernel_rfl) (by kernel_rfl) (by kernel_rfl) (door_met os _)) ?_
 intro W base args ds gs before hval0 hW _ _ hL _
 have hval : ∀ (j : Nat) t v, Tryz.f3.params[j]? = some t → args[j]? = some v → Value.okWide Tryz.prog W .any base t v := hval0
 have hW' := hW
 obtain ⟨p, q, hA0, hV, rfl, hfz, hnd⟩ := hW
 have hA : DataW.TrodAll enc Tryz.prog W 0 (fun _ => true) true Tryz.f3.params.toList args.toList ds p := hA0
 rw [Tryz.params3] at hA hval
 obtain ⟨v0, vs0, d0, ds0, p0, q0, hargs, rfl, rfl, h0, r0⟩ := trodAll_cons hA
 obtain ⟨rfl, rfl, rfl⟩ := trodAll_nil r0
 obtain rfl : args = #[v0] := by cases args; simp_all
 obtain ⟨rfl, rfl⟩ := trodVars_none hV
 obtain ⟨a0, len0, cap0, rfl⟩ := okWide_slice Tryz.underlying22 (hval 0 22 v0 rfl rfl)
 have k0 := h0
 have lt0 : ∀ x ∈ p0, x.block < W.heap.size := by obtain ⟨m, hm⟩ := k0; exact DataW.trod_lt m _ _ _ hm
 obtain ⟨z0, b0, e0, l0, c0⟩ : ∃ l, Pm W a0 l ∧ l.length = len0 ∧ len0 ≤ cap0 ∧ cap0 ≤ 9223372036854775807 := by
  obtain ⟨fuel, hf⟩ := h0
  exact pairs_openD (by simpa [Value.cells] using hf)
 clear hA0 hval0
 refine (dumpOwns_walk a0 len0 cap0 z0 W b0 e0 (of_laidD hL)).mono fun e W' ⟨he, hg⟩ => ?_
 subst he
 have bel := below_ofD hg
 exact ⟨_, rfl, _, _, _, [], _, [], hW', trodAll_mk1 (shut_bool Tryz.underlying4 _), (trodAll_cons_mk (Below.trod laidOut (by kernel_rfl) (of_decide_eq_true (by kernel_rfl)) k0 bel lt0) trodAll_mk0), rfl, bel.frame _, fun h => by cases h⟩
theorem over : Rows.dumpOwnsRow.holds Tryz.pinned (OpenSpec.ofChange Rows.dumpOwnsSpec) :=
 OpenClaim.holds_of_wide 3 Tryz.f3 rfl rfl rfl rfl rfl rfl rfl ⟨rfl, rfl, rfl, rfl, rfl⟩ rfl rfl rfl rfl rfl (by kernel_rfl) Tryz.func3 (by kernel_rfl)
  (of_decide_eq_true (by kernel_rfl)) (by unfold Func.isWrapper; first | (rw [if_pos (by decide +kernel)]; kernel_rfl) | (rw [if_neg (by decide +kernel)]; exact ⟨rfl, rfl⟩))
  (fun os started H enc _ => lifted os started H enc)
end Go.Proofs.YthodgddoolbenaaGreatDoor.dumpOwns
namespace Go.Proofs.YthodgddoolbenaaGreatDoor
open Go
theorem dumpOwns_card : Rows.DumpOwnsCardSaid :=
 Claim7.holds_tied_plain_at .later [] [.data, .data, .data] true (true, "53034cc172d87ed49c2bce0c6f78c792807c90e4adff89fddfe64e32837e3cba") false
  dumpOwns.over (fun _ h => by cases h) (by kernel_rfl) (fun _ h => by cases h) dumpOwns_row_tie rfl ⟨rfl, rfl⟩ (by kernel_rfl) rfl
  (fun f fn hf hfn => by
   obtain rfl : f = 3 := Option.some.inj ((show Tryz.prog.funcNamed "coppice/coppicelaw20.DumpOwns" = some 3 by kernel_rfl).symm.trans hf) |>.symm
   obtain rfl : fn = Tryz.f3 := (Option.some.inj (Tryz.func3.symm.trans hfn)).symm
   exact ⟨by kernel_rfl, fun j t ht => by
    rw [Tryz.params3] at ht
    have hm : t ∈ [22] := by simpa using Array.mem_of_getElem? ht
    have hall : ([22].all fun u => !Tryz.prog.wantsStandIn u) = true := by kernel_rfl
    exact (show Tryz.prog.wantsStandIn t = false by simpa using List.all_eq_true.1 hall t hm)⟩)
  (by kernel_rfl)
#print axioms dumpOwns_card
end Go.Proofs.YthodgddoolbenaaGreatDoor
