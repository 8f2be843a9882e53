import Derived.Test.YtedpeggdbedmiaaGreatDoorQ30
import Derived.Test.YtedpeggdbedmiaaGreatDoorQ27
import Derived.Deep.DeepCutAuto
import Derived.Deep.CutRange
import Derived.Deep.CutBlock
import Derived.Deep.QuietTactic
import Derived.Test.YtedpeggdbedmiaaGreatDoorQ29
import Derived.Test.YtedpeggdbedmiaaGreatDoorQ31
import Derived.LaidMore
import Derived.Stop.Joined
import Derived.SevenTiedAt
import Derived.WalkKit
import Derived.ProofKit
import Derived.OpenShut
import Derived.ShutString
import Derived.ChangeOld
import Derived.Below
import Derived.SizedLaws
import Derived.Deep.Slices
import Derived.Test.YtedpeggdbedmiaaGreatDoorRows
import Derived.Test.YtedpeggdbedmiaaGreatDoorCards
import Derived.Test.YtedpeggdbedmiaaGreatDoorTie
namespace Go.Proofs.YtedpeggdbedmiaaGreatDoor
open Go.RowKit Go.MuLone
set_option maxHeartbeats 16000000 in
set_option maxRecDepth 8000 in
theorem diskOwn_walk (ao : Option Addr) (n cap : Nat) (w : World) (hp : Pus w ao n) (h00 : 0 < w.heap.size) :
  Calls Tryz.prog 3 #[.slice ao n cap] w fun e w' => e = .returned (.bool true) ∧ w.grownBy w' none := by
 go_enter Tryz.func3, Tryz.ntmps3
 go_wp2_with fail
 refine (first12_any w).mono ?_
 rintro e w1 ⟨rfl, hg1⟩
 have K2 := hid_intro (kbx_new w1)
 have G2 := hid_intro (grown_trans hg1 (World.grownBy_alloc w1 (.cells kbookZ 39 (0, 0)) none))
 have hs1 := hg1.size
 clear hg1
 go_upto_block 0 with (refine wpList_build_kbook rfl rfl ?_)
 obtain ⟨w2, hw2⟩ : ∃ w2, w1.alloc (.cells kbookZ 39 (0, 0)) = w2 := ⟨_, rfl⟩
 rw [hw2] at K2 G2 ⊢
 obtain ⟨B, hB⟩ : ∃ B, w1.heap.size = B := ⟨_, rfl⟩
 rw [hB] at K2 hs1 ⊢
 clear hw2 hB
 have H1 : Hid (D1 w w2 B (.slice none 0 0) [] (fun _ _ => False)) := ⟨K2.out, fun i b hb => by simp at hb, (fun i k _ e => e), (fun i j k e => e.elim), (fun i k e => e.elim), ⟨rfl, .inl ⟨rfl, rfl⟩⟩, (fun e => by cases e), G2.out, hs1⟩
 go_cut [5] (fun s5 wx => ∃ bs Fs, bs.length = 8 ∧ D1 w wx B s5 bs Fs)
 case first =>
  rename_i J K' hJ hM
  refine own0 H1.out ?_
  intro _ _ _ _ _ _ _ _ _ _ _ _ _ _ _ wx hrl
  refine hM _ _ ?_
  go_meet
  exact hrl
 case rest =>
  obtain ⟨bs, Fs, hbl, hD1⟩ := hcut
  obtain ⟨gv, cv, ev⟩ : ∃ g c, u5 = .slice (some ⟨g, 0, none⟩) 8 c := by
   rcases hD1.vo.2 with ⟨e, e0⟩ | ⟨g, c, cur, e, _⟩
   ·omega
   ·exact ⟨g, c, by rw [e, hbl]⟩
  subst ev
  have X1 : Hid (Dx w wc B wc.heap.size (.slice (some ⟨gv, 0, none⟩) 8 cv) bs 0 0) := ⟨kcs0, _, _, Fs, _, hD1.dn hbl, Nat.le_refl _, Nat.le_refl _⟩
  obtain ⟨base, hbase⟩ : ∃ base, wc.heap.size = base := ⟨_, rfl⟩
  rw [hbase] at X1
  clear hD1 hbase H1 K2 G2
  go_upto_block 2 with fail
  go_cut [9] (fun _ wx => Dx w wx B base (.slice (some ⟨gv, 0, none⟩) 8 cv) bs 120 6000)
  case first =>
   rename_i J K' hJ hM
   refine own2 hp X1.out ?_
   intro _ _ _ _ _ _ _ _ _ _ _ _ _ _ _ _ _ _ _ _ _ _ _ _ _ _ _ _ _ _ _ _ _ _ _ _ _ _ _ _ _ _ _ _ _ _ _ _ _ _ _ _ _ _ _ _ _ _ _ _ _ _ _ _ _ _ wx hrl
   refine hM _ _ ?_
   go_meet
   exact hrl
  case rest =>
   obtain ⟨cs, L, ys, Fs2, ss, hD, hl0, hl9⟩ := hcut
   have HD := hid_intro hD
   clear hD X1
   go_upto_block 4 with fail
   go_cut [14] (fun s14 wx => ∃ cs' Fs' zs, Dn w wx B base cs' L ys (.slice (some ⟨gv, 0, none⟩) 8 cv) bs Fs' ss 120 ∧ Wa wx base (Fs' 8) s14 zs ∧ zs.length = 8 ∧ ∀ i x, zs[i]? = some x → x.2 = (ss i).L.flatten)
   case first =>
    rename_i J K' hJ hM
    refine own4 HD.out ?_
    intro _ _ _ _ _ _ _ _ _ _ _ _ _ _ _ _ _ wx hrl
    refine hM _ _ ?_
    go_meet
    exact hrl
   case rest =>
    obtain ⟨cs', Fs', zs, hD', hW, hzl, hzs⟩ := hcut
    obtain ⟨gw, cw, ev⟩ : ∃ g c, u14 = .slice (some ⟨g, 0, none⟩) 8 c := by
     rcases hW.ow.2 with ⟨e, e0⟩ | ⟨g, c, cur, e, _⟩
     ·omega
     ·exact ⟨g, c, by rw [e, hzl]⟩
    subst ev
    have D4 := hid_intro hD'
    have W4 := hid_intro hW
    have ZL := hid_intro hzl
    have ZS := hid_intro hzs
    clear hD' hW hzl hzs HD
    go_wp2_with fail
    refine (kst_finish3 D4.out.kst D4.out.em (by omega) D4.out.gr D4.out.b0 h00 D4.out.sg (fun k hx => by obtain ⟨_, i, hi, hx⟩ := hx; exact D4.out.low hi hx)).mono ?_
    rintro e w5 ⟨rfl, hg5, hs5, hst⟩
    have st : ∀ i k, i < 9 → Fs' i k → w5.heap[k]? = wc.heap[k]? := fun i k hi hx => by
     by_cases hc : base ≤ k
     ·exact hst k (.inl ⟨hc, i, hi, hx⟩)
     ·exact hst k (.inr ⟨by omega, (D4.out.fb i k hi hx).2.1⟩)
    have hbl8 := D4.out.bl
    have E5 : Hid (De w w5 (.slice (some ⟨gv, 0, none⟩) 8 cv) bs Fs' ss) := ⟨D4.out.bl, fun i b hb => (D4.out.dz i b hb).same hs5 (fun k hx => st i k (by have := (List.getElem?_eq_some_iff.1 hb).1; omega) hx), D4.out.dj, fun i k hi hx => ⟨(D4.out.fb i k hi hx).1, (D4.out.fb i k hi hx).2.2⟩, owns_same D4.out.vo (fun k e => hst k (.inr (D4.out.vl k e))), fun k hx => Nat.lt_of_lt_of_le (D4.out.xl k hx) hs5, hg5⟩
    have W5 := hid_intro (W4.out.st (fun k hx => st 8 k (by omega) hx))
    clear hg5 hs5 hst st W4 D4
    go_upto_block 6 with fail
    go_cut [18] (fun _ wx => w.grownBy wx none)
    case first =>
     rename_i J K' hJ hM
     refine own6 ZL.out ZS.out E5.out W5.out ?_
     intro _ _ _ _ _ _ _ _ _ _ _ _ _ _ _ _ _ _ _ wx hrl
     refine hM _ _ ?_
     go_meet
     exact hrl
    case rest =>
     have FIN := hid_intro hcut
     clear hcut
     go_wp2
     go_ret
     exact ⟨rfl, FIN.out⟩
end Go.Proofs.YtedpeggdbedmiaaGreatDoor
namespace Go.Proofs.YtedpeggdbedmiaaGreatDoor.diskOwn
open Go.ChangeShapes Go.WideShapes Go.ChangeAt Go.WideMaps Go.WideElems Go.RowKit Go.Deep
open Go.ChangeMaps (open_string shut_string)
theorem own : ownKnob Tryz.prog.godebug = none := by kernel_rfl
theorem laidOut : laidOutB Tryz.prog = true := by kernel_rfl
theorem bytes_u8 : Tryz.prog.bytesOf 5 = 1 := by kernel_rfl
theorem bytes_i64 : Tryz.prog.bytesOf 3 = 8 := by kernel_rfl
set_option linter.unusedVariables false
set_option maxRecDepth 100000 in
theorem lifted (os : Os) (started : os.Started) (H : Type) (enc : TypeId × Value → H) :
  ReturnsInHanded {} Tryz.checked os 3 .any (fun w args => (Rows.diskOwnSpec.pre enc Tryz.prog Tryz.f3 [] false w args ∧ laidMetH Tryz.prog [("math/bits.deBruijn32tab", Rows.laid_math_bits_deBruijn32tab), ("math/bits.deBruijn64tab", Rows.laid_math_bits_deBruijn64tab), ("internal/strconv.uint64pow10", Rows.laid_internal_strconv_uint64pow10)] w) ∧ sizedMet enc Tryz.prog Tryz.f3 (OpenSpec.ofChange Rows.diskOwnSpec) false w args) (Rows.diskOwnSpec.post enc Tryz.prog Tryz.f3 false true false false) := by
 refine returnsInHanded_of_change_and (C := Tryz.checked) (X := fun w _ => laidMetH Tryz.prog [("math/bits.deBruijn32tab", Rows.laid_math_bits_deBruijn32tab), ("math/bits.deBruijn64tab", Rows.laid_math_bits_deBruijn64tab), ("internal/strconv.uint64pow10", Rows.laid_internal_strconv_uint64pow10)] w) (fun _ _ _ hh h => h.of_heap hh) own started (by kernel_rfl) Tryz.func3
  (ChangeSpec.witness_shaped (enc := enc) (C := Tryz.checked) (os := os) (X := fun w _ => laidMetH Tryz.prog [("math/bits.deBruijn32tab", Rows.laid_math_bits_deBruijn32tab), ("math/bits.deBruijn64tab", Rows.laid_math_bits_deBruijn64tab), ("internal/strconv.uint64pow10", Rows.laid_internal_strconv_uint64pow10)] w) false (World.doorLaid Tryz.prog 400 os) #[.slice none 0 0] 8 rfl (World.shaped_of_RefB (by kernel_rfl) (by kernel_rfl)) (by kernel_rfl) (by kernel_rfl) (by kernel_rfl) (door_met os _)) ?_
 intro W base args ds gs before hval0 hW _ _ hL _
 have hval : ∀ (j : Nat) t v, Tryz.f3.params[j]? = some t → args[j]? = some v → Value.okWide Tryz.prog W .any base t v := hval0
 have hW' := hW
 obtain ⟨p, q, hA0, hV, rfl, hfz, hnd⟩ := hW
 have hA : DataW.TrodAll enc Tryz.prog W 0 (fun _ => true) true Tryz.f3.params.toList args.toList ds p := hA0
 rw [Tryz.params3] at hA hval
 obtain ⟨v0, vs0, d0, ds0, p0, q0, hargs, rfl, rfl, h0, r0⟩ := trodAll_cons hA
 obtain ⟨rfl, rfl, rfl⟩ := trodAll_nil r0
 obtain rfl : args = #[v0] := by cases args; simp_all
 obtain ⟨rfl, rfl⟩ := trodVars_none hV
 obtain ⟨a0, len0, cap0, rfl⟩ := okWide_slice Tryz.underlying22 (hval 0 22 v0 rfl rfl)
 have k0 := h0
 have lt0 : ∀ x ∈ p0, x.block < W.heap.size := by obtain ⟨m, hm⟩ := k0; exact DataW.trod_lt m _ _ _ hm
 obtain ⟨b0, l0, c0⟩ : Pus W a0 len0 ∧ len0 ≤ cap0 ∧ cap0 ≤ 9223372036854775807 := by
  obtain ⟨fuel, hf⟩ := h0
  exact puts_open (by simpa [Value.cells] using hf)
 clear hA0 hval0
 refine (diskOwn_walk a0 len0 cap0 W b0 (of_laid12 hL)).mono fun e W' ⟨he, hg⟩ => ?_
 subst he
 have bel := below_of hg
 exact ⟨_, rfl, _, _, _, [], _, [], hW', trodAll_mk1 (shut_bool Tryz.underlying4 _), (trodAll_cons_mk (Below.trod laidOut (by kernel_rfl) (of_decide_eq_true (by kernel_rfl)) k0 bel lt0) trodAll_mk0), rfl, bel.frame _, fun h => by cases h⟩
theorem over : Rows.diskOwnRow.holds Tryz.pinned (OpenSpec.ofChange Rows.diskOwnSpec) :=
 OpenClaim.holds_of_wide 3 Tryz.f3 rfl rfl rfl rfl rfl rfl rfl ⟨rfl, rfl, rfl, rfl, rfl⟩ rfl rfl rfl rfl rfl (by kernel_rfl) Tryz.func3 (by kernel_rfl)
  (of_decide_eq_true (by kernel_rfl)) (by unfold Func.isWrapper; first | (rw [if_pos (by decide +kernel)]; kernel_rfl) | (rw [if_neg (by decide +kernel)]; exact ⟨rfl, rfl⟩))
  (fun os started H enc _ => lifted os started H enc)
end Go.Proofs.YtedpeggdbedmiaaGreatDoor.diskOwn
namespace Go.Proofs.YtedpeggdbedmiaaGreatDoor
open Go
theorem diskOwn_card : Rows.DiskOwnCardSaid :=
 Claim7.holds_tied_plain_at .later [] [.data, .data, .data] true (true, "5ed5200693a73c467c8f341fa05be66c093115aab2f58aa18a5424293fe3bc30") false
  diskOwn.over (fun _ h => by cases h) (by kernel_rfl) (fun _ h => by cases h) diskOwn_row_tie rfl ⟨rfl, rfl⟩ (by kernel_rfl) rfl
  (fun f fn hf hfn => by
   obtain rfl : f = 3 := Option.some.inj ((show Tryz.prog.funcNamed "coppice/coppicelaw12.DiskOwn" = some 3 by kernel_rfl).symm.trans hf) |>.symm
   obtain rfl : fn = Tryz.f3 := (Option.some.inj (Tryz.func3.symm.trans hfn)).symm
   exact ⟨by kernel_rfl, fun j t ht => by
    rw [Tryz.params3] at ht
    have hm : t ∈ [22] := by simpa using Array.mem_of_getElem? ht
    have hall : ([22].all fun u => !Tryz.prog.wantsStandIn u) = true := by kernel_rfl
    exact (show Tryz.prog.wantsStandIn t = false by simpa using List.all_eq_true.1 hall t hm)⟩)
  (by kernel_rfl)
#print axioms diskOwn_card
end Go.Proofs.YtedpeggdbedmiaaGreatDoor
