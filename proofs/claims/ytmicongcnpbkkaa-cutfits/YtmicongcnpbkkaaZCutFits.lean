import Derived.Test.YtmicongcnpbkkaaQ18
import Derived.Test.YtmicongcnpbkkaaQ21
import Derived.Test.YtmicongcnpbkkaaQ22
import Derived.WalkKit
import Derived.ProofKit
import Derived.OpenShut
import Derived.ShutString
import Derived.ChangeOld
import Derived.Below
import Derived.SizedLaws
import Derived.Deep.Slices
import Derived.Test.YtmicongcnpbkkaaRows
namespace Go.Proofs.Ytmicongcnpbkkaa
open Go.RowKit
set_option maxHeartbeats 1000000 in
set_option maxRecDepth 100000 in
theorem cutFits_walk (s : Int) (w : World) : Calls Try.prog 3 #[.int .i64 s] w fun en w' => en = .returned (.bool true) ∧ w.grownBy w' none := by
 go_enter Try.func3, Try.ntmps3
 go_wp2_with fail
 refine (first9_any _).mono ?_
 rintro en w1 ⟨rfl, hg⟩
 have HG := hid_intro hg
 clear hg
 obtain ⟨x, hx⟩ : ∃ x, (decide (0 ≤ s) && decide (s ≤ 4092)) = x := ⟨_, rfl⟩
 go_wp2_with fail
 refine (cfits_int s _).mono ?_
 rintro en w2 ⟨rfl, rfl⟩
 rw [hx]
 go_wp2_with fail
 refine (refFits_any s _).mono ?_
 rintro en w3 ⟨rfl, rfl⟩
 rw [hx]
 clear hx
 go_wp2
 go_ret
 exact ⟨by simp, HG.out⟩
end Go.Proofs.Ytmicongcnpbkkaa
namespace Go.Proofs.Ytmicongcnpbkkaa.cutFits
open Go.ChangeShapes Go.WideShapes Go.ChangeAt Go.WideMaps Go.WideElems Go.RowKit Go.Deep
open Go.ChangeMaps (open_string shut_string)
theorem own : ownKnob Try.prog.godebug = none := by kernel_rfl
theorem laidOut : laidOutB Try.prog = true := by kernel_rfl
theorem bytes_u8 : Try.prog.bytesOf 5 = 1 := by kernel_rfl
set_option linter.unusedVariables false
set_option maxRecDepth 100000 in
theorem lifted (os : Os) (started : os.Started) (H : Type) (enc : TypeId × Value → H) :
  ReturnsInHanded {} Try.checked os 3 .any (Rows.cutFitsSpec.pre6 enc Try.prog Try.f3 Rows.cutFitsRow.domain false) (Rows.cutFitsSpec.post enc Try.prog Try.f3 false true false false) := by
 refine returnsInHanded_of_change_sized (C := Try.checked) own started (by kernel_rfl) Try.func3
  (ChangeSpec.witness6 (enc := enc) (C := Try.checked) false ⟨#[], #[.int .i64 0], []⟩ 8 (by kernel_rfl) (by kernel_rfl) (by kernel_rfl) (by kernel_rfl)) ?_
 intro W base args ds gs before hval0 hW hcnd hsz0 _
 have hval : ∀ (j : Nat) t v, Try.f3.params[j]? = some t → args[j]? = some v → Value.okWide Try.prog W .any base t v := hval0
 have hsz : (DataW.weightsEach Try.prog (Try.f3.params.toList ++ Rows.cutFitsSpec.plain.varTypes Try.prog) (ds ++ gs)).all (· ≤ reachBytes) = true := hsz0
 clear hsz0
 have hW' := hW
 obtain ⟨p, q, hA0, hV, rfl, hfz, hnd⟩ := hW
 have hA : DataW.TrodAll enc Try.prog W 0 (fun _ => true) true Try.f3.params.toList args.toList ds p := hA0
 rw [Try.params3] at hA hval hsz
 obtain ⟨v0, vs0, d0, ds0, p0, q0, hargs, rfl, rfl, h0, r0⟩ := trodAll_cons hA
 obtain ⟨rfl, rfl, rfl⟩ := trodAll_nil r0
 obtain rfl : args = #[v0] := by cases args; simp_all
 obtain ⟨rfl, rfl⟩ := trodVars_none hV
 obtain ⟨a0, rfl, rfl, rfl, w0⟩ := open_int Try.underlying3 (hval 0 3 v0 rfl rfl) h0
 clear hA0 hval0
 refine (cutFits_walk a0 W).mono fun e W' ⟨he, hg⟩ => ?_
 subst he
 have bel := below_of hg
 exact ⟨_, rfl, _, _, _, [], _, [], hW', trodAll_mk1 (shut_bool Try.underlying4 _), (trodAll_cons_mk (shut_int Try.underlying3 w0) trodAll_mk0), rfl, bel.frame _, fun h => by cases h⟩
theorem over : Rows.cutFitsRow.holds Try.pinned (OpenSpec.ofChange Rows.cutFitsSpec) :=
 OpenClaim.holds_of_wide 3 Try.f3 rfl rfl rfl rfl rfl rfl rfl ⟨rfl, rfl, rfl, rfl, rfl⟩ rfl rfl rfl rfl rfl (by kernel_rfl) Try.func3 (by kernel_rfl)
  (of_decide_eq_true (by kernel_rfl)) (by unfold Func.isWrapper; first | (rw [if_pos (by decide +kernel)]; kernel_rfl) | (rw [if_neg (by decide +kernel)]; exact ⟨rfl, rfl⟩))
  (fun os started H enc _ => lifted os started H enc)
end Go.Proofs.Ytmicongcnpbkkaa.cutFits
namespace Go.Proofs.Ytmicongcnpbkkaa
theorem cutFits_holds : Rows.CutFitsSaid := cutFits.over
#print axioms cutFits_holds
end Go.Proofs.Ytmicongcnpbkkaa
