import Derived.Test.YtmicongcnpbkkaaQ18
import Derived.Test.YtmicongcnpbkkaaQ23
import Derived.Test.YtmicongcnpbkkaaQ21
import Derived.Test.YtmicongcnpbkkaaQ22
import Derived.WalkKit
import Derived.ProofKit
import Derived.OpenShut
import Derived.ShutString
import Derived.ChangeOld
import Derived.Below
import Derived.SizedLaws
import Derived.Deep.Slices
import Derived.Test.YtmicongcnpbkkaaRows
namespace Go.Proofs.Ytmicongcnpbkkaa
open Go.RowKit
set_option maxHeartbeats 1000000 in
set_option maxRecDepth 100000 in
theorem cutLeaves_walk (a : Option Addr) (n cap : Nat) (L : List It) (w : World) (hl : Il w a L) (_hb : Ib L) (hn : L.length = n) (hnc : n ≤ cap) (hcm : cap ≤ 9223372036854775807) (hs : ∀ x ∈ L, x.key.length ≤ 140737488351232 ∧ x.val.length ≤ 140737488351232) :
  Calls Try.prog 4 #[.slice a n cap] w fun en w' => en = .returned (.bool true) ∧ w.grownBy w' none := by
 have HL := hid_intro hl
 have HS := hid_intro hs
 have HK : Hid (∀ x ∈ L, x.key.length ≤ 140737488351232) := fun x hx => (hs x hx).1
 clear hl hs
 go_enter Try.func4, Try.ntmps4
 go_wp2_with fail
 refine (first9_any _).mono ?_
 rintro en w1 ⟨rfl, hg⟩
 have HG := hid_intro hg
 clear hg
 by_cases hm : 400 < n
 ·go_wp2
  go_ret
  exact ⟨rfl, HG.out⟩
 ·go_wp2_with fail
  refine (refItems_big a n cap L _ (HL.out.keptN HG.out) hn (by omega) HS.out).mono ?_
  rintro en w2 ⟨A, c, gk, gv, xs, rfl, hq, h1, h2, hg2⟩
  have HQ := hid_intro hq.il
  have HG2 := hid_intro (grown_trans HG.out hg2)
  clear hq hg2 HG HS
  go_wp2_with fail
  refine (cutLeaf_any (some ⟨A, 0, none⟩) n c L _ HQ.out hn (by omega) h1 h2 HK.out).mono ?_
  rintro en w3 ⟨⟨r, rfl, hb3⟩, hg3⟩
  have HB := hid_intro hb3
  have HG3 := hid_intro (grown_trans HG2.out hg3)
  clear hb3 hg3 HG2 HQ
  go_wp2_with fail
  refine (refLeaf9_any a n cap L _ (HL.out.keptN HG3.out) hn (by omega) hnc hcm HK.out).mono ?_
  rintro en w4 ⟨⟨r2, rfl, hb4⟩, hg4⟩
  have e := Best.uniq hb4 HB.out
  subst e
  have HG4 := hid_intro (grown_trans HG3.out hg4)
  clear hb4 hg4 HG3 HB
  go_wp2
  go_ret
  exact ⟨by simp, HG4.out⟩
end Go.Proofs.Ytmicongcnpbkkaa
namespace Go.Proofs.Ytmicongcnpbkkaa.cutLeaves
open Go.ChangeShapes Go.WideShapes Go.ChangeAt Go.WideMaps Go.WideElems Go.RowKit Go.Deep
open Go.ChangeMaps (open_string shut_string)
theorem own : ownKnob Try.prog.godebug = none := by kernel_rfl
theorem laidOut : laidOutB Try.prog = true := by kernel_rfl
theorem bytes_u8 : Try.prog.bytesOf 5 = 1 := by kernel_rfl
set_option linter.unusedVariables false
set_option maxRecDepth 100000 in
theorem lifted (os : Os) (started : os.Started) (H : Type) (enc : TypeId × Value → H) :
  ReturnsInHanded {} Try.checked os 4 .any (Rows.cutLeavesSpec.pre6 enc Try.prog Try.f4 Rows.cutLeavesRow.domain false) (Rows.cutLeavesSpec.post enc Try.prog Try.f4 false true false false) := by
 refine returnsInHanded_of_change_sized (C := Try.checked) own started (by kernel_rfl) Try.func4
  (ChangeSpec.witness6 (enc := enc) (C := Try.checked) false ⟨#[], #[.slice none 0 0], []⟩ 8 (by kernel_rfl) (by kernel_rfl) (by kernel_rfl) (by kernel_rfl)) ?_
 intro W base args ds gs before hval0 hW hcnd hsz0 _
 have hval : ∀ (j : Nat) t v, Try.f4.params[j]? = some t → args[j]? = some v → Value.okWide Try.prog W .any base t v := hval0
 have hsz : (DataW.weightsEach Try.prog (Try.f4.params.toList ++ Rows.cutLeavesSpec.plain.varTypes Try.prog) (ds ++ gs)).all (· ≤ reachBytes) = true := hsz0
 clear hsz0
 have hW' := hW
 obtain ⟨p, q, hA0, hV, rfl, hfz, hnd⟩ := hW
 have hA : DataW.TrodAll enc Try.prog W 0 (fun _ => true) true Try.f4.params.toList args.toList ds p := hA0
 rw [Try.params4] at hA hval hsz
 obtain ⟨v0, vs0, d0, ds0, p0, q0, hargs, rfl, rfl, h0, r0⟩ := trodAll_cons hA
 obtain ⟨rfl, rfl, rfl⟩ := trodAll_nil r0
 obtain rfl : args = #[v0] := by cases args; simp_all
 obtain ⟨rfl, rfl⟩ := trodVars_none hV
 obtain ⟨a0, len0, cap0, rfl⟩ := okWide_slice Try.underlying24 (hval 0 24 v0 rfl rfl)
 have k0 := h0
 have lt0 : ∀ x ∈ p0, x.block < W.heap.size := by obtain ⟨m, hm⟩ := k0; exact DataW.trod_lt m _ _ _ hm
 obtain ⟨z0, b0, t0, e0, l0, c0, n0, s0⟩ : ∃ L, Il W a0 L ∧ Ib L ∧ L.length = len0 ∧ len0 ≤ cap0 ∧ cap0 ≤ 9223372036854775807 ∧ (a0 = none → cap0 = 0) ∧ (∀ x ∈ L, x.key.length ≤ 140737488351232 ∧ x.val.length ≤ 140737488351232) := by
  obtain ⟨fuel, hf⟩ := h0
  exact items_open9 (by simpa [Value.cells] using hf) (Wt9.of hsz (j := 0) rfl rfl)
 clear hA0 hval0
 refine (cutLeaves_walk a0 len0 cap0 z0 W b0 t0 e0 l0 c0 s0).mono fun e W' ⟨he, hg⟩ => ?_
 subst he
 have bel := below_of hg
 exact ⟨_, rfl, _, _, _, [], _, [], hW', trodAll_mk1 (shut_bool Try.underlying4 _), (trodAll_cons_mk (Below.trod laidOut (by kernel_rfl) (of_decide_eq_true (by kernel_rfl)) k0 bel lt0) trodAll_mk0), rfl, bel.frame _, fun h => by cases h⟩
theorem over : Rows.cutLeavesRow.holds Try.pinned (OpenSpec.ofChange Rows.cutLeavesSpec) :=
 OpenClaim.holds_of_wide 4 Try.f4 rfl rfl rfl rfl rfl rfl rfl ⟨rfl, rfl, rfl, rfl, rfl⟩ rfl rfl rfl rfl rfl (by kernel_rfl) Try.func4 (by kernel_rfl)
  (of_decide_eq_true (by kernel_rfl)) (by unfold Func.isWrapper; first | (rw [if_pos (by decide +kernel)]; kernel_rfl) | (rw [if_neg (by decide +kernel)]; exact ⟨rfl, rfl⟩))
  (fun os started H enc _ => lifted os started H enc)
end Go.Proofs.Ytmicongcnpbkkaa.cutLeaves
namespace Go.Proofs.Ytmicongcnpbkkaa
theorem cutLeaves_holds : Rows.CutLeavesSaid := cutLeaves.over
#print axioms cutLeaves_holds
end Go.Proofs.Ytmicongcnpbkkaa
