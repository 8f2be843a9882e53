import Derived.Test.YtmicongcnpbkkaaQ18
import Derived.Test.YtmicongcnpbkkaaQ21
import Derived.Test.YtmicongcnpbkkaaQ22
import Derived.WalkKit
import Derived.ProofKit
import Derived.OpenShut
import Derived.ShutString
import Derived.ChangeOld
import Derived.Below
import Derived.SizedLaws
import Derived.Deep.Slices
import Derived.Test.YtmicongcnpbkkaaRows
namespace Go.Proofs.Ytmicongcnpbkkaa
open Go.RowKit
set_option maxHeartbeats 2000000 in
set_option maxRecDepth 100000 in
theorem cutJoins_walk (a0 : Option Addr) (n0 c0 : Nat) (A : List It) (a1 : Option Addr) (n1 c1 : Nat) (B : List It) (a2 : Option Addr) (n2 c2 : Nat) (C : List (List Int)) (a3 : Option Addr) (n3 c3 : Nat) (S : List Int) (a4 : Option Addr) (n4 c4 : Nat) (D : List (List Int)) (w : World)
  (hA : Il w a0 A) (hA1 : A.length = n0) (hA2 : a0 = none → c0 = 0) (hA3 : ∀ x ∈ A, x.key.length ≤ 140737488351232)
  (hB : Il w a1 B) (hB1 : B.length = n1) (hB2 : a1 = none → c1 = 0) (hB3 : ∀ x ∈ B, x.key.length ≤ 140737488351232)
  (hC : Lz w a2 C) (hC1 : C.length = n2) (hC2 : a2 = none → c2 = 0) (hC3 : ∀ x ∈ C, x.length ≤ 140737488351232)
  (hS : Byt w a3 n3 c3 S) (hS1 : n3 ≤ c3) (hS2 : c3 ≤ 140737488351232)
  (hD : Lz w a4 D) (hD1 : D.length = n4) (hD2 : a4 = none → c4 = 0) (hD3 : ∀ x ∈ D, x.length ≤ 140737488351232) :
  Calls Try.prog 6 #[.slice a0 n0 c0, .slice a1 n1 c1, .slice a2 n2 c2, .slice a3 n3 c3, .slice a4 n4 c4] w fun en w' => en = .returned (.bool true) ∧ w.grownBy w' none := by
 have HA := hid_intro hA
 have HB := hid_intro hB
 have HC := hid_intro hC
 have HD := hid_intro hD
 have HS := hid_intro hS
 have hSl := hS.len
 have HK1 : Hid (∀ x ∈ A ++ B, x.key.length ≤ 140737488351232) := fun x hx => by
  rcases List.mem_append.1 hx with hx | hx
  ·exact hA3 x hx
  ·exact hB3 x hx
 have HK2 : Hid (∀ x ∈ C ++ ([S] ++ D), x.length ≤ 140737488351232) := fun x hx => by
  rcases List.mem_append.1 hx with hx | hx
  ·exact hC3 x hx
  ·rcases List.mem_append.1 hx with hx | hx
   ·rw [List.mem_singleton] at hx
    subst hx
    omega
   ·exact hD3 x hx
 clear hA hB hC hD hS hA3 hB3 hC3 hD3
 go_enter Try.func6, Try.ntmps6
 go_wp2_with fail
 refine (first9_any _).mono ?_
 rintro en w1 ⟨rfl, hg⟩
 have HG := hid_intro hg
 clear hg
 by_cases h0 : 400 < n0
 ·go_wp2
  go_ret
  exact ⟨rfl, HG.out⟩
 ·by_cases h1 : 400 < n1
  ·go_wp2
   go_ret
   exact ⟨rfl, HG.out⟩
  ·by_cases h2 : 400 < n2
   ·go_wp2
    go_ret
    exact ⟨rfl, HG.out⟩
   ·by_cases h4 : 400 < n4
    ·go_wp2
     go_ret
     exact ⟨rfl, HG.out⟩
    ·obtain ⟨x, hx⟩ : ∃ x, decide (size (A ++ B) ≤ 3000) = x := ⟨_, rfl⟩
     obtain ⟨y, hy⟩ : ∃ y, decide (bsize (C ++ ([S] ++ D)) ≤ 3000) = y := ⟨_, rfl⟩
     go_wp2_with fail
     refine (joinLeaves_any a0 n0 c0 A a1 n1 c1 B _ (HA.out.keptN HG.out) hA1 hA2 (HB.out.keptN HG.out) hB1 hB2 (by omega) HK1.out).mono ?_
     rintro en w2 ⟨rfl, hg2⟩
     rw [hx]
     have HG2 := hid_intro (grown_trans HG.out hg2)
     clear hg2 HG
     go_wp2_with fail
     refine (joinBranches_any a2 n2 c2 C a3 n3 c3 S a4 n4 c4 D _ (HC.out.keptN HG2.out) hC1 hC2 (HS.out.keptN HG2.out) hS1 (by omega) (HD.out.keptN HG2.out) hD1 hD2 (by omega) HK2.out).mono ?_
     rintro en w3 ⟨rfl, hg3⟩
     rw [hy]
     have HG3 := hid_intro (grown_trans HG2.out hg3)
     clear hg3 HG2
     go_wp2_with fail
     refine (refJoinLeaves_any a0 n0 c0 A a1 n1 c1 B _ (HA.out.keptN HG3.out) hA1 hA2 (HB.out.keptN HG3.out) hB1 hB2 (by omega) HK1.out).mono ?_
     rintro en w4 ⟨rfl, hg4⟩
     rw [hx]
     have HG4 := hid_intro (grown_trans HG3.out hg4)
     clear hg4 HG3 hx
     have hbx : (x == x) = true := by cases x <;> rfl
     have hby : (y == y) = true := by cases y <;> rfl
     go_wp2_with fail
     refine (refJoinBranches_any a2 n2 c2 C a3 n3 c3 S a4 n4 c4 D _ (HC.out.keptN HG4.out) hC1 hC2 (HS.out.keptN HG4.out) hS1 (by omega) (HD.out.keptN HG4.out) hD1 hD2 (by omega) HK2.out).mono ?_
     rintro en w5 ⟨rfl, hg5⟩
     rw [hy]
     have HG5 := hid_intro (grown_trans HG4.out hg5)
     clear hg5 HG4 hy
     go_wp2
     go_ret
     exact ⟨by simp, HG5.out⟩
end Go.Proofs.Ytmicongcnpbkkaa
namespace Go.Proofs.Ytmicongcnpbkkaa.cutJoins
open Go.ChangeShapes Go.WideShapes Go.ChangeAt Go.WideMaps Go.WideElems Go.RowKit Go.Deep
open Go.ChangeMaps (open_string shut_string)
theorem own : ownKnob Try.prog.godebug = none := by kernel_rfl
theorem laidOut : laidOutB Try.prog = true := by kernel_rfl
theorem bytes_u8 : Try.prog.bytesOf 5 = 1 := by kernel_rfl
set_option linter.unusedVariables false
set_option maxRecDepth 100000 in
theorem lifted (os : Os) (started : os.Started) (H : Type) (enc : TypeId × Value → H) :
  ReturnsInHanded {} Try.checked os 6 .any (Rows.cutJoinsSpec.pre6 enc Try.prog Try.f6 Rows.cutJoinsRow.domain false) (Rows.cutJoinsSpec.post enc Try.prog Try.f6 false true false false) := by
 refine returnsInHanded_of_change_sized (C := Try.checked) own started (by kernel_rfl) Try.func6
  (ChangeSpec.witness6 (enc := enc) (C := Try.checked) false ⟨#[], #[.slice none 0 0, .slice none 0 0, .slice none 0 0, .slice none 0 0, .slice none 0 0], []⟩ 8 (by kernel_rfl) (by kernel_rfl) (by kernel_rfl) (by kernel_rfl)) ?_
 intro W base args ds gs before hval0 hW hcnd hsz0 _
 have hval : ∀ (j : Nat) t v, Try.f6.params[j]? = some t → args[j]? = some v → Value.okWide Try.prog W .any base t v := hval0
 have hsz : (DataW.weightsEach Try.prog (Try.f6.params.toList ++ Rows.cutJoinsSpec.plain.varTypes Try.prog) (ds ++ gs)).all (· ≤ reachBytes) = true := hsz0
 clear hsz0
 have hW' := hW
 obtain ⟨p, q, hA0, hV, rfl, hfz, hnd⟩ := hW
 have hA : DataW.TrodAll enc Try.prog W 0 (fun _ => true) true Try.f6.params.toList args.toList ds p := hA0
 rw [Try.params6] at hA hval hsz
 obtain ⟨v0, vs0, d0, ds0, p0, q0, hargs, rfl, rfl, h0, r0⟩ := trodAll_cons hA
 obtain ⟨v1, vs1, d1, ds1, p1, q1, rfl, rfl, rfl, h1, r1⟩ := trodAll_cons r0
 obtain ⟨v2, vs2, d2, ds2, p2, q2, rfl, rfl, rfl, h2, r2⟩ := trodAll_cons r1
 obtain ⟨v3, vs3, d3, ds3, p3, q3, rfl, rfl, rfl, h3, r3⟩ := trodAll_cons r2
 obtain ⟨v4, vs4, d4, ds4, p4, q4, rfl, rfl, rfl, h4, r4⟩ := trodAll_cons r3
 obtain ⟨rfl, rfl, rfl⟩ := trodAll_nil r4
 obtain rfl : args = #[v0, v1, v2, v3, v4] := by cases args; simp_all
 obtain ⟨rfl, rfl⟩ := trodVars_none hV
 obtain ⟨a0, len0, cap0, rfl⟩ := okWide_slice Try.underlying24 (hval 0 24 v0 rfl rfl)
 have k0 := h0
 have lt0 : ∀ x ∈ p0, x.block < W.heap.size := by obtain ⟨m, hm⟩ := k0; exact DataW.trod_lt m _ _ _ hm
 obtain ⟨z0, b0, t0, e0, l0, c0, n0, s0⟩ : ∃ L, Il W a0 L ∧ Ib L ∧ L.length = len0 ∧ len0 ≤ cap0 ∧ cap0 ≤ 9223372036854775807 ∧ (a0 = none → cap0 = 0) ∧ (∀ x ∈ L, x.key.length ≤ 140737488351232 ∧ x.val.length ≤ 140737488351232) := by
  obtain ⟨fuel, hf⟩ := h0
  exact items_open9 (by simpa [Value.cells] using hf) (Wt9.of hsz (j := 0) rfl rfl)
 obtain ⟨a1, len1, cap1, rfl⟩ := okWide_slice Try.underlying24 (hval 1 24 v1 rfl rfl)
 have k1 := h1
 have lt1 : ∀ x ∈ p1, x.block < W.heap.size := by obtain ⟨m, hm⟩ := k1; exact DataW.trod_lt m _ _ _ hm
 obtain ⟨z1, b1, t1, e1, l1, c1, n1, s1⟩ : ∃ L, Il W a1 L ∧ Ib L ∧ L.length = len1 ∧ len1 ≤ cap1 ∧ cap1 ≤ 9223372036854775807 ∧ (a1 = none → cap1 = 0) ∧ (∀ x ∈ L, x.key.length ≤ 140737488351232 ∧ x.val.length ≤ 140737488351232) := by
  obtain ⟨fuel, hf⟩ := h1
  exact items_open9 (by simpa [Value.cells] using hf) (Wt9.of hsz (j := 1) rfl rfl)
 obtain ⟨a2, len2, cap2, rfl⟩ := okWide_slice Try.underlying28 (hval 2 28 v2 rfl rfl)
 have k2 := h2
 have lt2 : ∀ x ∈ p2, x.block < W.heap.size := by obtain ⟨m, hm⟩ := k2; exact DataW.trod_lt m _ _ _ hm
 obtain ⟨z2, b2, t2, e2, l2, c2, n2, s2⟩ : ∃ L, Lz W a2 L ∧ Lb L ∧ L.length = len2 ∧ len2 ≤ cap2 ∧ cap2 ≤ 9223372036854775807 ∧ (a2 = none → cap2 = 0) ∧ (∀ x ∈ L, x.length ≤ 140737488351232) := by
  obtain ⟨fuel, hf⟩ := h2
  exact rows_open9 (by simpa [Value.cells] using hf) (Wt9.of hsz (j := 2) rfl rfl)
 obtain ⟨a3, len3, cap3, rfl⟩ := okWide_slice Try.underlying32 (hval 3 32 v3 rfl rfl)
 have k3 := h3
 have lt3 : ∀ x ∈ p3, x.block < W.heap.size := by obtain ⟨m, hm⟩ := k3; exact DataW.trod_lt m _ _ _ hm
 obtain ⟨z3, b3, t3, l3, c3⟩ : ∃ zs, Byt W a3 len3 cap3 zs ∧ Bt zs ∧ len3 ≤ cap3 ∧ cap3 ≤ 140737488351232 := by
  obtain ⟨fuel, hf⟩ := h3
  rcases open_ints Try.underlying32 Try.underlying5 (by kernel_rfl) hf with ⟨hcs, _⟩ | ⟨x, l, c, zs, hcs, _, hl, hm, hz, hx, hcell, hwz⟩
  ·simp [Value.cells] at hcs
   obtain ⟨rfl, rfl, rfl⟩ := hcs
   exact ⟨[], Byt.empty W, Bt.nil, Nat.le_refl _, by omega⟩
  ·simp [Value.cells] at hcs
   obtain ⟨rfl, rfl, rfl⟩ := hcs
   have hz' : zs.length = cap3 := by simpa using hz
   obtain ⟨h1, h2, _, _⟩ := byt_of_row (zs := zs) (.inr ⟨_, rfl, hl, hm, hz', hcell, hwz⟩)
   have hs := sized_slice hsz (j := 3) (t := 32) (e := 5) rfl (congrArg (fun y => some (Prod.fst y)) hx) Try.underlying32
   rw [bytes_u8] at hs
   simp only [lits, List.length_map, List.length_take, List.length_drop, reachBytes] at hs
   exact ⟨_, h1, h2, hl, by omega⟩
 obtain ⟨a4, len4, cap4, rfl⟩ := okWide_slice Try.underlying28 (hval 4 28 v4 rfl rfl)
 have k4 := h4
 have lt4 : ∀ x ∈ p4, x.block < W.heap.size := by obtain ⟨m, hm⟩ := k4; exact DataW.trod_lt m _ _ _ hm
 obtain ⟨z4, b4, t4, e4, l4, c4, n4, s4⟩ : ∃ L, Lz W a4 L ∧ Lb L ∧ L.length = len4 ∧ len4 ≤ cap4 ∧ cap4 ≤ 9223372036854775807 ∧ (a4 = none → cap4 = 0) ∧ (∀ x ∈ L, x.length ≤ 140737488351232) := by
  obtain ⟨fuel, hf⟩ := h4
  exact rows_open9 (by simpa [Value.cells] using hf) (Wt9.of hsz (j := 4) rfl rfl)
 clear hA0 hval0
 refine (cutJoins_walk a0 len0 cap0 z0 a1 len1 cap1 z1 a2 len2 cap2 z2 a3 len3 cap3 z3 a4 len4 cap4 z4 W b0 e0 n0 (fun x hx => (s0 x hx).1) b1 e1 n1 (fun x hx => (s1 x hx).1) b2 e2 n2 s2 b3 l3 c3 b4 e4 n4 s4).mono fun e W' ⟨he, hg⟩ => ?_
 subst he
 have bel := below_of hg
 exact ⟨_, rfl, _, _, _, [], _, [], hW', trodAll_mk1 (shut_bool Try.underlying4 _), (trodAll_cons_mk (Below.trod laidOut (by kernel_rfl) (of_decide_eq_true (by kernel_rfl)) k0 bel lt0) (trodAll_cons_mk (Below.trod laidOut (by kernel_rfl) (of_decide_eq_true (by kernel_rfl)) k1 bel lt1) (trodAll_cons_mk (Below.trod laidOut (by kernel_rfl) (of_decide_eq_true (by kernel_rfl)) k2 bel lt2) (trodAll_cons_mk (Below.trod laidOut (by kernel_rfl) (of_decide_eq_true (by kernel_rfl)) k3 bel lt3) (trodAll_cons_mk (Below.trod laidOut (by kernel_rfl) (of_decide_eq_true (by kernel_rfl)) k4 bel lt4) trodAll_mk0))))), rfl, bel.frame _, fun h => by cases h⟩
theorem over : Rows.cutJoinsRow.holds Try.pinned (OpenSpec.ofChange Rows.cutJoinsSpec) :=
 OpenClaim.holds_of_wide 6 Try.f6 rfl rfl rfl rfl rfl rfl rfl ⟨rfl, rfl, rfl, rfl, rfl⟩ rfl rfl rfl rfl rfl (by kernel_rfl) Try.func6 (by kernel_rfl)
  (of_decide_eq_true (by kernel_rfl)) (by unfold Func.isWrapper; first | (rw [if_pos (by decide +kernel)]; kernel_rfl) | (rw [if_neg (by decide +kernel)]; exact ⟨rfl, rfl⟩))
  (fun os started H enc _ => lifted os started H enc)
end Go.Proofs.Ytmicongcnpbkkaa.cutJoins
namespace Go.Proofs.Ytmicongcnpbkkaa
theorem cutJoins_holds : Rows.CutJoinsSaid := cutJoins.over
#print axioms cutJoins_holds
end Go.Proofs.Ytmicongcnpbkkaa
