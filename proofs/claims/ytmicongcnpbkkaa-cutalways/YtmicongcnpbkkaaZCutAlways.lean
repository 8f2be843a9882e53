import Derived.Test.YtmicongcnpbkkaaQ18
import Derived.Test.YtmicongcnpbkkaaQ22
import Derived.WalkKit
import Derived.ProofKit
import Derived.OpenShut
import Derived.ShutString
import Derived.ChangeOld
import Derived.Below
import Derived.SizedLaws
import Derived.Deep.Slices
import Derived.Test.YtmicongcnpbkkaaRows
namespace Go.Proofs.Ytmicongcnpbkkaa
open Go.RowKit
set_option maxHeartbeats 4000000 in
set_option maxRecDepth 100000 in
theorem cutAlways_walk (a : Option Addr) (n cap : Nat) (L : List It) (ko : Option Addr) (kn kc : Nat) (vo : Option Addr) (vn vc : Nat) (x : It) (w : World) (hl : Il w a L) (hn : L.length = n) (hks : ∀ z ∈ L, z.key.length ≤ 140737488351232) (h1 : Byt w ko kn kc x.key) (h2 : kn ≤ kc) (h3 : kc ≤ 140737488351232) (h4 : Byt w vo vn vc x.val) (h5 : vn ≤ vc) (h6 : vc ≤ 140737488351232) :
  Calls Try.prog 8 #[.slice a n cap, .agg #[.slice ko kn kc, .slice vo vn vc, .int .i64 x.size, .int .i64 x.first]] w fun en w' => en = .returned (.bool true) ∧ w.grownBy w' none := by
 obtain ⟨sz, hs⟩ : ∃ sz, x.size = sz := ⟨_, rfl⟩
 obtain ⟨fs, hf⟩ : ∃ fs, x.first = fs := ⟨_, rfl⟩
 rw [hs, hf]
 obtain ⟨w0, hw0⟩ : ∃ w0, w0 = w.alloc (.cells #[.slice ko kn kc, .slice vo vn vc, .int .i64 sz, .int .i64 fs] 38) := ⟨_, rfl⟩
 have g0 : w.grownBy w0 none := by rw [hw0]; exact World.grownBy_alloc _ _ none
 have hrow : w0.heap[w.heap.size]? = some (.cells #[.slice ko kn kc, .slice vo vn vc, .int .i64 sz, .int .i64 fs] 38 (0, 0)) := by rw [hw0]; exact heap_alloc_new w _
 have y0 : w0.cell? ⟨w.heap.size, 0, none⟩ = some (.slice ko kn kc) := by rw [cell_of_row _ w.heap.size 0 _ _ (0, 0) hrow]; rfl
 have y1 : w0.cell? ⟨w.heap.size, 1, none⟩ = some (.slice vo vn vc) := by rw [cell_of_row _ w.heap.size 1 _ _ (0, 0) hrow]; rfl
 have y2 : w0.cell? ⟨w.heap.size, 2, none⟩ = some (.int .i64 sz) := by rw [cell_of_row _ w.heap.size 2 _ _ (0, 0) hrow]; rfl
 have y3 : w0.cell? ⟨w.heap.size, 3, none⟩ = some (.int .i64 fs) := by rw [cell_of_row _ w.heap.size 3 _ _ (0, 0) hrow]; rfl
 have HY := hid_intro (⟨y0, y1, y2, y3⟩ : _ ∧ _ ∧ _ ∧ _)
 have HL := hid_intro (hl.keptN g0)
 have HX := hid_intro (h1.keptN g0)
 have HV := hid_intro (h4.keptN g0)
 have HG0 := hid_intro g0
 have HKL := hid_intro hks
 have hxk := h1.len
 have HKX : Hid (∀ z ∈ [x], z.key.length ≤ 140737488351232) := by
  intro z hz
  rw [List.mem_singleton] at hz
  subst hz
  omega
 clear hl h1 h4 g0 hrow y0 y1 y2 y3 hks
 go_enter Try.func8, Try.ntmps8
 go_wp2_with fail
 rw [← hw0]
 clear hw0
 refine (first9_any _).mono ?_
 rintro en w1 ⟨rfl, hg1⟩
 have HG1 := hid_intro hg1
 clear hg1
 by_cases hm : 400 < n
 ·go_wp2
  go_ret
  exact ⟨rfl, grown_trans HG0.out HG1.out⟩
 ·go_wp2_with fail
  refine (rises_any a n cap L _ (HL.out.keptN HG1.out) hn (by omega) HKL.out).mono ?_
  rintro en w2 ⟨⟨r, rfl, hr⟩, hg2⟩
  have HG2 := hid_intro (grown_trans HG1.out hg2)
  clear hg2 HG1
  cases r with
  | false =>
   clear hr
   go_wp2
   go_ret
   exact ⟨rfl, grown_trans HG0.out HG2.out⟩
  | true =>
   have HR := hid_intro (hr rfl)
   clear hr
   obtain ⟨t0, t1, t2, t3⟩ := HY.out
   have b0 := HG2.out.cell t0 (by simp)
   have b1 := HG2.out.cell t1 (by simp)
   have b2 := HG2.out.cell t2 (by simp)
   have b3 := HG2.out.cell t3 (by simp)
   have gA := World.grownBy_alloc w2 (.cells #[.slice ko kn kc, .slice vo vn vc, .int .i64 sz, .int .i64 fs] 38) none
   have hI : Il (w2.alloc (.cells #[.slice ko kn kc, .slice vo vn vc, .int .i64 sz, .int .i64 fs] 38)) (some ⟨w2.heap.size, 0, none⟩) [x] := by
    have hrow := heap_alloc_new w2 (.cells #[.slice ko kn kc, .slice vo vn vc, .int .i64 sz, .int .i64 fs] 38)
    refine ⟨fun j hj => ?_⟩
    match j, hj with
    | 0, _ => exact ⟨w2.heap.size, 0, ko, kn, kc, vo, vn, vc, rfl, by rw [cell_of_row _ w2.heap.size _ _ _ (0, 0) hrow]; rfl, by rw [cell_of_row _ w2.heap.size _ _ _ (0, 0) hrow]; rfl, by rw [cell_of_row _ w2.heap.size _ _ _ (0, 0) hrow]; show _ = some (Value.int .i64 x.size); rw [hs]; rfl, by rw [cell_of_row _ w2.heap.size _ _ _ (0, 0) hrow]; show _ = some (Value.int .i64 x.first); rw [hf]; rfl, HX.out.keptN (grown_trans HG2.out gA), h2, by omega, HV.out.keptN (grown_trans HG2.out gA), h5, by omega⟩
    | k + 1, h =>
     have h9 : k + 1 < 1 := h
     omega
   have HRX := hid_intro (rises_any (some ⟨w2.heap.size, 0, none⟩) 1 1 [x] _ hI rfl (by omega) HKX.out)
   have HGA := hid_intro (grown_trans HG2.out gA)
   clear t0 t1 t2 t3 hI gA
   go_wp2_with fail
   refine HRX.out.mono ?_
   rintro en w3 ⟨⟨r, rfl, hr⟩, hg3⟩
   have HG3 := hid_intro (grown_trans HGA.out hg3)
   clear hg3 HGA HRX HG2 b0 b1 b2 b3
   cases r with
   | false =>
    clear hr
    go_wp2
    go_ret
    exact ⟨rfl, grown_trans HG0.out HG3.out⟩
   | true =>
    have HRX := hid_intro (hr rfl)
    clear hr
    obtain ⟨t0, t1, t2, t3⟩ := HY.out
    have b0 := HG3.out.cell t0 (by simp)
    have b1 := HG3.out.cell t1 (by simp)
    have b2 := HG3.out.cell t2 (by simp)
    have b3 := HG3.out.cell t3 (by simp)
    clear t0 t1 t2 t3
    go_wp2_with fail
    refine (laid_any a n cap L ko kn kc vo vn vc x sz fs _ (HL.out.keptN HG3.out) hn (by omega) HR.out (HX.out.keptN HG3.out) h2 (by omega) (HV.out.keptN HG3.out) h5 (by omega) hs hf).mono ?_
    rintro en w4 ⟨⟨a2, c2, M, rfl, hM, hld, hc1, hc2, hc3⟩, hg4⟩
    have HM := hid_intro hM
    have HD := hid_intro hld
    have HG4 := hid_intro (grown_trans HG3.out hg4)
    have hln := hld.len
    obtain ⟨m, hMm⟩ : ∃ m, M.length = m := ⟨_, rfl⟩
    rw [hMm] at hln hc1 ⊢
    have HKM : Hid (∀ z ∈ M, z.key.length ≤ 140737488351232) := by
     intro z hz
     rcases HD.out.mem hz with rfl | hz
     ·omega
     ·exact HKL.out z hz
    clear hM hld hg4 HG3 b0 b1 b2 b3
    go_wp2_with fail
    refine (size_any a2 m c2 M _ HM.out hMm (by omega) HKM.out).mono ?_
    rintro en w5 ⟨rfl, hg5⟩
    have HM5 := hid_intro (HM.out.keptN hg5)
    have HG5 := hid_intro (grown_trans HG4.out hg5)
    clear hg5 HG4 HM
    go_wp2_with fail
    refine (cutLeaf_any a2 m c2 M _ HM5.out hMm (by omega) hc1 hc2 HKM.out).mono ?_
    rintro en w6 ⟨⟨r, rfl, hb6⟩, hg6⟩
    have HM6 := hid_intro (HM5.out.keptN hg6)
    have HG6 := hid_intro (grown_trans HG5.out hg6)
    have HCU : Hid (4092 < size M → 1 ≤ r ∧ r < m ∧ size (M.take r) ≤ 4092 ∧ size (M.drop r) ≤ 4092) := by
     intro hbig
     have := HD.out.cut HR.out HRX.out hbig (r := r) (by rw [hMm]; exact hb6)
     rwa [hMm] at this
    clear hb6 hg6 HG5 HM5 HR HRX HD
    go_wp2_with fail
    refine (refSize_any a2 m c2 M _ HM6.out hMm (by omega) HKM.out).mono ?_
    rintro en w7 ⟨rfl, hq7⟩
    have HM7 := hid_intro (HM6.out.heap hq7.qt.heap)
    have HG7 := hid_intro (grown_trans HG6.out (hq7.qt.grown none))
    clear hq7 HG6 HM6
    obtain ⟨s, hsM⟩ : ∃ s, size M = s := ⟨_, rfl⟩
    rw [hsM] at HCU ⊢
    by_cases hbig : s ≤ 4092
    ·clear HCU
     go_wp2
     go_ret
     exact ⟨rfl, grown_trans HG0.out HG7.out⟩
    ·obtain ⟨r1, r2, r3, r4⟩ := HCU.out (by omega)
     clear HCU
     obtain ⟨b, off, rfl⟩ : ∃ b off, a2 = some ⟨b, off, none⟩ := by
      obtain ⟨b, off, _, _, _, _, _, _, e, _⟩ := HM7.out.row 0 (by omega)
      exact ⟨b, off, e⟩
     have hlen1 : (M.take r).length = r := by rw [List.length_take]; omega
     have hlen2 : (M.drop r).length = m - r := by rw [List.length_drop]; omega
     have hJs : size (M.take r ++ M.drop r) = s := by rw [List.take_append_drop]; exact hsM
     have HA := hid_intro (size_any (some ⟨b, off, none⟩) r c2 (M.take r) w7 (HM7.out.take r) hlen1 (by omega) (fun z hz => HKM.out z (List.mem_of_mem_take hz)))
     have HB := hid_intro (fun (W : World) (h : w7.grownBy W none) => size_any (some ⟨b, off + r * 4, none⟩) (m - r) (c2 - r) (M.drop r) W ((HM7.out.keptN h).drop r) hlen2 (by omega) (fun z hz => HKM.out z (List.mem_of_mem_drop hz)))
     have HJ := hid_intro (fun (W : World) (h : w7.grownBy W none) => joinLeaves_any (some ⟨b, off, none⟩) r c2 (M.take r) (some ⟨b, off + r * 4, none⟩) (m - r) (c2 - r) (M.drop r) W ((HM7.out.keptN h).take r) hlen1 (fun e => by cases e) ((HM7.out.keptN h).drop r) hlen2 (fun e => by cases e) (by omega) (fun z hz => HKM.out z (by rwa [List.take_append_drop] at hz)))
     rw [hJs] at HJ
     have hdj : decide (s ≤ 3000) = false := decide_eq_false (by omega)
     rw [hdj] at HJ
     have hne : ¬ c2 = r := by omega
     have hrc : r < c2 := by omega
     have hrc2 : r ≤ c2 := by omega
     clear hlen1 hlen2 hJs hdj HKM HM7 hsM hMm
     generalize size (M.take r) = p at *
     generalize size (M.drop r) = q at *
     go_wp2_with fail
     refine HA.out.mono ?_
     rintro en w8 ⟨rfl, hg8⟩
     have HG8 := hid_intro hg8
     clear hg8 HA
     go_wp2_with fail
     refine (HB.out _ HG8.out).mono ?_
     rintro en w9 ⟨rfl, hg9⟩
     have HG9 := hid_intro (grown_trans HG8.out hg9)
     clear hg9 HB HG8
     have z1 : IntKind.i64.wrap (r : Int) = (r : Int) := by rw [IntKind.wrap_i64]; omega
     have z2 : (0 : Int) ≤ (r : Int) := by omega
     have z3 : (r : Int) ≤ (c2 : Int) := by omega
     have z4 : (r : Int) ≤ (m : Int) := by omega
     go_upto_region 15 with fail
     go_cut [11] (fun s11 wx => s11 = .bool false ∧ w7.grownBy wx none)
     case first =>
      go_region_with (go_at_call 18; refine (HJ.out w9.drew (grown_trans HG9.out ((Qt.refl _).drew.grown none))).mono ?_; rintro en wj ⟨rfl, hgj⟩)
      all_goals (go_wp2_with fail; go_meet; exact ⟨rfl, grown_trans (grown_trans HG9.out ((Qt.refl _).drew.grown none)) hgj⟩)
     case rest =>
      obtain ⟨rfl, hgc⟩ := hcut
      have HGC := hid_intro (grown_trans HG0.out (grown_trans HG7.out hgc))
      clear hgc HJ HG9 HG7
      go_wp2
      go_ret
      exact ⟨rfl, HGC.out⟩
end Go.Proofs.Ytmicongcnpbkkaa
namespace Go.Proofs.Ytmicongcnpbkkaa.cutAlways
open Go.ChangeShapes Go.WideShapes Go.ChangeAt Go.WideMaps Go.WideElems Go.RowKit Go.Deep
open Go.ChangeMaps (open_string shut_string)
theorem own : ownKnob Try.prog.godebug = none := by kernel_rfl
theorem laidOut : laidOutB Try.prog = true := by kernel_rfl
theorem bytes_u8 : Try.prog.bytesOf 5 = 1 := by kernel_rfl
set_option linter.unusedVariables false
set_option maxRecDepth 100000 in
theorem lifted (os : Os) (started : os.Started) (H : Type) (enc : TypeId × Value → H) :
  ReturnsInHanded {} Try.checked os 8 .any (Rows.cutAlwaysSpec.pre6 enc Try.prog Try.f8 Rows.cutAlwaysRow.domain false) (Rows.cutAlwaysSpec.post enc Try.prog Try.f8 false true false false) := by
 refine returnsInHanded_of_change_sized (C := Try.checked) own started (by kernel_rfl) Try.func8
  (ChangeSpec.witness6 (enc := enc) (C := Try.checked) false ⟨#[], #[.slice none 0 0, .agg #[.slice none 0 0, .slice none 0 0, .int .i64 0, .int .i64 0]], []⟩ 8 (by kernel_rfl) (by kernel_rfl) (by kernel_rfl) (by kernel_rfl)) ?_
 intro W base args ds gs before hval0 hW hcnd hsz0 _
 have hval : ∀ (j : Nat) t v, Try.f8.params[j]? = some t → args[j]? = some v → Value.okWide Try.prog W .any base t v := hval0
 have hsz : (DataW.weightsEach Try.prog (Try.f8.params.toList ++ Rows.cutAlwaysSpec.plain.varTypes Try.prog) (ds ++ gs)).all (· ≤ reachBytes) = true := hsz0
 clear hsz0
 have hW' := hW
 obtain ⟨p, q, hA0, hV, rfl, hfz, hnd⟩ := hW
 have hA : DataW.TrodAll enc Try.prog W 0 (fun _ => true) true Try.f8.params.toList args.toList ds p := hA0
 rw [Try.params8] at hA hval hsz
 obtain ⟨v0, vs0, d0, ds0, p0, q0, hargs, rfl, rfl, h0, r0⟩ := trodAll_cons hA
 obtain ⟨v1, vs1, d1, ds1, p1, q1, rfl, rfl, rfl, h1, r1⟩ := trodAll_cons r0
 obtain ⟨rfl, rfl, rfl⟩ := trodAll_nil r1
 obtain rfl : args = #[v0, v1] := by cases args; simp_all
 obtain ⟨rfl, rfl⟩ := trodVars_none hV
 obtain ⟨a0, len0, cap0, rfl⟩ := okWide_slice Try.underlying24 (hval 0 24 v0 rfl rfl)
 have k0 := h0
 have lt0 : ∀ x ∈ p0, x.block < W.heap.size := by obtain ⟨m, hm⟩ := k0; exact DataW.trod_lt m _ _ _ hm
 obtain ⟨z0, b0, t0, e0, l0, c0, n0, s0⟩ : ∃ L, Il W a0 L ∧ Ib L ∧ L.length = len0 ∧ len0 ≤ cap0 ∧ cap0 ≤ 9223372036854775807 ∧ (a0 = none → cap0 = 0) ∧ (∀ x ∈ L, x.key.length ≤ 140737488351232 ∧ x.val.length ≤ 140737488351232) := by
  obtain ⟨fuel, hf⟩ := h0
  exact items_open9 (by simpa [Value.cells] using hf) (Wt9.of hsz (j := 0) rfl rfl)
 obtain ⟨ao_1, n_1, c_1, bo_1, m_1, d_1, x1, rfl, ic1, s1⟩ := item_came9 (hval 1 38 v1 rfl rfl) h1 (Wt9.of hsz (j := 1) rfl rfl)
 have k1 := h1
 have lt1 : ∀ x ∈ p1, x.block < W.heap.size := by obtain ⟨m, hm⟩ := k1; exact DataW.trod_lt m _ _ _ hm
 clear hA0 hval0
 refine (cutAlways_walk a0 len0 cap0 z0 ao_1 n_1 c_1 bo_1 m_1 d_1 x1 W b0 e0 (fun x hx => (s0 x hx).1) ic1.k ic1.kc.1 s1.1 ic1.v ic1.vc.1 s1.2).mono fun e W' ⟨he, hg⟩ => ?_
 subst he
 have bel := below_of hg
 exact ⟨_, rfl, _, _, _, [], _, [], hW', trodAll_mk1 (shut_bool Try.underlying4 _), (trodAll_cons_mk (Below.trod laidOut (by kernel_rfl) (of_decide_eq_true (by kernel_rfl)) k0 bel lt0) (trodAll_cons_mk (Below.trod laidOut (by kernel_rfl) (of_decide_eq_true (by kernel_rfl)) k1 bel lt1) trodAll_mk0)), rfl, bel.frame _, fun h => by cases h⟩
theorem over : Rows.cutAlwaysRow.holds Try.pinned (OpenSpec.ofChange Rows.cutAlwaysSpec) :=
 OpenClaim.holds_of_wide 8 Try.f8 rfl rfl rfl rfl rfl rfl rfl ⟨rfl, rfl, rfl, rfl, rfl⟩ rfl rfl rfl rfl rfl (by kernel_rfl) Try.func8 (by kernel_rfl)
  (of_decide_eq_true (by kernel_rfl)) (by unfold Func.isWrapper; first | (rw [if_pos (by decide +kernel)]; kernel_rfl) | (rw [if_neg (by decide +kernel)]; exact ⟨rfl, rfl⟩))
  (fun os started H enc _ => lifted os started H enc)
end Go.Proofs.Ytmicongcnpbkkaa.cutAlways
namespace Go.Proofs.Ytmicongcnpbkkaa
theorem cutAlways_holds : Rows.CutAlwaysSaid := cutAlways.over
#print axioms cutAlways_holds
end Go.Proofs.Ytmicongcnpbkkaa
