import Derived.Test.YtkiopabcnemgnaaGreatDoorK37
import Derived.Test.YtkiopabcnemgnaaGreatDoorK47
import Derived.Test.YtkiopabcnemgnaaGreatDoorK48
import Derived.Test.YtkiopabcnemgnaaGreatDoorK51
import Derived.Test.YtkiopabcnemgnaaGreatDoorK49
import Derived.LaidMore
import Derived.Stop.Joined
import Derived.SevenTiedAt
import Derived.WalkKit
import Derived.ProofKit
import Derived.OpenShut
import Derived.ShutString
import Derived.ChangeOld
import Derived.Below
import Derived.SizedLaws
import Derived.Deep.Slices
import Derived.Test.YtkiopabcnemgnaaGreatDoorRows
import Derived.Test.YtkiopabcnemgnaaGreatDoorCards
import Derived.Test.YtkiopabcnemgnaaGreatDoorTie
set_option maxRecDepth 100000
set_option maxHeartbeats 4000000
namespace Go.Proofs.YtkiopabcnemgnaaGreatDoor
open Go.RowKit
theorem Pm.kinded {w : World} {x : Pv} {p : Pg} (h : Pm w x p) (k : Int) : Pm w { x with k := k } { p with kind := k } :=
 ⟨rfl, h.level, h.next, h.head, h.items, h.ib, h.il, h.ic, h.seps, h.sb, h.sl, h.sc, h.kids, h.kl, h.kc, h.data, h.db, h.dc, h.list, h.tl, h.tc⟩
theorem Fits.kinded {p : Pg} (h : Fits p) (k : Int) : Fits { p with kind := k } := ⟨h.items, h.seps, h.kids, h.data, h.list, h.each, h.sep⟩
theorem Px.kinded {w : World} {T : Nat} {x : Pv} (h : Px w T x) (s : Int) : Px (w.setCell ⟨T, 0, none⟩ (.int .i64 s)) T { x with k := s } := heap_setCell_same w T 0 _ _ _ h
theorem pageEncodes_walk (x : Pv) (p : Pg) (w : World) (hp : Pm w x p) (ht : Tab w) (hm : Mk w) : Calls Tryz.prog 3 #[.agg #[.int .i64 x.k, .slice x.i.a x.i.n x.i.c, .int .i64 x.l, .slice x.s.a x.s.n x.s.c, .slice x.d.a x.d.n x.d.c, .int .i64 x.x, .slice x.b.a x.b.n x.b.c, .slice x.t.a x.t.n x.t.c, .int .i64 x.h.v, .int .i64 x.h.c, .int .i64 x.h.r, .int .i64 x.h.h, .int .i64 x.h.k, .int .i64 x.h.f, .int .i64 x.h.n]] w fun en w' => en = .returned (.bool true) ∧ w.grownBy w' none := by
 have HP := hJ hp;have HT := hJ ht;have HM := hJ hm;clear hp ht hm;go_enter Tryz.func3, Tryz.ntmps3;go_upto_region 1 with fail
 have X1 := hJ (Px.new w x);have G1 := hJ (gP w x);generalize w.alloc (.cells #[.int .i64 x.k, .slice x.i.a x.i.n x.i.c, .int .i64 x.l, .slice x.s.a x.s.n x.s.c, .slice x.d.a x.d.n x.d.c, .int .i64 x.x, .slice x.b.a x.b.n x.b.c, .slice x.t.a x.t.n x.t.c, .int .i64 x.h.v, .int .i64 x.h.c, .int .i64 x.h.r, .int .i64 x.h.h, .int .i64 x.h.k, .int .i64 x.h.f, .int .i64 x.h.n] 30) = w1 at *
 go_wp2_with fail
 refine (first8_any _ (HT.out.keptN G1.out) (HM.out.keptN G1.out)).mono ?_;rintro en w2 ⟨rfl, hg2⟩;have X2 := hJ (X1.out.keptN hg2);have G2 := hJ (gQ G1.out hg2);clear hg2 X1 G1;obtain ⟨c0, c1, c2, c3, c4, c5, c6, c7, c8, c9, c10, c11, c12, c13, c14⟩ := X2.out.cells
 go_wp2_with fail
 refine (fits8_any x p _ (HP.out.keptN G2.out)).mono ?_;rintro en w3 ⟨⟨b3, rfl, hb3⟩, hg3⟩;have X3 := hJ (X2.out.keptN hg3);have G3 := hJ (gQ G2.out hg3);clear hg3 X2 G2 c0 c1 c2 c3 c4 c5 c6 c7 c8 c9 c10 c11 c12 c13 c14;cases b3 with
 | false =>
  clear hb3;go_wp2;go_ret;exact ⟨rfl, G3.out⟩
 | true =>
  have FP := hJ (hb3 rfl);clear hb3;obtain ⟨c0, c1, c2, c3, c4, c5, c6, c7, c8, c9, c10, c11, c12, c13, c14⟩ := X3.out.cells
  go_wp2_with fail
  refine (encodes8_any x p _ (HP.out.keptN G3.out) FP.out (HT.out.keptN G3.out) (HM.out.keptN G3.out)).mono ?_;rintro en w4 ⟨rfl, hg4⟩;have X4 := hJ (X3.out.keptN hg4);have G4 := hJ (gQ G3.out hg4);clear hg4 X3 G3 c0 c1 c2 c3 c4 c5 c6 c7 c8 c9 c10 c11 c12 c13 c14;go_wp2;go_loopw [3, 4, 5] (fun so si _ wr => ∃ i : Nat, i ≤ 7 ∧ si = .int .i64 i ∧ so = .bool true ∧ Px wr w.heap.size x ∧ w.grownBy wr none) (fun _ si _ _ => 7 - (intOf si).toNat)
  case atStart => exact ⟨0, by omega, rfl, rfl, X4.out, G4.out⟩
  case round =>
   obtain ⟨i, hi, rfl, rfl, hx, hg⟩ := hrel;have X5 := hJ hx;have G5 := hJ hg;clear hx hg X4 G4
   by_cases hlt : i < 7
   ·have t1 : (i : Int) < 7 := by omega
    obtain ⟨c0, c1, c2, c3, c4, c5, c6, c7, c8, c9, c10, c11, c12, c13, c14⟩ := X5.out.cells;have ga := gP wr x;have X6 := hJ (X5.out.keptN ga);have Y6 := hJ (Px.new wr x);have G6 := hJ (gQ G5.out ga);have hsz := G5.out.size;have hxl := X5.out.lt;clear ga;go_upto_region 9 with fail
    generalize wr.alloc (.cells #[.int .i64 x.k, .slice x.i.a x.i.n x.i.c, .int .i64 x.l, .slice x.s.a x.s.n x.s.c, .slice x.d.a x.d.n x.d.c, .int .i64 x.x, .slice x.b.a x.b.n x.b.c, .slice x.t.a x.t.n x.t.c, .int .i64 x.h.v, .int .i64 x.h.c, .int .i64 x.h.r, .int .i64 x.h.h, .int .i64 x.h.k, .int .i64 x.h.f, .int .i64 x.h.n] 30) = w6 at *;generalize wr.heap.size = T at *;clear c0 c1 c2 c3 c4 c5 c6 c7 c8 c9 c10 c11 c12 c13 c14;have d0 := Y6.out.cells.1;have f0 := Y6.out.frozen 0;go_upto_region 10 with fail
    have hgF := grown_cell w6 T 0 (.int .i64 (i : Int));have X7 := hJ (X6.out.kept hgF (fun e => by have := Option.some.inj e; omega));have Y7 := hJ (Y6.out.kinded (i : Int));have G7 := hJ (grown_new G6.out hgF (by omega));clear hgF X6 Y6 G6 d0 f0 X5 G5;generalize w6.setCell ⟨T, 0, none⟩ (.int .i64 (i : Int)) = w7 at *;obtain ⟨c0, c1, c2, c3, c4, c5, c6, c7, c8, c9, c10, c11, c12, c13, c14⟩ := Y7.out.cells;simp only at c0 c1 c2 c3 c4 c5 c6 c7 c8 c9 c10 c11 c12 c13 c14
    go_wp2_with fail
    refine (encodes8_any { x with k := (i : Int) } { p with kind := (i : Int) } _ ((HP.out.keptN G7.out).kinded _) (FP.out.kinded _) (HT.out.keptN G7.out) (HM.out.keptN G7.out)).mono ?_;rintro en w8 ⟨rfl, hg8⟩;have X8 := hJ (X7.out.keptN hg8);have G8 := hJ (gQ G7.out hg8);clear hg8 X7 Y7 G7 c0 c1 c2 c3 c4 c5 c6 c7 c8 c9 c10 c11 c12 c13 c14;go_wp2;go_roundw
    case rel => exact ⟨i + 1, by omega, by go_num, rfl, X8.out, G8.out⟩
    case measure => simp [intOf]; omega
   ·obtain rfl : i = 7 := by omega
    go_wp2;go_ret;exact ⟨rfl, G5.out⟩
end Go.Proofs.YtkiopabcnemgnaaGreatDoor
namespace Go.Proofs.YtkiopabcnemgnaaGreatDoor.pageEncodes
open Go.ChangeShapes Go.WideShapes Go.ChangeAt Go.WideMaps Go.WideElems Go.RowKit Go.Deep
open Go.ChangeMaps (open_string shut_string)
theorem own : ownKnob Tryz.prog.godebug = none := by kernel_rfl
theorem laidOut : laidOutB Tryz.prog = true := by kernel_rfl
theorem bytes_u8 : Tryz.prog.bytesOf 5 = 1 := by kernel_rfl
theorem bytes_i64 : Tryz.prog.bytesOf 3 = 8 := by kernel_rfl
set_option linter.unusedVariables false
theorem lifted (os : Os) (started : os.Started) (H : Type) (enc : TypeId × Value → H) :
  ReturnsInHanded {} Tryz.checked os 3 .any (fun w args => (Rows.pageEncodesSpec.pre enc Tryz.prog Tryz.f3 [] false w args ∧ laidMetH Tryz.prog [("coppice/crc.fourSteps", Rows.laid_coppice_crc_fourSteps), ("coppice/meta.frontMark", Rows.laid_coppice_meta_frontMark), ("coppice/meta.endMark", Rows.laid_coppice_meta_endMark)] w) ∧ sizedMet enc Tryz.prog Tryz.f3 (OpenSpec.ofChange Rows.pageEncodesSpec) false w args) (Rows.pageEncodesSpec.post enc Tryz.prog Tryz.f3 false true false false) := by
 refine returnsInHanded_of_change_and (C := Tryz.checked) (X := fun w _ => laidMetH Tryz.prog [("coppice/crc.fourSteps", Rows.laid_coppice_crc_fourSteps), ("coppice/meta.frontMark", Rows.laid_coppice_meta_frontMark), ("coppice/meta.endMark", Rows.laid_coppice_meta_endMark)] w) (fun _ _ _ hh h => h.of_heap hh) own started (by kernel_rfl) Tryz.func3
  (ChangeSpec.witness_shaped (enc := enc) (C := Tryz.checked) (os := os) (X := fun w _ => laidMetH Tryz.prog [("coppice/crc.fourSteps", Rows.laid_coppice_crc_fourSteps), ("coppice/meta.frontMark", Rows.laid_coppice_meta_frontMark), ("coppice/meta.endMark", Rows.laid_coppice_meta_endMark)] w) false (World.doorLaid Tryz.prog 400 os) #[.agg #[.int .i64 0, .slice none 0 0, .int .i64 0, .slice none 0 0, .slice none 0 0, .int .i64 0, .slice none 0 0, .slice none 0 0, .int .i64 0, .int .i64 0, .int .i64 0, .int .i64 0, .int .i64 0, .int .i64 0, .int .i64 0]] 8 rfl (World.shaped_of_RefB (by kernel_rfl) (by kernel_rfl)) (by kernel_rfl) (by kernel_rfl) (by kernel_rfl) (door_met8 os _)) ?_
 intro W base args ds gs before hval0 hW _ _ hL _;have hval : ∀ (j : Nat) t v, Tryz.f3.params[j]? = some t → args[j]? = some v → Value.okWide Tryz.prog W .any base t v := hval0;have hW' := hW;obtain ⟨p, q, hA0, hV, rfl, hfz, hnd⟩ := hW;have hA : DataW.TrodAll enc Tryz.prog W 0 (fun _ => true) true Tryz.f3.params.toList args.toList ds p := hA0;rw [Tryz.params3] at hA hval;obtain ⟨v0, vs0, d0, ds0, p0, q0, hargs, rfl, rfl, h0, r0⟩ := trodAll_cons hA;obtain ⟨rfl, rfl, rfl⟩ := trodAll_nil r0;obtain rfl : args = #[v0] := by cases args; simp_all
 obtain ⟨rfl, rfl⟩ := trodVars_none hV;obtain ⟨x0, p0q, rfl, m0, r0q⟩ := page_open (hval 0 30 v0 rfl rfl) h0;have k0 := h0;have lt0 : ∀ x ∈ p0, x.block < W.heap.size := by obtain ⟨m, hm⟩ := k0; exact DataW.trod_lt m _ _ _ hm
 clear hA0 hval0;refine (pageEncodes_walk x0 p0q W m0 (of_laid8 hL).1 (of_laid8 hL).2).mono fun e W' ⟨he, hg⟩ => ?_
 subst he;have bel := below_of hg;exact ⟨_, rfl, _, _, _, [], _, [], hW', trodAll_mk1 (shut_bool Tryz.underlying4 _), (trodAll_cons_mk (Below.trod laidOut (by kernel_rfl) (of_decide_eq_true (by kernel_rfl)) k0 bel lt0) trodAll_mk0), rfl, bel.frame _, fun h => by cases h⟩
theorem over : Rows.pageEncodesRow.holds Tryz.pinned (OpenSpec.ofChange Rows.pageEncodesSpec) :=
 OpenClaim.holds_of_wide 3 Tryz.f3 rfl rfl rfl rfl rfl rfl rfl ⟨rfl, rfl, rfl, rfl, rfl⟩ rfl rfl rfl rfl rfl (by kernel_rfl) Tryz.func3 (by kernel_rfl)
  (of_decide_eq_true (by kernel_rfl)) (by unfold Func.isWrapper; first | (rw [if_pos (by decide +kernel)]; kernel_rfl) | (rw [if_neg (by decide +kernel)]; exact ⟨rfl, rfl⟩))
  (fun os started H enc _ => lifted os started H enc)
end Go.Proofs.YtkiopabcnemgnaaGreatDoor.pageEncodes
namespace Go.Proofs.YtkiopabcnemgnaaGreatDoor
open Go
theorem pageEncodes_card : Rows.PageEncodesCardSaid :=
 Claim7.holds_tied_plain_at .later [] [.data, .data, .data] true (true, "6723e549a4ad831f1b68880d1a9bf0b551a40a6e1dacde8f49367b4e56d64ce1") false
  pageEncodes.over (fun _ h => by cases h) (by kernel_rfl) (fun _ h => by cases h) pageEncodes_row_tie rfl ⟨rfl, rfl⟩ (by kernel_rfl) rfl
  (fun f fn hf hfn => by
   obtain rfl : f = 3 := Option.some.inj ((show Tryz.prog.funcNamed "coppice/coppicelaw8.PageEncodes" = some 3 by kernel_rfl).symm.trans hf) |>.symm;obtain rfl : fn = Tryz.f3 := (Option.some.inj (Tryz.func3.symm.trans hfn)).symm
   exact ⟨by kernel_rfl, fun j t ht => by
    rw [Tryz.params3] at ht;have hm : t ∈ [30] := by simpa using Array.mem_of_getElem? ht
    have hall : ([30].all fun u => !Tryz.prog.wantsStandIn u) = true := by kernel_rfl
    exact (show Tryz.prog.wantsStandIn t = false by simpa using List.all_eq_true.1 hall t hm)⟩)
  (by kernel_rfl)
#print axioms pageEncodes_card
end Go.Proofs.YtkiopabcnemgnaaGreatDoor
