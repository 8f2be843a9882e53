import Derived.Test.YtkiopabcnemgnaaGreatDoorK33
import Derived.ProofKit
import Derived.LaidMore
import Derived.OpenShut
import Derived.Stop.Joined
import Derived.Test.YtkiopabcnemgnaaGreatDoorRows
namespace Go.Proofs.YtkiopabcnemgnaaGreatDoor
open Go.ChangeShapes Go.WideShapes Go.ChangeAt Go.WideMaps Go.WideElems Go.RowKit
theorem gFront : Tryz.prog.globalNamed "coppice/meta.frontMark" = some 0 := by kernel_rfl
theorem gEnd : Tryz.prog.globalNamed "coppice/meta.endMark" = some 1 := by kernel_rfl
theorem tFront : (Tryz.prog.globals[0]?).map (·.type) = some 174 := by kernel_rfl
theorem tEnd : (Tryz.prog.globals[1]?).map (·.type) = some 99 := by kernel_rfl
theorem laid_bytes {W : World} {f : Nat} {t N : Nat} {cs : Array Value} {p : List MemPlace} {ys : List Int} {D : DataW Unit} (hu : Tryz.prog.underlying t = some (.array N 5))
  (hd : DataW.trod (fun _ => ()) Tryz.prog W 0 (fun _ => true) false f t cs.toList = some (D, p)) (hD : D = .agg (ys.map fun z => .lit (.int .u8 z))) (hN : ys.length = N) : ∀ i, i < N → cs[i]? = some (.int .u8 (ys.getD i 0)) := by
 obtain ⟨xs, m1, rfl, hx1, hlen, hn3, hel⟩ := DataW.trod_array hu hd;have c3 : Tryz.prog.cellsOf 5 = 1 := by kernel_rfl
 intro i hi;have h0 := hel i hi;rw [c3, Nat.mul_one] at h0;obtain ⟨x, hx⟩ : ∃ x, xs[i]? = some x := ⟨_, List.getElem?_eq_getElem (by omega)⟩;rw [hx] at h0;obtain ⟨k, e1, e2, _⟩ := DataW.trod_int Tryz.underlying5 h0;have hm : (xs.map (fun x => x.fst))[i]? = some (.lit (.int .u8 k)) := by rw [List.getElem?_map, hx, e2]; rfl
 rw [hD] at hx1;simp only [Prod.mk.injEq, DataW.agg.injEq] at hx1;rw [← hx1.1, List.getElem?_map, List.getElem?_eq_getElem (by omega)] at hm
 have hk : ys.getD i 0 = k := by
  have : ys[i]'(by omega) = k := by simpa using hm
  simp [List.getD, List.getElem?_eq_getElem (show i < ys.length by omega), this]
 rw [hk];have e3 := congrArg (fun l => l[0]?) e1;rw [← Array.getElem?_toList];simpa using e3
end Go.Proofs.YtkiopabcnemgnaaGreatDoor
namespace Go.Proofs.YtkiopabcnemgnaaGreatDoor
open Go.ChangeShapes Go.WideShapes Go.ChangeAt Go.WideMaps Go.WideElems Go.RowKit
theorem gTab : Tryz.prog.globalNamed "coppice/crc.fourSteps" = some 2 := by kernel_rfl
theorem tTab : (Tryz.prog.globals[2]?).map (·.type) = some 214 := by kernel_rfl
theorem laid_at : ∀ i, i < 16 → ∃ xs : List (DataW Unit), Rows.laid_coppice_crc_fourSteps (H := Unit) = .agg xs ∧ xs[i]? = some (.lit (.int .u32 ((tab.getD i 0 : Nat) : Int)))
 | 0, _ => ⟨_, rfl, rfl⟩
 | 1, _ => ⟨_, rfl, rfl⟩
 | 2, _ => ⟨_, rfl, rfl⟩
 | 3, _ => ⟨_, rfl, rfl⟩
 | 4, _ => ⟨_, rfl, rfl⟩
 | 5, _ => ⟨_, rfl, rfl⟩
 | 6, _ => ⟨_, rfl, rfl⟩
 | 7, _ => ⟨_, rfl, rfl⟩
 | 8, _ => ⟨_, rfl, rfl⟩
 | 9, _ => ⟨_, rfl, rfl⟩
 | 10, _ => ⟨_, rfl, rfl⟩
 | 11, _ => ⟨_, rfl, rfl⟩
 | 12, _ => ⟨_, rfl, rfl⟩
 | 13, _ => ⟨_, rfl, rfl⟩
 | 14, _ => ⟨_, rfl, rfl⟩
 | 15, _ => ⟨_, rfl, rfl⟩
 | n + 16, h => absurd h (by omega)
end Go.Proofs.YtkiopabcnemgnaaGreatDoor
namespace Go.Proofs.YtkiopabcnemgnaaGreatDoor
open Go.ChangeShapes Go.WideShapes Go.ChangeAt Go.WideMaps Go.WideElems Go.RowKit
theorem door_met8 (os : Os) (args : Array Value) : laidMetH Tryz.prog [("coppice/crc.fourSteps", Rows.laid_coppice_crc_fourSteps), ("coppice/meta.frontMark", Rows.laid_coppice_meta_frontMark), ("coppice/meta.endMark", Rows.laid_coppice_meta_endMark)] ((World.doorLaid Tryz.prog 400 os).forCall (fun _ _ => 0) ⟨#[], args, []⟩).memory :=
 laidMetH_of_parts3 (fuel := 8) (laidMet_of_run' 8 (by kernel_rfl) (by kernel_rfl)) (by kernel_rfl) (by kernel_rfl)
theorem laid_tab {W : World} {f : Nat} {cs : Array Value} {p : List MemPlace} (hd0 : DataW.trod (fun _ => ()) Tryz.prog W 0 (fun _ => true) false f 214 cs.toList = some (Rows.laid_coppice_crc_fourSteps, p)) (hv : ∀ i, W.cell? ⟨2, i, none⟩ = cs[i]?) : Tab W := by
 obtain ⟨xs, m1, rfl, hx1, hlen, hn3, hel⟩ := DataW.trod_array Tryz.underlying214 hd0;have c3 : Tryz.prog.cellsOf 56 = 1 := by kernel_rfl
 intro i hi;have h0 := hel i hi;rw [c3, Nat.mul_one] at h0;obtain ⟨x, hx⟩ : ∃ x, xs[i]? = some x := ⟨_, List.getElem?_eq_getElem (by omega)⟩;rw [hx] at h0;obtain ⟨k, e1, e2, _⟩ := DataW.trod_int Tryz.underlying56 h0;have hm : (xs.map (fun x => x.fst))[i]? = some (.lit (.int .u32 k)) := by rw [List.getElem?_map, hx, e2]; rfl
 obtain ⟨ys, hy, hyi⟩ := laid_at i hi;rw [hy] at hx1;simp only [Prod.mk.injEq, DataW.agg.injEq] at hx1;rw [← hx1.1, hyi] at hm;have hk : ((tab.getD i 0 : Nat) : Int) = k := by simpa using hm
 rw [hk, hv i];have e3 := congrArg (fun l => l[0]?) e1;rw [← Array.getElem?_toList];simpa using e3
theorem of_laid8 {W : World} (h : laidMetH Tryz.prog [("coppice/crc.fourSteps", Rows.laid_coppice_crc_fourSteps), ("coppice/meta.frontMark", Rows.laid_coppice_meta_frontMark), ("coppice/meta.endMark", Rows.laid_coppice_meta_endMark)] W) : Tab W ∧ Mk W := by
 rw [MakeChecks.laidMetH_plain _ _ _ (by kernel_rfl)] at h;obtain ⟨ps, ⟨g, t, cs, f, p, q, hg, ht, hv, hd, ⟨g0, t0, cs0, f0, p0, q0, hg0, ht0, hv0, hd0, ⟨g1, t1, cs1, f1, p1, q1, hg1, ht1, hv1, hd1, _⟩, _⟩, _⟩, _, _⟩ := h;obtain rfl := Option.some.inj (gTab.symm.trans hg);obtain rfl := Option.some.inj (tTab.symm.trans ht);obtain rfl := Option.some.inj (gFront.symm.trans hg0);obtain rfl := Option.some.inj (tFront.symm.trans ht0);obtain rfl := Option.some.inj (gEnd.symm.trans hg1);obtain rfl := Option.some.inj (tEnd.symm.trans ht1);have b0 := laid_bytes (ys := [99, 111, 112]) Tryz.underlying174 hd0 rfl rfl;have b1 := laid_bytes (ys := [101, 110, 100, 46]) Tryz.underlying99 hd1 rfl rfl;have v0 := World.var?_cell hg0 hv0;have v1 := World.var?_cell hg1 hv1;exact ⟨laid_tab hd (World.var?_cell hg hv), ⟨(v0 0).trans (b0 0 (by decide)), (v0 1).trans (b0 1 (by decide)), (v0 2).trans (b0 2 (by decide)), (v1 0).trans (b1 0 (by decide)), (v1 1).trans (b1 1 (by decide)), (v1 2).trans (b1 2 (by decide)), (v1 3).trans (b1 3 (by decide))⟩⟩
end Go.Proofs.YtkiopabcnemgnaaGreatDoor
