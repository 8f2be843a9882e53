import Derived.Test.YtnghkgnpbcadaabDoorCrc1
import Derived.ProofKit
import Derived.LaidMore
import Derived.OpenShut
import Derived.Stop.Joined
namespace Go.Proofs.YtnghkgnpbcadaabDoor
open Go.ChangeShapes Go.WideShapes Go.ChangeAt Go.WideMaps Go.WideElems Go.RowKit

theorem gTab : Tryd.prog.globalNamed "coppice/crc.fourSteps" = some 0 := by kernel_rfl
theorem tTab : (Tryd.prog.globals[0]?).map (·.type) = some 43 := by kernel_rfl
theorem door_met (os : Os) (args : Array Value) : laidMetH Tryd.prog [("coppice/crc.fourSteps", Rows.laid_coppice_crc_fourSteps)] ((World.doorLaid Tryd.prog 400 os).forCall (fun _ _ => 0) ⟨#[], args, []⟩).memory :=
  laidMetH_of_parts3 (fuel := 8) (laidMet_of_run' 8 (by kernel_rfl) (by kernel_rfl)) (by kernel_rfl) (by kernel_rfl)

theorem laid_at : ∀ i, i < 16 → ∃ xs : List (DataW Unit), Rows.laid_coppice_crc_fourSteps (H := Unit) = .agg xs ∧ xs[i]? = some (.lit (.int .u32 ((tab.getD i 0 : Nat) : Int)))
  | 0, _ => ⟨_, rfl, rfl⟩
  | 1, _ => ⟨_, rfl, rfl⟩
  | 2, _ => ⟨_, rfl, rfl⟩
  | 3, _ => ⟨_, rfl, rfl⟩
  | 4, _ => ⟨_, rfl, rfl⟩
  | 5, _ => ⟨_, rfl, rfl⟩
  | 6, _ => ⟨_, rfl, rfl⟩
  | 7, _ => ⟨_, rfl, rfl⟩
  | 8, _ => ⟨_, rfl, rfl⟩
  | 9, _ => ⟨_, rfl, rfl⟩
  | 10, _ => ⟨_, rfl, rfl⟩
  | 11, _ => ⟨_, rfl, rfl⟩
  | 12, _ => ⟨_, rfl, rfl⟩
  | 13, _ => ⟨_, rfl, rfl⟩
  | 14, _ => ⟨_, rfl, rfl⟩
  | 15, _ => ⟨_, rfl, rfl⟩
  | n + 16, h => absurd h (by omega)

theorem of_laid {W : World} (h : laidMetH Tryd.prog [("coppice/crc.fourSteps", Rows.laid_coppice_crc_fourSteps)] W) : Tab W := by
  rw [MakeChecks.laidMetH_plain _ _ _ (by kernel_rfl)] at h
  obtain ⟨ps, ⟨g0, t0, cs0, f0, p0, q0, hg0, ht0, hv0, hd0, _⟩, _, _⟩ := h
  obtain rfl := Option.some.inj (gTab.symm.trans hg0)
  obtain rfl := Option.some.inj (tTab.symm.trans ht0)
  obtain ⟨xs, m1, rfl, hx1, hlen, hn3, hel⟩ := DataW.trod_array Tryd.underlying43 hd0
  have c3 : Tryd.prog.cellsOf 29 = 1 := by kernel_rfl
  intro i hi
  have h0 := hel i hi
  rw [c3, Nat.mul_one] at h0
  obtain ⟨x, hx⟩ : ∃ x, xs[i]? = some x := ⟨_, List.getElem?_eq_getElem (by omega)⟩
  rw [hx] at h0
  obtain ⟨k, e1, e2, _⟩ := DataW.trod_int Tryd.underlying29 h0
  have hm : (xs.map (fun x => x.fst))[i]? = some (.lit (.int .u32 k)) := by rw [List.getElem?_map, hx, e2]; rfl
  obtain ⟨ys, hy, hyi⟩ := laid_at i hi
  rw [hy] at hx1
  simp only [Prod.mk.injEq, DataW.agg.injEq] at hx1
  rw [← hx1.1, hyi] at hm
  have hk : ((tab.getD i 0 : Nat) : Int) = k := by simpa using hm
  rw [hk]
  have hv := World.var?_cell hg0 hv0 i
  rw [hv]
  have e3 := congrArg (fun l => l[0]?) e1
  rw [← Array.getElem?_toList]
  simpa using e3
end Go.Proofs.YtnghkgnpbcadaabDoor
