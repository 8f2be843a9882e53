import Derived.Test.YtoakngmagoilnaaQ15
import Derived.ProofKit
import Derived.OpenShut
import Derived.Deep.Slices
import Derived.ChangeSame
import Derived.Laws.BitsAllLaws
namespace Go.Proofs.Ytoakngmagoilnaa
open Go.ChangeShapes Go.WideShapes Go.ChangeAt Go.WideMaps Go.WideElems Go.RowKit Go.Deep
theorem cells_bytes : Try.prog.cellsOf 26 = 1 := by kernel_rfl
theorem cells_int : Try.prog.cellsOf 3 = 1 := by kernel_rfl
theorem cells_item : Try.prog.cellsOf 28 = 4 := by kernel_rfl
theorem cell_plain {w : World} {a : Addr} {v : Value} (h : w.cell? a = some v) : ∃ b off, a = ⟨b, off, none⟩ := by
 obtain ⟨b, off, spot⟩ := a
 have : spot = none := World.cell?_spot h
 exact ⟨b, off, by rw [this]⟩
theorem list_of' {P : Nat → It → Prop} : ∀ (n : Nat), (∀ i, i < n → ∃ x, P i x) → ∃ L : List It, L.length = n ∧ ∀ i, i < n → P i (L.getD i it0)
 | 0, _ => ⟨[], rfl, fun i hi => by omega⟩
 | n + 1, h => by
  obtain ⟨L, hl, hL⟩ := list_of' n (fun i hi => h i (by omega))
  obtain ⟨z, hz⟩ := h n (by omega)
  refine ⟨L ++ [z], by simp [hl], fun i hi => ?_⟩
  by_cases hin : i < n
  ·have e : (L ++ [z]).getD i it0 = L.getD i it0 := by simp [List.getD, List.getElem?_append_left (show i < L.length by omega)]
   rw [e]; exact hL i hin
  ·have : i = n := by omega
   subst this
   have e : (L ++ [z]).getD i it0 = z := by subst hl; simp [List.getD]
   rw [e]; exact hz
structure Ic (w : World) (ao : Option Addr) (n c : Nat) (bo : Option Addr) (m d : Nat) (x : It) : Prop where
 k : Byt w ao n c x.key
 kc : n ≤ c ∧ c ≤ 9223372036854775807
 v : Byt w bo m d x.val
 vc : m ≤ d ∧ d ≤ 9223372036854775807
 b : Itb x
end Go.Proofs.Ytoakngmagoilnaa
namespace Go.Proofs.Ytoakngmagoilnaa
open Go.RowKit
theorem Rw.set {w : World} {g : Nat} {zs : List Int} (h : Rw w g zs) (j : Nat) (z : Int) : Rw (w.setCell ⟨g, j, none⟩ (.int .u8 z)) g (zs.set j z) := by
 unfold Rw
 rw [heap_setCell_same w g j _ _ (.int .u8 z) h]
 simp [List.map_set]
end Go.Proofs.Ytoakngmagoilnaa
