import Derived.Test.YtcjgmiilfjjbcaaGreatDoorDuG
import Derived.ProofKit
import Derived.LaidMore
import Derived.OpenShut
import Derived.Stop.Joined
import Derived.ChangeSame
import Derived.Deep.Slices
namespace Go.Proofs.YtcjgmiilfjjbcaaGreatDoor
open Go.ChangeShapes Go.WideShapes Go.ChangeAt Go.WideMaps Go.WideElems Go.RowKit Go.Deep

theorem cells_bytesD : Tryz.prog.cellsOf 32 = 1 := by kernel_rfl
theorem cell_plainD {w : World} {a : Addr} {v : Value} (h : w.cell? a = some v) : ∃ b off, a = ⟨b, off, none⟩ := by
  obtain ⟨b, off, spot⟩ := a
  have : spot = none := World.cell?_spot h
  exact ⟨b, off, by rw [this]⟩

theorem bytes_openD {H : Type} {enc : TypeId × Value → H} {w : World} {base : Nat} {held : Bool} {fuel : Nat} {cs : List Value} {x : DataW H × List MemPlace}
    (h : DataW.trod enc Tryz.prog w base (fun _ => true) held fuel 32 cs = some x) : ∃ ao n c zs, cs = [.slice ao n c] ∧ Byt w ao n c zs ∧ Bt zs := by
  rcases open_ints Tryz.underlying32 Tryz.underlying5 (by kernel_rfl) h with ⟨hcs, _⟩ | ⟨x, l, c, zs, hcs, _, hl, hm, hz, _, hcell, hwz⟩
  · exact ⟨none, 0, 0, [], hcs, Byt.empty w, Bt.nil⟩
  · obtain ⟨h1, h2, _, _⟩ := byt_of_row (zs := zs) (.inr ⟨_, rfl, hl, hm, by simpa using hz, hcell, hwz⟩)
    exact ⟨_, _, _, _, hcs, h1, h2⟩

theorem list_ofD {T : Type} (d : T) {P : Nat → T → Prop} : ∀ (n : Nat), (∀ i, i < n → ∃ x, P i x) → ∃ L : List T, L.length = n ∧ ∀ i, i < n → P i (L.getD i d)
  | 0, _ => ⟨[], rfl, fun i hi => by omega⟩
  | n + 1, h => by
    obtain ⟨L, hl, hL⟩ := list_ofD d n (fun i hi => h i (by omega))
    obtain ⟨z, hz⟩ := h n (by omega)
    refine ⟨L ++ [z], by simp [hl], fun i hi => ?_⟩
    by_cases hin : i < n
    · have e : (L ++ [z]).getD i d = L.getD i d := by simp [List.getD, List.getElem?_append_left (show i < L.length by omega)]
      rw [e]; exact hL i hin
    · have : i = n := by omega
      subst this
      have e : (L ++ [z]).getD i d = z := by subst hl; simp [List.getD]
      rw [e]; exact hz
end Go.Proofs.YtcjgmiilfjjbcaaGreatDoor
