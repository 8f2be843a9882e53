import Derived.Test.YtcdkkhbkicejiaaGreatDoorQ23
import Derived.ProofKit
import Derived.OpenShut
import Derived.Deep.Slices
import Derived.ChangeSame
import Derived.Laws.BitsAllLaws
namespace Go.Proofs.YtcdkkhbkicejiaaGreatDoor
open Go.ChangeShapes Go.WideShapes Go.ChangeAt Go.WideMaps Go.WideElems Go.RowKit Go.Deep
theorem cells_bytes : Tryz.prog.cellsOf 42 = 1 := by kernel_rfl
theorem cells_int : Tryz.prog.cellsOf 3 = 1 := by kernel_rfl
theorem cells_item : Tryz.prog.cellsOf 52 = 4 := by kernel_rfl
theorem cell_plain {w : World} {a : Addr} {v : Value} (h : w.cell? a = some v) : ∃ b off, a = ⟨b, off, none⟩ := by
 obtain ⟨b, off, spot⟩ := a
 have : spot = none := World.cell?_spot h
 exact ⟨b, off, by rw [this]⟩
theorem bytes_open {H : Type} {enc : TypeId × Value → H} {w : World} {base : Nat} {held : Bool} {fuel : Nat} {cs : List Value} {x : DataW H × List MemPlace}
  (h : DataW.trod enc Tryz.prog w base (fun _ => true) held fuel 42 cs = some x) : ∃ ao n c zs, cs = [.slice ao n c] ∧ Byt w ao n c zs ∧ Bt zs ∧ n ≤ c ∧ c ≤ 9223372036854775807 := by
 rcases open_ints Tryz.underlying42 Tryz.underlying5 (by kernel_rfl) h with ⟨hcs, _⟩ | ⟨x, l, c, zs, hcs, _, hl, hm, hz, _, hcell, hwz⟩
 ·exact ⟨none, 0, 0, [], hcs, Byt.empty w, Bt.nil, Nat.le_refl _, by omega⟩
 ·obtain ⟨h1, h2, h3, h4⟩ := byt_of_row (zs := zs) (.inr ⟨_, rfl, hl, hm, by simpa using hz, hcell, hwz⟩)
  exact ⟨_, _, _, _, hcs, h1, h2, h3, h4⟩
theorem list_of' {P : Nat → It → Prop} : ∀ (n : Nat), (∀ i, i < n → ∃ x, P i x) → ∃ L : List It, L.length = n ∧ ∀ i, i < n → P i (L.getD i it0)
 | 0, _ => ⟨[], rfl, fun i hi => by omega⟩
 | n + 1, h => by
  obtain ⟨L, hl, hL⟩ := list_of' n (fun i hi => h i (by omega))
  obtain ⟨z, hz⟩ := h n (by omega)
  refine ⟨L ++ [z], by simp [hl], fun i hi => ?_⟩
  by_cases hin : i < n
  ·have e : (L ++ [z]).getD i it0 = L.getD i it0 := by simp [List.getD, List.getElem?_append_left (show i < L.length by omega)]
   rw [e]; exact hL i hin
  ·have : i = n := by omega
   subst this
   have e : (L ++ [z]).getD i it0 = z := by subst hl; simp [List.getD]
   rw [e]; exact hz
theorem struct4 {H : Type} {enc : TypeId × Value → H} {P : Program} {w : World} {base : Nat} {spare : Nat → Bool} {held : Bool} {t : TypeId} {f0 f1 f2 f3 : Field} {fuel : Nat} {cs : List Value} {x : DataW H × List MemPlace} (ht : P.underlying t = some (.struct #[f0, f1, f2, f3])) (h : DataW.trod enc P w base spare held fuel t cs = some x) :
  ∃ y0 y1 y2 y3 n, cs.length = P.cellsOf t ∧ DataW.trod enc P w base spare held n f0.type ((cs.drop f0.offset).take (P.cellsOf f0.type)) = some y0 ∧ DataW.trod enc P w base spare held n f1.type ((cs.drop f1.offset).take (P.cellsOf f1.type)) = some y1 ∧
   DataW.trod enc P w base spare held n f2.type ((cs.drop f2.offset).take (P.cellsOf f2.type)) = some y2 ∧ DataW.trod enc P w base spare held n f3.type ((cs.drop f3.offset).take (P.cellsOf f3.type)) = some y3 := by
 obtain ⟨xs, n, _, rfl, hl, hlen, hf⟩ := DataW.trod_struct ht h
 match xs, hlen with
 | [y0, y1, y2, y3], _ => exact ⟨y0, y1, y2, y3, n, hl, by simpa using hf 0 f0 rfl, by simpa using hf 1 f1 rfl, by simpa using hf 2 f2 rfl, by simpa using hf 3 f3 rfl⟩
structure Ic (w : World) (ao : Option Addr) (n c : Nat) (bo : Option Addr) (m d : Nat) (x : It) : Prop where
 k : Byt w ao n c x.key
 kc : n ≤ c ∧ c ≤ 9223372036854775807
 v : Byt w bo m d x.val
 vc : m ≤ d ∧ d ≤ 9223372036854775807
 b : Itb x
set_option maxRecDepth 100000 in
theorem item_open {H : Type} {enc : TypeId × Value → H} {w : World} {base : Nat} {held : Bool} {fuel : Nat} {cs : List Value} {x : DataW H × List MemPlace}
  (h : DataW.trod enc Tryz.prog w base (fun _ => true) held fuel 52 cs = some x) : ∃ ao n c bo m d y, cs = [.slice ao n c, .slice bo m d, .int .i64 y.size, .int .i64 y.first] ∧ Ic w ao n c bo m d y := by
 obtain ⟨y0, y1, y2, y3, n', hl, h0, h1, h2, h3⟩ := struct4 Tryz.underlying52 h
 rw [cells_item] at hl
 obtain ⟨ao, n, c, za, e0, b0, t0, l0, l1⟩ := bytes_open h0
 obtain ⟨bo, m, d, zb, e1, b1, t1, m0, m1⟩ := bytes_open h1
 obtain ⟨s, e2, _, ws⟩ := DataW.trod_int Tryz.underlying3 h2
 obtain ⟨f, e3, _, wf⟩ := DataW.trod_int Tryz.underlying3 h3
 simp only [cells_bytes, cells_int] at e0 e1 e2 e3
 have hs := bounds_i64 ws
 have hf := bounds_i64 wf
 match cs, hl with
 | [c0, c1, c2, c3], _ =>
  simp at e0 e1 e2 e3
  exact ⟨ao, n, c, bo, m, d, ⟨za, zb, s, f⟩, by rw [e0, e1, e2, e3], ⟨b0, ⟨l0, l1⟩, b1, ⟨m0, m1⟩, ⟨t0, t1, by simp only; omega, by simp only; omega, by simp only; omega, by simp only; omega⟩⟩⟩
set_option maxRecDepth 100000 in
theorem items_open {H : Type} {enc : TypeId × Value → H} {w : World} {base : Nat} {held : Bool} {fuel : Nat} {a : Option Addr} {len cap : Nat} {x : DataW H × List MemPlace}
  (h : DataW.trod enc Tryz.prog w base (fun _ => true) held fuel 22 [.slice a len cap] = some x) : ∃ L, Il w a L ∧ Ib L ∧ L.length = len ∧ len ≤ cap ∧ cap ≤ 9223372036854775807 := by
 rcases open_slice Tryz.underlying22 h with ⟨hcs, _⟩ | ⟨ad, l, c, m, n, D, Pc, hcs, _, hl, hm, hmm, _, hel⟩
 ·simp at hcs
  obtain ⟨rfl, rfl, rfl⟩ := hcs
  exact ⟨[], Il.zero _ _, (fun x hx => by cases hx), rfl, Nat.le_refl _, by omega⟩
 ·simp at hcs
  obtain ⟨rfl, rfl, rfl⟩ := hcs
  have hlm : len ≤ m := by rw [hmm]; split <;> omega
  have each : ∀ i, i < len → ∃ y ao n c bo m d, w.cell? ((ad.add (i * 4)).add 0) = some (.slice ao n c) ∧ w.cell? ((ad.add (i * 4)).add 1) = some (.slice bo m d) ∧ w.cell? ((ad.add (i * 4)).add 2) = some (.int .i64 y.size) ∧ w.cell? ((ad.add (i * 4)).add 3) = some (.int .i64 y.first) ∧ Ic w ao n c bo m d y := by
   intro i hi
   obtain ⟨cs', h1, h2⟩ := hel i (by omega)
   rw [cells_item] at h1
   obtain ⟨ao, n2, c2, bo, m2, d2, y, rfl, hic⟩ := item_open h2
   obtain ⟨_, _, hc⟩ := World.cells?_some h1
   exact ⟨y, ao, n2, c2, bo, m2, d2, by simpa using hc 0 (by omega), by simpa using hc 1 (by omega), by simpa using hc 2 (by omega), by simpa using hc 3 (by omega), hic⟩
  clear hel
  obtain ⟨L, hLl, hL⟩ := list_of' len each
  refine ⟨L, ⟨fun i hi => ?_⟩, fun x hx => ?_, hLl, hl, by unfold maxLen at hm; omega⟩
  ·obtain ⟨b, off, rfl⟩ : ∃ b off, ad = ⟨b, off, none⟩ := by
    obtain ⟨_, _, _, _, _, _, _, h6, _⟩ := each 0 (by omega)
    have e' : (ad.add (0 * 4)).add 0 = ad := by simp [Addr.add]
    rw [e'] at h6
    exact cell_plain h6
   obtain ⟨ao, n2, c2, bo, m2, d2, h3, h4, h5, h6, hic⟩ := hL i (by omega)
   simp only [Addr.add_lit, Nat.add_zero] at h3 h4 h5 h6
   exact ⟨b, off, ao, n2, c2, bo, m2, d2, rfl, h3, h4, h5, h6, hic.k, hic.kc.1, hic.kc.2, hic.v, hic.vc.1, hic.vc.2⟩
  ·obtain ⟨j, hj, rfl⟩ := List.getElem_of_mem hx
   obtain ⟨_, _, _, _, _, _, _, _, _, _, hic⟩ := hL j (by omega)
   have := hic.b
   simpa [List.getD, List.getElem?_eq_getElem hj] using this
end Go.Proofs.YtcdkkhbkicejiaaGreatDoor
namespace Go.Proofs.YtcdkkhbkicejiaaGreatDoor
open Go.RowKit
theorem Rw.set {w : World} {g : Nat} {zs : List Int} (h : Rw w g zs) (j : Nat) (z : Int) : Rw (w.setCell ⟨g, j, none⟩ (.int .u8 z)) g (zs.set j z) := by
 unfold Rw
 rw [heap_setCell_same w g j _ _ (.int .u8 z) h]
 simp [List.map_set]
end Go.Proofs.YtcdkkhbkicejiaaGreatDoor
