import Derived.Test.YthodgddoolbenaaGreatDoorQ32
import Derived.ProofKit
import Derived.LaidMore
import Derived.OpenShut
import Derived.Stop.Joined
import Derived.ChangeSame
import Derived.Deep.Slices
namespace Go.Proofs.YthodgddoolbenaaGreatDoor
open Go.ChangeShapes Go.WideShapes Go.ChangeAt Go.WideMaps Go.WideElems Go.RowKit Go.Deep
theorem cells_bytesD : Tryz.prog.cellsOf 49 = 1 := by kernel_rfl
theorem cells_pairD : Tryz.prog.cellsOf 54 = 2 := by kernel_rfl
theorem cell_plainD {w : World} {a : Addr} {v : Value} (h : w.cell? a = some v) : ∃ b off, a = ⟨b, off, none⟩ := by
 obtain ⟨b, off, spot⟩ := a
 have : spot = none := World.cell?_spot h
 exact ⟨b, off, by rw [this]⟩
theorem bytes_openD {H : Type} {enc : TypeId × Value → H} {w : World} {base : Nat} {held : Bool} {fuel : Nat} {cs : List Value} {x : DataW H × List MemPlace}
  (h : DataW.trod enc Tryz.prog w base (fun _ => true) held fuel 49 cs = some x) : ∃ ao n c zs, cs = [.slice ao n c] ∧ Byt w ao n c zs ∧ Bt zs := by
 rcases open_ints Tryz.underlying49 Tryz.underlying5 (by kernel_rfl) h with ⟨hcs, _⟩ | ⟨x, l, c, zs, hcs, _, hl, hm, hz, _, hcell, hwz⟩
 ·exact ⟨none, 0, 0, [], hcs, Byt.empty w, Bt.nil⟩
 ·obtain ⟨h1, h2, _, _⟩ := byt_of_row (zs := zs) (.inr ⟨_, rfl, hl, hm, by simpa using hz, hcell, hwz⟩)
  exact ⟨_, _, _, _, hcs, h1, h2⟩
set_option maxRecDepth 100000 in
theorem pair_openD {H : Type} {enc : TypeId × Value → H} {w : World} {base : Nat} {held : Bool} {fuel : Nat} {cs : List Value} {x : DataW H × List MemPlace}
  (h : DataW.trod enc Tryz.prog w base (fun _ => true) held fuel 54 cs = some x) : ∃ ao n c za bo m d zb, cs = [.slice ao n c, .slice bo m d] ∧ Byt w ao n c za ∧ Bt za ∧ Byt w bo m d zb ∧ Bt zb := by
 obtain ⟨y0, y1, n', rfl, hl, h0, h1⟩ := Go.ChangeShapes.trod_struct2 Tryz.underlying54 h
 rw [cells_pairD] at hl
 obtain ⟨ao, n, c, za, e0, b0, t0⟩ := bytes_openD h0
 obtain ⟨bo, m, d, zb, e1, b1, t1⟩ := bytes_openD h1
 simp only [cells_bytesD] at e0 e1
 match cs, hl with
 | [c0, c1], _ =>
  simp at e0 e1
  exact ⟨ao, n, c, za, bo, m, d, zb, by rw [e0, e1], b0, t0, b1, t1⟩
theorem list_ofD {T : Type} (d : T) {P : Nat → T → Prop} : ∀ (n : Nat), (∀ i, i < n → ∃ x, P i x) → ∃ L : List T, L.length = n ∧ ∀ i, i < n → P i (L.getD i d)
 | 0, _ => ⟨[], rfl, fun i hi => by omega⟩
 | n + 1, h => by
  obtain ⟨L, hl, hL⟩ := list_ofD d n (fun i hi => h i (by omega))
  obtain ⟨z, hz⟩ := h n (by omega)
  refine ⟨L ++ [z], by simp [hl], fun i hi => ?_⟩
  by_cases hin : i < n
  ·have e : (L ++ [z]).getD i d = L.getD i d := by simp [List.getD, List.getElem?_append_left (show i < L.length by omega)]
   rw [e]; exact hL i hin
  ·have : i = n := by omega
   subst this
   have e : (L ++ [z]).getD i d = z := by subst hl; simp [List.getD]
   rw [e]; exact hz
set_option maxRecDepth 100000 in
theorem pairs_openD {H : Type} {enc : TypeId × Value → H} {w : World} {base : Nat} {held : Bool} {fuel : Nat} {a : Option Addr} {len cap : Nat} {x : DataW H × List MemPlace}
  (h : DataW.trod enc Tryz.prog w base (fun _ => true) held fuel 22 [.slice a len cap] = some x) : ∃ l, Pm w a l ∧ l.length = len ∧ len ≤ cap ∧ cap ≤ 9223372036854775807 := by
 rcases open_slice Tryz.underlying22 h with ⟨hcs, _⟩ | ⟨ad, l, c, m, n, D, Pc, hcs, _, hl, hm, hmm, _, hel⟩
 ·simp at hcs
  obtain ⟨rfl, rfl, rfl⟩ := hcs
  exact ⟨[], Pm.nil _ _, rfl, Nat.le_refl _, by omega⟩
 ·simp at hcs
  obtain ⟨rfl, rfl, rfl⟩ := hcs
  have hlm : len ≤ m := by rw [hmm]; split <;> omega
  have each : ∀ i, i < len → ∃ ao n c za bo m d zb, w.cell? ((ad.add (i * 2)).add 0) = some (.slice ao n c) ∧ w.cell? ((ad.add (i * 2)).add 1) = some (.slice bo m d) ∧ Byt w ao n c za ∧ Bt za ∧ Byt w bo m d zb ∧ Bt zb := by
   intro i hi
   obtain ⟨cs', h1, h2⟩ := hel i (by omega)
   rw [cells_pairD] at h1
   obtain ⟨ao, n2, c2, za, bo, m2, d2, zb, rfl, b0, t0, b1, t1⟩ := pair_openD h2
   obtain ⟨_, _, hc⟩ := World.cells?_some h1
   exact ⟨ao, n2, c2, za, bo, m2, d2, zb, by simpa using hc 0 (by omega), by simpa using hc 1 (by omega), b0, t0, b1, t1⟩
  clear hel
  have each2 : ∀ i, i < len → ∃ p : Pq, ∃ b off ao c bo d, ad = ⟨b, off, none⟩ ∧ w.cell? ⟨b, off + i * 2, none⟩ = some (.slice ao p.1.length c) ∧ w.cell? ⟨b, off + i * 2 + 1, none⟩ = some (.slice bo p.2.length d) ∧ Byt w ao p.1.length c p.1 ∧ Bt p.1 ∧ Byt w bo p.2.length d p.2 ∧ Bt p.2 := by
   intro i hi
   obtain ⟨b, off, e⟩ : ∃ b off, ad = ⟨b, off, none⟩ := by
    obtain ⟨_, _, _, _, _, _, _, _, h6, _⟩ := each 0 (by omega)
    have e' : (ad.add (0 * 2)).add 0 = ad := by simp [Addr.add]
    rw [e'] at h6
    exact cell_plainD h6
   subst e
   obtain ⟨ao, n2, c2, za, bo, m2, d2, zb, h3, h4, b0, t0, b1, t1⟩ := each i hi
   simp only [Addr.add_lit, Nat.add_zero] at h3 h4
   have l0 := b0.len
   have l1 := b1.len
   subst l0 l1
   exact ⟨(za, zb), b, off, ao, c2, bo, d2, rfl, h3, h4, b0, t0, b1, t1⟩
  obtain ⟨L, hL, hP⟩ := list_ofD ([], []) len each2
  refine ⟨L, ⟨fun i p hp => ?_⟩, hL, hl, by unfold maxLen at hm; omega⟩
  obtain ⟨hi, e⟩ := List.getElem?_eq_some_iff.1 hp
  obtain ⟨b, off, ao, c, bo, d, h1, h2⟩ := hP i (by omega)
  have e2 : L.getD i ([], []) = p := by simp [List.getD, hp]
  rw [e2] at h2
  exact ⟨b, off, ao, c, bo, d, by rw [h1], h2⟩
end Go.Proofs.YthodgddoolbenaaGreatDoor
