import Derived.Test.YtedpeggdbedmiaaGreatDoorQ27
import Derived.ProofKit
import Derived.OpenShut
import Derived.Deep.Slices
import Derived.ChangeSame
namespace Go.Proofs.YtedpeggdbedmiaaGreatDoor
open Go.ChangeShapes Go.WideShapes Go.ChangeAt Go.WideMaps Go.WideElems Go.RowKit Go.Deep
theorem cells_int12 : Tryz.prog.cellsOf 3 = 1 := by kernel_rfl
theorem cells_u812 : Tryz.prog.cellsOf 5 = 1 := by kernel_rfl
theorem cells_put12 : Tryz.prog.cellsOf 46 = 2 := by kernel_rfl
theorem cell_plain12 {w : World} {a : Addr} {v : Value} (h : w.cell? a = some v) : ∃ b off, a = ⟨b, off, none⟩ := by
 obtain ⟨b, off, spot⟩ := a
 have : spot = none := World.cell?_spot h
 exact ⟨b, off, by rw [this]⟩
theorem struct212 {H : Type} {enc : TypeId × Value → H} {P : Program} {w : World} {base : Nat} {spare : Nat → Bool} {held : Bool} {t : TypeId} {f0 f1 : Field} {fuel : Nat} {cs : List Value} {x : DataW H × List MemPlace} (ht : P.underlying t = some (.struct #[f0, f1])) (h : DataW.trod enc P w base spare held fuel t cs = some x) :
  ∃ y0 y1 n, cs.length = P.cellsOf t ∧ DataW.trod enc P w base spare held n f0.type ((cs.drop f0.offset).take (P.cellsOf f0.type)) = some y0 ∧ DataW.trod enc P w base spare held n f1.type ((cs.drop f1.offset).take (P.cellsOf f1.type)) = some y1 := by
 obtain ⟨xs, n, _, rfl, hl, hlen, hf⟩ := DataW.trod_struct ht h
 match xs, hlen with
 | [y0, y1], _ => exact ⟨y0, y1, n, hl, by simpa using hf 0 f0 rfl, by simpa using hf 1 f1 rfl⟩
structure Bls (w : World) (a : Option Addr) (n : Nat) : Prop where
 row : ∀ j, j < n → ∃ b off v, a = some ⟨b, off, none⟩ ∧ b < w.heap.size ∧ w.cell? ⟨b, off + j, none⟩ = some (.bool v)
theorem Bls.kept {w w' : World} {a : Option Addr} {n : Nat} {row : Option Nat} (h : Bls w a n) (hg : w.grownBy w' row) (hr : ∀ k, row = some k → w.heap.size ≤ k) : Bls w' a n := by
 refine ⟨fun j hj => ?_⟩
 obtain ⟨b, off, v, e, hb, hc⟩ := h.row j hj
 exact ⟨b, off, v, e, Nat.lt_of_lt_of_le hb hg.size, hg.cell hc (fun e' => by have := hr b e'.symm; omega)⟩
structure Pus (w : World) (a : Option Addr) (n : Nat) : Prop where
 row : ∀ j, j < n → ∃ b off i x, a = some ⟨b, off, none⟩ ∧ b < w.heap.size ∧ w.cell? ⟨b, off + j * 2, none⟩ = some (.int .i64 i) ∧ w.cell? ⟨b, off + j * 2 + 1, none⟩ = some (.int .u8 x) ∧ (-9223372036854775808 ≤ i ∧ i ≤ 9223372036854775807) ∧ 0 ≤ x ∧ x ≤ 255
theorem Pus.kept {w w' : World} {a : Option Addr} {n : Nat} {row : Option Nat} (h : Pus w a n) (hg : w.grownBy w' row) (hr : ∀ k, row = some k → w.heap.size ≤ k) : Pus w' a n := by
 refine ⟨fun j hj => ?_⟩
 obtain ⟨b, off, i, x, e, hb, h1, h2, h3⟩ := h.row j hj
 exact ⟨b, off, i, x, e, Nat.lt_of_lt_of_le hb hg.size, hg.cell h1 (fun e' => by have := hr b e'.symm; omega), hg.cell h2 (fun e' => by have := hr b e'.symm; omega), h3⟩
set_option maxRecDepth 100000 in
theorem puts_open {H : Type} {enc : TypeId × Value → H} {w : World} {base : Nat} {held : Bool} {fuel : Nat} {a : Option Addr} {len cap : Nat} {x : DataW H × List MemPlace}
  (h : DataW.trod enc Tryz.prog w base (fun _ => true) held fuel 22 [.slice a len cap] = some x) : Pus w a len ∧ len ≤ cap ∧ cap ≤ 9223372036854775807 := by
 rcases open_slice Tryz.underlying22 h with ⟨hcs, _⟩ | ⟨ad, l, c, m, n, D, Pc, hcs, _, hl, hm, hmm, _, hel⟩
 ·simp at hcs
  obtain ⟨rfl, rfl, rfl⟩ := hcs
  exact ⟨⟨fun j hj => by omega⟩, Nat.le_refl _, by omega⟩
 ·simp at hcs
  obtain ⟨rfl, rfl, rfl⟩ := hcs
  have hlm : len ≤ m := by rw [hmm]; split <;> omega
  have each : ∀ i, i < len → ∃ y z, w.cell? ((ad.add (i * 2)).add 0) = some (.int .i64 y) ∧ w.cell? ((ad.add (i * 2)).add 1) = some (.int .u8 z) ∧ (-9223372036854775808 ≤ y ∧ y ≤ 9223372036854775807) ∧ 0 ≤ z ∧ z ≤ 255 := by
   intro i hi
   obtain ⟨cs', h1, h2⟩ := hel i (by omega)
   rw [cells_put12] at h1
   obtain ⟨y0, y1, n', hl', k0, k1⟩ := struct212 Tryz.underlying46 h2
   rw [cells_put12] at hl'
   obtain ⟨s, e2, _, ws⟩ := DataW.trod_int Tryz.underlying3 k0
   obtain ⟨f, e3, _, wf⟩ := DataW.trod_int Tryz.underlying5 k1
   simp only [cells_int12, cells_u812] at e2 e3
   have hs := bounds_i64 ws
   have hf := bounds_u8 wf
   obtain ⟨_, _, hc⟩ := World.cells?_some h1
   match cs', hl' with
   | [c0, c1], _ =>
    simp at e2 e3
    have a0 := hc 0 (by omega)
    have a1 := hc 1 (by omega)
    simp only [List.getElem?_cons_zero, List.getElem?_cons_succ] at a0 a1
    exact ⟨s, f, by rw [a0, e2], by rw [a1, e3], by omega, by omega, by omega⟩
  refine ⟨⟨fun i hi => ?_⟩, hl, by unfold maxLen at hm; omega⟩
  obtain ⟨b, off, rfl⟩ : ∃ b off, ad = ⟨b, off, none⟩ := by
   obtain ⟨_, _, h6, _⟩ := each 0 (by omega)
   have e' : (ad.add (0 * 2)).add 0 = ad := by simp [Addr.add]
   rw [e'] at h6
   exact cell_plain12 h6
  obtain ⟨y, z, h3, h4, h5, h6⟩ := each i hi
  simp only [Addr.add_lit, Nat.add_zero] at h3 h4
  exact ⟨b, off, y, z, rfl, World.block_lt_of_cell? _ _ h3, h3, h4, h5, h6⟩
end Go.Proofs.YtedpeggdbedmiaaGreatDoor
