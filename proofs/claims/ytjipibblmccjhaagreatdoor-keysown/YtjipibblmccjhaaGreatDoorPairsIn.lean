import Derived.Test.YtjipibblmccjhaaGreatDoorKeysOwnW
import Derived.ProofKit
import Derived.LaidMore
import Derived.OpenShut
import Derived.Stop.Joined
import Derived.ChangeSame
import Derived.Deep.Slices
namespace Go.Proofs.YtjipibblmccjhaaGreatDoor
open Go.ChangeShapes Go.WideShapes Go.ChangeAt Go.WideMaps Go.WideElems Go.RowKit Go.Deep

theorem door_met3 (os : Os) (args : Array Value) : laidMetH Tryz.prog [("math/bits.deBruijn32tab", Rows.laid_math_bits_deBruijn32tab), ("math/bits.deBruijn64tab", Rows.laid_math_bits_deBruijn64tab), ("internal/strconv.uint64pow10", Rows.laid_internal_strconv_uint64pow10)] ((World.doorLaid Tryz.prog 400 os).forCall (fun _ _ => 0) ⟨#[], args, []⟩).memory :=
  laidMetH_of_parts3 (fuel := 8) (laidMet_of_run' 8 (by kernel_rfl) (by kernel_rfl)) (by kernel_rfl) (by kernel_rfl)

theorem cells_bytes : Tryz.prog.cellsOf 40 = 1 := by kernel_rfl
theorem cells_pair : Tryz.prog.cellsOf 42 = 2 := by kernel_rfl
theorem cell_plain {w : World} {a : Addr} {v : Value} (h : w.cell? a = some v) : ∃ b off, a = ⟨b, off, none⟩ := by
  obtain ⟨b, off, spot⟩ := a
  have : spot = none := World.cell?_spot h
  exact ⟨b, off, by rw [this]⟩

theorem bytes_open {H : Type} {enc : TypeId × Value → H} {w : World} {base : Nat} {held : Bool} {fuel : Nat} {cs : List Value} {x : DataW H × List MemPlace}
    (h : DataW.trod enc Tryz.prog w base (fun _ => true) held fuel 40 cs = some x) : ∃ ao n c zs, cs = [.slice ao n c] ∧ Byt w ao n c zs ∧ Bt zs := by
  rcases open_ints Tryz.underlying40 Tryz.underlying5 (by kernel_rfl) h with ⟨hcs, _⟩ | ⟨x, l, c, zs, hcs, _, hl, hm, hz, _, hcell, hwz⟩
  · exact ⟨none, 0, 0, [], hcs, Byt.empty w, Bt.nil⟩
  · obtain ⟨h1, h2, _, _⟩ := byt_of_row (zs := zs) (.inr ⟨_, rfl, hl, hm, by simpa using hz, hcell, hwz⟩)
    exact ⟨_, _, _, _, hcs, h1, h2⟩

set_option maxRecDepth 100000 in
theorem pair_open {H : Type} {enc : TypeId × Value → H} {w : World} {base : Nat} {held : Bool} {fuel : Nat} {cs : List Value} {x : DataW H × List MemPlace}
    (h : DataW.trod enc Tryz.prog w base (fun _ => true) held fuel 42 cs = some x) : ∃ ao n c za bo m d zb, cs = [.slice ao n c, .slice bo m d] ∧ Byt w ao n c za ∧ Bt za ∧ Byt w bo m d zb ∧ Bt zb := by
  obtain ⟨y0, y1, n', rfl, hl, h0, h1⟩ := Go.ChangeShapes.trod_struct2 Tryz.underlying42 h
  rw [cells_pair] at hl
  obtain ⟨ao, n, c, za, e0, b0, t0⟩ := bytes_open h0
  obtain ⟨bo, m, d, zb, e1, b1, t1⟩ := bytes_open h1
  simp only [cells_bytes] at e0 e1
  match cs, hl with
  | [c0, c1], _ =>
    simp at e0 e1
    exact ⟨ao, n, c, za, bo, m, d, zb, by rw [e0, e1], b0, t0, b1, t1⟩

set_option maxRecDepth 100000 in
theorem pairs_open {H : Type} {enc : TypeId × Value → H} {w : World} {base : Nat} {held : Bool} {fuel : Nat} {a : Option Addr} {len cap : Nat} {x : DataW H × List MemPlace}
    (h : DataW.trod enc Tryz.prog w base (fun _ => true) held fuel 22 [.slice a len cap] = some x) : Pl w a len := by
  rcases open_slice Tryz.underlying22 h with ⟨hcs, _⟩ | ⟨ad, l, c, m, n, D, Pc, hcs, _, hl, hm, hmm, _, hel⟩
  · simp at hcs
    obtain ⟨rfl, rfl, rfl⟩ := hcs
    exact ⟨fun i hi => by omega⟩
  · simp at hcs
    obtain ⟨rfl, rfl, rfl⟩ := hcs
    have hlm : len ≤ m := by rw [hmm]; split <;> omega
    have each : ∀ i, i < len → ∃ ao n c za bo m d zb, w.cell? ((ad.add (i * 2)).add 0) = some (.slice ao n c) ∧ w.cell? ((ad.add (i * 2)).add 1) = some (.slice bo m d) ∧ Byt w ao n c za ∧ Bt za ∧ Byt w bo m d zb ∧ Bt zb := by
      intro i hi
      obtain ⟨cs', h1, h2⟩ := hel i (by omega)
      rw [cells_pair] at h1
      obtain ⟨ao, n2, c2, za, bo, m2, d2, zb, rfl, b0, t0, b1, t1⟩ := pair_open h2
      obtain ⟨_, _, hc⟩ := World.cells?_some h1
      exact ⟨ao, n2, c2, za, bo, m2, d2, zb, by simpa using hc 0 (by omega), by simpa using hc 1 (by omega), b0, t0, b1, t1⟩
    clear hel
    refine ⟨fun i hi => ?_⟩
    obtain ⟨b, off, rfl⟩ : ∃ b off, ad = ⟨b, off, none⟩ := by
      obtain ⟨_, _, _, _, _, _, _, _, h6, _⟩ := each 0 (by omega)
      have e' : (ad.add (0 * 2)).add 0 = ad := by simp [Addr.add]
      rw [e'] at h6
      exact cell_plain h6
    obtain ⟨ao, n2, c2, za, bo, m2, d2, zb, h3, h4, b0, t0, b1, t1⟩ := each i hi
    simp only [Addr.add_lit, Nat.add_zero] at h3 h4
    exact ⟨b, off, ao, n2, c2, za, bo, m2, d2, zb, rfl, h3, h4, b0, t0, b1, t1⟩
end Go.Proofs.YtjipibblmccjhaaGreatDoor
