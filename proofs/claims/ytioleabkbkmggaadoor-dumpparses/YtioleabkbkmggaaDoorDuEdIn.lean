import Derived.Test.YtioleabkbkmggaaDoorDuV
import Derived.Test.YtioleabkbkmggaaDoorDuIn
import Derived.Deep.Strs
namespace Go.Proofs.YtioleabkbkmggaaDoor
open Go.ChangeShapes Go.WideShapes Go.ChangeAt Go.WideMaps Go.WideElems Go.RowKit Go.Deep

theorem cells_edit20 : Tryd.prog.cellsOf 70 = 3 := by kernel_rfl
theorem cells_int20 : Tryd.prog.cellsOf 3 = 1 := by kernel_rfl
theorem cells_str20 : Tryd.prog.cellsOf 9 = 1 := by kernel_rfl
set_option maxRecDepth 100000 in
theorem edit_open20 {H : Type} {enc : TypeId × Value → H} {w : World} {base : Nat} {held : Bool} {fuel : Nat} {cs : List Value} {x : DataW H × List MemPlace}
    (h : DataW.trod enc Tryd.prog w base (fun _ => true) held fuel 70 cs = some x) : ∃ (a b : Int) (s : ByteArray), cs = [.int .i64 a, .int .i64 b, .string s] := by
  obtain ⟨y0, y1, y2, n', rfl, hl, h0, h1, h2⟩ := trod_struct3 Tryd.underlying70 h
  rw [cells_edit20] at hl
  obtain ⟨k, e0, _, _⟩ := DataW.trod_int Tryd.underlying3 h0
  obtain ⟨m, e1, _, _⟩ := DataW.trod_int Tryd.underlying3 h1
  obtain ⟨s, e2, _, _⟩ := DataW.trod_string Tryd.underlying9 h2
  simp only [cells_int20, cells_str20] at e0 e1 e2
  match cs, hl with
  | [c0, c1, c2], _ =>
    simp at e0 e1 e2
    exact ⟨k, m, s, by rw [e0, e1, e2]⟩
set_option maxRecDepth 100000 in
/-- A list of edits that came in. -/
theorem edits_openD {H : Type} {enc : TypeId × Value → H} {w : World} {base : Nat} {held : Bool} {fuel : Nat} {a : Option Addr} {len cap : Nat} {x : DataW H × List MemPlace}
    (h : DataW.trod enc Tryd.prog w base (fun _ => true) held fuel 46 [.slice a len cap] = some x) : ∃ l, Edm w a l ∧ l.length = len ∧ len ≤ cap ∧ cap ≤ 9223372036854775807 := by
  rcases open_slice Tryd.underlying46 h with ⟨hcs, _⟩ | ⟨ad, l, c, m, n, D, Pc, hcs, _, hl, hm, hmm, _, hel⟩
  · simp at hcs
    obtain ⟨rfl, rfl, rfl⟩ := hcs
    exact ⟨[], ⟨fun i e he => by simp at he⟩, rfl, Nat.le_refl _, by omega⟩
  · simp at hcs
    obtain ⟨rfl, rfl, rfl⟩ := hcs
    have hlm : len ≤ m := by rw [hmm]; split <;> omega
    have each : ∀ i, i < len → ∃ e : Int × Int × ByteArray, w.cell? ((ad.add (i * 3)).add 0) = some (.int .i64 e.1) ∧ w.cell? ((ad.add (i * 3)).add 1) = some (.int .i64 e.2.1) ∧ w.cell? ((ad.add (i * 3)).add 2) = some (.string e.2.2) := by
      intro i hi
      obtain ⟨cs', h1, h2⟩ := hel i (by omega)
      rw [cells_edit20] at h1
      obtain ⟨k, n2, s, rfl⟩ := edit_open20 h2
      obtain ⟨_, _, hc⟩ := World.cells?_some h1
      exact ⟨(k, n2, s), by simpa using hc 0 (by omega), by simpa using hc 1 (by omega), by simpa using hc 2 (by omega)⟩
    clear hel
    have each2 : ∀ i, i < len → ∃ e : Int × Int × ByteArray, ∃ b off, ad = ⟨b, off, none⟩ ∧ w.cell? ⟨b, off + i * 3, none⟩ = some (.int .i64 e.1) ∧ w.cell? ⟨b, off + i * 3 + 1, none⟩ = some (.int .i64 e.2.1) ∧ w.cell? ⟨b, off + i * 3 + 2, none⟩ = some (.string e.2.2) := by
      intro i hi
      obtain ⟨b, off, e⟩ : ∃ b off, ad = ⟨b, off, none⟩ := by
        obtain ⟨_, h6, _⟩ := each 0 (by omega)
        have e' : (ad.add (0 * 3)).add 0 = ad := by simp [Addr.add]
        rw [e'] at h6
        exact cell_plainD h6
      subst e
      obtain ⟨q, h3, h4, h5⟩ := each i hi
      simp only [Addr.add_lit, Nat.add_zero] at h3 h4 h5
      exact ⟨q, b, off, rfl, h3, h4, h5⟩
    obtain ⟨L, hL, hP⟩ := list_ofD (0, 0, ByteArray.empty) len each2
    refine ⟨L, ⟨fun i p hp => ?_⟩, hL, hl, by unfold maxLen at hm; omega⟩
    obtain ⟨hi, e⟩ := List.getElem?_eq_some_iff.1 hp
    obtain ⟨b, off, h1, h2⟩ := hP i (by omega)
    have e2 : L.getD i (0, 0, ByteArray.empty) = p := by simp [List.getD, hp]
    rw [e2] at h2
    exact ⟨b, off, by rw [h1], h2⟩
end Go.Proofs.YtioleabkbkmggaaDoor
