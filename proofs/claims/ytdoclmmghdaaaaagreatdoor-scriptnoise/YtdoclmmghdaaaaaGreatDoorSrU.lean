import Derived.Test.YtdoclmmghdaaaaaGreatDoorSrB
import Derived.Test.YtdoclmmghdaaaaaGreatDoorDuIn
import Derived.Deep.Strs
namespace Go.Proofs.YtdoclmmghdaaaaaGreatDoor
open Go.ChangeShapes Go.WideShapes Go.ChangeAt Go.WideMaps Go.WideElems Go.RowKit Go.Deep

theorem cells_noise23 : Tryz.prog.cellsOf 45 = 2 := by kernel_rfl
theorem cells_int23 : Tryz.prog.cellsOf 3 = 1 := by kernel_rfl
set_option maxRecDepth 100000 in
theorem noise_open23 {H : Type} {enc : TypeId × Value → H} {w : World} {base : Nat} {held : Bool} {fuel : Nat} {cs : List Value} {x : DataW H × List MemPlace}
    (h : DataW.trod enc Tryz.prog w base (fun _ => true) held fuel 45 cs = some x) : ∃ (a b : Int), cs = [.int .i64 a, .int .i64 b] := by
  obtain ⟨y0, y1, n', rfl, hl, h0, h1⟩ := trod_struct2 Tryz.underlying45 h
  rw [cells_noise23] at hl
  obtain ⟨k, e0, _, _⟩ := DataW.trod_int Tryz.underlying3 h0
  obtain ⟨m, e1, _, _⟩ := DataW.trod_int Tryz.underlying3 h1
  simp only [cells_int23] at e0 e1
  match cs, hl with
  | [c0, c1], _ =>
    simp at e0 e1
    exact ⟨k, m, by rw [e0, e1]⟩
set_option maxRecDepth 100000 in
/-- A list of noises that came in. -/
theorem noises_open {H : Type} {enc : TypeId × Value → H} {w : World} {base : Nat} {held : Bool} {fuel : Nat} {a : Option Addr} {len cap : Nat} {x : DataW H × List MemPlace}
    (h : DataW.trod enc Tryz.prog w base (fun _ => true) held fuel 39 [.slice a len cap] = some x) : ∃ l, FtR w a l ∧ l.length = len ∧ len ≤ cap ∧ cap ≤ 9223372036854775807 := by
  rcases open_slice Tryz.underlying39 h with ⟨hcs, _⟩ | ⟨ad, l, c, m, n, D, Pc, hcs, _, hl, hm, hmm, _, hel⟩
  · simp at hcs
    obtain ⟨rfl, rfl, rfl⟩ := hcs
    exact ⟨[], fun i e he => by simp at he, rfl, Nat.le_refl _, by omega⟩
  · simp at hcs
    obtain ⟨rfl, rfl, rfl⟩ := hcs
    have hlm : len ≤ m := by rw [hmm]; split <;> omega
    have each : ∀ i, i < len → ∃ e : Int × Int, w.cell? ((ad.add (i * 2)).add 0) = some (.int .i64 e.1) ∧ w.cell? ((ad.add (i * 2)).add 1) = some (.int .i64 e.2) := by
      intro i hi
      obtain ⟨cs', h1, h2⟩ := hel i (by omega)
      rw [cells_noise23] at h1
      obtain ⟨k, n2, rfl⟩ := noise_open23 h2
      obtain ⟨_, _, hc⟩ := World.cells?_some h1
      exact ⟨(k, n2), by simpa using hc 0 (by omega), by simpa using hc 1 (by omega)⟩
    clear hel
    have each2 : ∀ i, i < len → ∃ e : Int × Int, ∃ b off, ad = ⟨b, off, none⟩ ∧ w.cell? ⟨b, off + i * 2, none⟩ = some (.int .i64 e.1) ∧ w.cell? ⟨b, off + i * 2 + 1, none⟩ = some (.int .i64 e.2) := by
      intro i hi
      obtain ⟨b, off, e⟩ : ∃ b off, ad = ⟨b, off, none⟩ := by
        obtain ⟨_, h6, _⟩ := each 0 (by omega)
        have e' : (ad.add (0 * 2)).add 0 = ad := by simp [Addr.add]
        rw [e'] at h6
        exact cell_plainD h6
      subst e
      obtain ⟨q, h3, h4⟩ := each i hi
      simp only [Addr.add_lit, Nat.add_zero] at h3 h4
      exact ⟨q, b, off, rfl, h3, h4⟩
    obtain ⟨L, hL, hP⟩ := list_ofD (0, 0) len each2
    refine ⟨L, fun i p hp => ?_, hL, hl, by unfold maxLen at hm; omega⟩
    obtain ⟨hi, e⟩ := List.getElem?_eq_some_iff.1 hp
    obtain ⟨b, off, h1, h2⟩ := hP i (by omega)
    have e2 : L.getD i (0, 0) = p := by simp [List.getD, hp]
    rw [e2] at h2
    exact ⟨b, off, by rw [h1], h2⟩
end Go.Proofs.YtdoclmmghdaaaaaGreatDoor
