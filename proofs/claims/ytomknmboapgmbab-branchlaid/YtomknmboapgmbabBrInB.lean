import Derived.Test.YtomknmboapgmbabBrIn
namespace Go.Proofs.Ytomknmboapgmbab
open Go.ChangeShapes Go.WideShapes Go.ChangeAt Go.WideMaps Go.WideElems Go.RowKit Go.Deep

/-- A list of marks. -/
structure Bls (w : World) (a : Option Addr) (n : Nat) : Prop where
  row : ∀ j, j < n → ∃ b off v, a = some ⟨b, off, none⟩ ∧ w.cell? ⟨b, off + j, none⟩ = some (.bool v)

theorem cells_bool : Try.prog.cellsOf 4 = 1 := by kernel_rfl
set_option maxRecDepth 100000 in
theorem bools_open {H : Type} {enc : TypeId × Value → H} {w : World} {base : Nat} {held : Bool} {fuel : Nat} {a : Option Addr} {len cap : Nat} {x : DataW H × List MemPlace}
    (h : DataW.trod enc Try.prog w base (fun _ => true) held fuel 35 [.slice a len cap] = some x) : Bls w a len ∧ len ≤ cap ∧ cap ≤ 9223372036854775807 := by
  rcases open_slice Try.underlying35 h with ⟨hcs, _⟩ | ⟨ad, l, c, m, n, D, Pc, hcs, _, hl, hm, hmm, _, hel⟩
  · simp at hcs
    obtain ⟨rfl, rfl, rfl⟩ := hcs
    exact ⟨⟨fun j hj => by omega⟩, Nat.le_refl _, by omega⟩
  · simp at hcs
    obtain ⟨rfl, rfl, rfl⟩ := hcs
    have hlm : len ≤ m := by rw [hmm]; split <;> omega
    have each : ∀ i, i < len → ∃ v, w.cell? ((ad.add (i * 1)).add 0) = some (.bool v) := by
      intro i hi
      obtain ⟨cs', h1, h2⟩ := hel i (by omega)
      rw [cells_bool] at h1
      obtain ⟨v, e, _⟩ := DataW.trod_bool Try.underlying4 h2
      obtain ⟨_, _, hc⟩ := World.cells?_some h1
      subst e
      exact ⟨v, by simpa using hc 0 (by omega)⟩
    refine ⟨⟨fun i hi => ?_⟩, hl, by unfold maxLen at hm; omega⟩
    obtain ⟨b, off, rfl⟩ : ∃ b off, ad = ⟨b, off, none⟩ := by
      obtain ⟨_, h6⟩ := each 0 (by omega)
      have e' : (ad.add (0 * 1)).add 0 = ad := by simp [Addr.add]
      rw [e'] at h6
      exact cell_plain h6
    obtain ⟨v, h3⟩ := each i hi
    simp only [Addr.add_lit, Nat.add_zero, Nat.mul_one] at h3
    exact ⟨b, off, v, rfl, h3⟩

end Go.Proofs.Ytomknmboapgmbab
