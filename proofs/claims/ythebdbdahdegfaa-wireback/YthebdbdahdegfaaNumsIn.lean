import Derived.Test.YthebdbdahdegfaaBack0
import Derived.Test.YthebdbdahdegfaaBack1
import Derived.Test.YthebdbdahdegfaaBack2
import Derived.ProofKit
import Derived.Deep.Slices
namespace Go.Proofs.Ythebdbdahdegfaa
open Go.RowKit Go.Deep Go.ChangeShapes

theorem cells_num : Try.prog.cellsOf 44 = 2 := by kernel_rfl
theorem cells_u64 : Try.prog.cellsOf 35 = 1 := by kernel_rfl
theorem cells_i64 : Try.prog.cellsOf 3 = 1 := by kernel_rfl

theorem num_plain {w : World} {a : Addr} {v : Value} (h : w.cell? a = some v) : ∃ b off, a = ⟨b, off, none⟩ := by
  obtain ⟨b, off, spot⟩ := a
  have : spot = none := World.cell?_spot h
  exact ⟨b, off, by rw [this]⟩

theorem num_open {H : Type} {enc : TypeId × Value → H} {w : World} {base : Nat} {spare : Nat → Bool} {held : Bool} {n : Nat} {cs : List Value} {x : DataW H × List MemPlace} (h : DataW.trod enc Try.prog w base spare held n 44 cs = some x) :
    ∃ k m : Int, cs = [.int .u64 k, .int .i64 m] ∧ (Lit.int .u64 k).wf = true := by
  obtain ⟨y0, y1, n', rfl, hl, h0, h1⟩ := trod_struct2 Try.underlying44 h
  rw [cells_num] at hl
  obtain ⟨k, e0, _, wk⟩ := DataW.trod_int Try.underlying35 h0
  obtain ⟨m, e1, _, _⟩ := DataW.trod_int Try.underlying3 h1
  simp only [cells_u64, cells_i64] at e0 e1
  match cs, hl with
  | [c0, c1], _ =>
    simp at e0 e1
    exact ⟨k, m, by rw [e0, e1], wk⟩

theorem nums_open {H : Type} {enc : TypeId × Value → H} {w : World} {base : Nat} {spare : Nat → Bool} {held : Bool} {fuel : Nat} {a : Option Addr} {len cap : Nat} {x : DataW H × List MemPlace}
    (h : DataW.trod enc Try.prog w base spare held fuel 40 [.slice a len cap] = some x) :
    len = 0 ∨ ∃ (b off : Nat) (X : Nat → Nat) (D : Nat → Int), a = some ⟨b, off, none⟩ ∧ NumsAt w b off len X D ∧ len ≤ cap ∧ cap ≤ 9223372036854775807 := by
  rcases open_slice Try.underlying40 h with ⟨hcs, _⟩ | ⟨ad, l, c, m, n, E, Pl, hcs, _, hl, hm, hmm, _, hel⟩
  · simp at hcs
    exact Or.inl hcs.2.1
  · simp at hcs
    obtain ⟨rfl, rfl, rfl⟩ := hcs
    have hlm : len ≤ m := by rw [hmm]; split <;> omega
    rcases Nat.eq_zero_or_pos len with h0 | h0
    · exact Or.inl h0
    · have each : ∀ i, i < len → ∃ q : Nat × Int, w.cell? ((ad.add (i * 2)).add 0) = some (.int .u64 (q.1 : Nat)) ∧ w.cell? ((ad.add (i * 2)).add 1) = some (.int .i64 q.2) ∧ q.1 < 18446744073709551616 := by
        intro i hi
        obtain ⟨cs', h1, h2⟩ := hel i (by omega)
        rw [cells_num] at h1
        obtain ⟨k, n2, rfl, wk⟩ := num_open h2
        have hb := bounds_u64 wk
        obtain ⟨_, _, hc⟩ := World.cells?_some h1
        exact ⟨(k.toNat, n2), by rw [Int.toNat_of_nonneg hb.1]; simpa using hc 0 (by omega), by simpa using hc 1 (by omega), by show k.toNat < _; omega⟩
      obtain ⟨f, hf⟩ := choose_lt each
      obtain ⟨b, off, rfl⟩ : ∃ b off, ad = ⟨b, off, none⟩ := by
        have h1 := (hf 0 h0).1
        have e' : (ad.add (0 * 2)).add 0 = ad := by simp [Addr.add]
        rw [e'] at h1
        exact num_plain h1
      simp only [Addr.add_lit] at hf
      refine Or.inr ⟨b, off, fun i => (f i).1, fun i => (f i).2, rfl, ⟨fun _ => ?_, fun i hi => (hf i hi).1, fun i hi => (hf i hi).2.1, fun i hi => (hf i hi).2.2⟩, hl, by unfold maxLen at hm; omega⟩
      exact World.block_lt_of_cell? w _ (hf 0 h0).1

theorem back_walk (b off n c : Nat) (cut : Int) (X : Nat → Nat) (D : Nat → Int) (w : World) (hn0 : 0 < n) (hnc : n ≤ c) (hc : c ≤ 9223372036854775807) (ho : NumsAt w b off n X D) :
    Calls Try.prog 5 #[.slice (some ⟨b, off, none⟩) n c, .int .i64 cut] w fun e w' => e = .returned (.bool true) ∧ Below w.heap.size w w' := by
  by_cases h : n ≤ 500
  · exact back_some b off n c cut X D w hn0 h hnc hc ho
  · exact back_more b off 500 n c cut X D w rfl (by omega) hnc hc (ho.less (by omega))
end Go.Proofs.Ythebdbdahdegfaa
