import Derived.Test.YthebdbdahdegfaaBroken
import Derived.ProofKit
import Derived.Deep.Slices
import Derived.Deep.Strs
namespace Go.Proofs.Ythebdbdahdegfaa
open Go.RowKit Go.Deep

theorem cells_op : Try.prog.cellsOf 32 = 3 := by kernel_rfl
theorem cells_int : Try.prog.cellsOf 3 = 1 := by kernel_rfl
theorem cells_bool : Try.prog.cellsOf 4 = 1 := by kernel_rfl

theorem cell_plain {w : World} {a : Addr} {v : Value} (h : w.cell? a = some v) : ∃ b off, a = ⟨b, off, none⟩ := by
  obtain ⟨b, off, spot⟩ := a
  have : spot = none := World.cell?_spot h
  exact ⟨b, off, by rw [this]⟩

theorem op_open {H : Type} {enc : TypeId × Value → H} {w : World} {base : Nat} {spare : Nat → Bool} {held : Bool} {n : Nat} {cs : List Value} {x : DataW H × List MemPlace} (h : DataW.trod enc Try.prog w base spare held n 32 cs = some x) :
    ∃ (k m : Int) (s : Bool), cs = [.int .i64 k, .int .i64 m, .bool s] ∧ (Lit.int .i64 k).wf = true ∧ (Lit.int .i64 m).wf = true := by
  obtain ⟨y0, y1, y2, n', rfl, hl, h0, h1, h2⟩ := trod_struct3 Try.underlying32 h
  rw [cells_op] at hl
  obtain ⟨k, e0, _, wk⟩ := DataW.trod_int Try.underlying3 h0
  obtain ⟨m, e1, _, wm⟩ := DataW.trod_int Try.underlying3 h1
  obtain ⟨s, e2, _⟩ := DataW.trod_bool Try.underlying4 h2
  simp only [cells_int, cells_bool] at e0 e1 e2
  match cs, hl with
  | [c0, c1, c2], _ =>
    simp at e0 e1 e2
    exact ⟨k, m, s, by rw [e0, e1, e2], wk, wm⟩

theorem ops_open {H : Type} {enc : TypeId × Value → H} {w : World} {base : Nat} {spare : Nat → Bool} {held : Bool} {fuel : Nat} {a : Option Addr} {len cap : Nat} {x : DataW H × List MemPlace}
    (h : DataW.trod enc Try.prog w base spare held fuel 23 [.slice a len cap] = some x) :
    ∃ (b off : Nat) (K N : Nat → Int) (S : Nat → Bool), (0 < len → a = some ⟨b, off, none⟩) ∧ OpsAt w b off len K N S ∧ len ≤ 9223372036854775807 ∧ ∀ i, i < len → (Lit.int .i64 (N i)).wf = true := by
  rcases open_slice Try.underlying23 h with ⟨hcs, _⟩ | ⟨ad, l, c, m, n, D, Pl, hcs, _, hl, hm, hmm, _, hel⟩
  · simp at hcs
    obtain ⟨rfl, rfl, rfl⟩ := hcs
    exact ⟨0, 0, fun _ => 0, fun _ => 0, fun _ => false, fun h => by omega, ⟨fun h => by omega, fun i hi => by omega, fun i hi => by omega, fun i hi => by omega⟩, by omega, fun i hi => by omega⟩
  · simp at hcs
    obtain ⟨rfl, rfl, rfl⟩ := hcs
    have hlm : len ≤ m := by rw [hmm]; split <;> omega
    have hcl : len ≤ 9223372036854775807 := by unfold maxLen at hm; omega
    rcases Nat.eq_zero_or_pos len with h0 | h0
    · subst h0
      exact ⟨0, 0, fun _ => 0, fun _ => 0, fun _ => false, fun h => by omega, ⟨fun h => by omega, fun i hi => by omega, fun i hi => by omega, fun i hi => by omega⟩, by omega, fun i hi => by omega⟩
    · have each : ∀ i, i < len → ∃ q : Int × Int × Bool, w.cell? ((ad.add (i * 3)).add 0) = some (.int .i64 q.1) ∧ w.cell? ((ad.add (i * 3)).add 1) = some (.int .i64 q.2.1) ∧ w.cell? ((ad.add (i * 3)).add 2) = some (.bool q.2.2) ∧ (Lit.int .i64 q.2.1).wf = true := by
        intro i hi
        obtain ⟨cs', h1, h2⟩ := hel i (by omega)
        rw [cells_op] at h1
        obtain ⟨k, n2, s, rfl, _, wn⟩ := op_open h2
        obtain ⟨_, _, hc⟩ := World.cells?_some h1
        exact ⟨(k, n2, s), by simpa using hc 0 (by omega), by simpa using hc 1 (by omega), by simpa using hc 2 (by omega), wn⟩
      obtain ⟨f, hf⟩ := choose_lt each
      obtain ⟨b, off, rfl⟩ : ∃ b off, ad = ⟨b, off, none⟩ := by
        have h1 := (hf 0 h0).1
        have e' : (ad.add (0 * 3)).add 0 = ad := by simp [Addr.add]
        rw [e'] at h1
        exact cell_plain h1
      simp only [Addr.add_lit] at hf
      refine ⟨b, off, fun i => (f i).1, fun i => (f i).2.1, fun i => (f i).2.2, fun _ => rfl, ⟨fun _ => ?_, fun i hi => (hf i hi).1, fun i hi => (hf i hi).2.1, fun i hi => (hf i hi).2.2.1⟩, hcl, fun i hi => (hf i hi).2.2.2⟩
      have := World.block_lt_of_cell? w _ (hf 0 h0).1
      exact this

theorem broken_walk (ao : Option Addr) (m c : Nat) (how : Int) (b off n oc : Nat) (K N : Nat → Int) (S : Nat → Bool) (oo : Option Addr) (w : World) (ts : List Int) (hb : Byt w ao m c ts) (hbt : Bt ts)
    (hn : n ≤ 9223372036854775807) (hoo : 0 < n → oo = some ⟨b, off, none⟩) (ho : OpsAt w b off n K N S) :
    Calls Try.prog 8 #[.slice ao m c, .int .i64 how, .slice oo n oc] w fun e w' => e = .returned (.bool true) ∧ Below w.heap.size w w' := by
  by_cases hm : m ≤ 65536
  · obtain ⟨ht1, ht2⟩ := tmod4 how
    have hr : (how.tmod 4 + 4) % 4 = 0 ∨ (how.tmod 4 + 4) % 4 = 1 ∨ (how.tmod 4 + 4) % 4 = 2 ∨ (how.tmod 4 + 4) % 4 = 3 := by omega
    rcases hr with hr | hr | hr | hr
    · exact broken_0 ao m c how b off n oc K N S oo w ts hb hbt hm hn hoo ho hr
    · exact broken_1 ao m c how b off n oc K N S oo w ts hb hbt hm hn hoo ho hr
    · exact broken_2 ao m c how b off n oc K N S oo w ts hb hbt hm hn hoo ho hr
    · exact broken_3 ao m c how b off n oc K N S oo w ts hb hbt hm hn hoo ho hr
  · exact broken_long ao m c how oo n oc w (by omega)
end Go.Proofs.Ythebdbdahdegfaa
