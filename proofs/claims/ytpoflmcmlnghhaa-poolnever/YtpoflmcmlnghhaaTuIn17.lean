import Derived.Test.YtpoflmcmlnghhaaNv8
import Derived.ProofKit
import Derived.OpenShut
import Derived.Deep.Slices
import Derived.ChangeSame
namespace Go.Proofs.Ytpoflmcmlnghhaa
open Go.ChangeShapes Go.WideShapes Go.ChangeAt Go.WideMaps Go.WideElems Go.RowKit Go.Deep

/-- A list of turns that came in. -/
structure Tul (w : World) (a : Option Addr) (ts : List Tq) : Prop where
  ats : ∀ j t, ts[j]? = some t → ((-9223372036854775808 ≤ t.a ∧ t.a ≤ 9223372036854775807) ∧ (-9223372036854775808 ≤ t.b ∧ t.b ≤ 9223372036854775807) ∧ (-9223372036854775808 ≤ t.c ∧ t.c ≤ 9223372036854775807) ∧ (-9223372036854775808 ≤ t.d ∧ t.d ≤ 9223372036854775807)) ∧ ∃ b off, a = some ⟨b, off, none⟩ ∧ w.cell? ⟨b, off + j * 4, none⟩ = some (.int .i64 t.a) ∧ w.cell? ⟨b, off + j * 4 + 1, none⟩ = some (.int .i64 t.b) ∧ w.cell? ⟨b, off + j * 4 + 2, none⟩ = some (.int .i64 t.c) ∧ w.cell? ⟨b, off + j * 4 + 3, none⟩ = some (.int .i64 t.d)
theorem cells_intT : Try.prog.cellsOf 3 = 1 := by kernel_rfl
theorem cells_turn : Try.prog.cellsOf 44 = 4 := by kernel_rfl
theorem cell_plainT {w : World} {a : Addr} {v : Value} (h : w.cell? a = some v) : ∃ b off, a = ⟨b, off, none⟩ := by
  obtain ⟨b, off, spot⟩ := a
  have : spot = none := World.cell?_spot h
  exact ⟨b, off, by rw [this]⟩
theorem list_ofT {T : Type} (d : T) {P : Nat → T → Prop} : ∀ (n : Nat), (∀ i, i < n → ∃ x, P i x) → ∃ L : List T, L.length = n ∧ ∀ i, i < n → P i (L.getD i d)
  | 0, _ => ⟨[], rfl, fun i hi => by omega⟩
  | n + 1, h => by
    obtain ⟨L, hl, hL⟩ := list_ofT d n (fun i hi => h i (by omega))
    obtain ⟨z, hz⟩ := h n (by omega)
    refine ⟨L ++ [z], by simp [hl], fun i hi => ?_⟩
    by_cases hin : i < n
    · have e : (L ++ [z]).getD i d = L.getD i d := by simp [List.getD, List.getElem?_append_left (show i < L.length by omega)]
      rw [e]; exact hL i hin
    · have : i = n := by omega
      subst this
      have e : (L ++ [z]).getD i d = z := by subst hl; simp [List.getD]
      rw [e]; exact hz
theorem struct4T {H : Type} {enc : TypeId × Value → H} {P : Program} {w : World} {base : Nat} {spare : Nat → Bool} {held : Bool} {t : TypeId} {f0 f1 f2 f3 : Field} {fuel : Nat} {cs : List Value} {x : DataW H × List MemPlace} (ht : P.underlying t = some (.struct #[f0, f1, f2, f3])) (h : DataW.trod enc P w base spare held fuel t cs = some x) :
    ∃ y0 y1 y2 y3 n, cs.length = P.cellsOf t ∧ DataW.trod enc P w base spare held n f0.type ((cs.drop f0.offset).take (P.cellsOf f0.type)) = some y0 ∧ DataW.trod enc P w base spare held n f1.type ((cs.drop f1.offset).take (P.cellsOf f1.type)) = some y1 ∧
      DataW.trod enc P w base spare held n f2.type ((cs.drop f2.offset).take (P.cellsOf f2.type)) = some y2 ∧ DataW.trod enc P w base spare held n f3.type ((cs.drop f3.offset).take (P.cellsOf f3.type)) = some y3 := by
  obtain ⟨xs, n, _, rfl, hl, hlen, hf⟩ := DataW.trod_struct ht h
  match xs, hlen with
  | [y0, y1, y2, y3], _ => exact ⟨y0, y1, y2, y3, n, hl, by simpa using hf 0 f0 rfl, by simpa using hf 1 f1 rfl, by simpa using hf 2 f2 rfl, by simpa using hf 3 f3 rfl⟩
set_option maxRecDepth 100000 in
theorem turn_open {H : Type} {enc : TypeId × Value → H} {w : World} {base : Nat} {held : Bool} {fuel : Nat} {cs : List Value} {x : DataW H × List MemPlace}
    (h : DataW.trod enc Try.prog w base (fun _ => true) held fuel 44 cs = some x) : ∃ t : Tq, cs = [.int .i64 t.a, .int .i64 t.b, .int .i64 t.c, .int .i64 t.d] ∧ ((-9223372036854775808 ≤ t.a ∧ t.a ≤ 9223372036854775807) ∧ (-9223372036854775808 ≤ t.b ∧ t.b ≤ 9223372036854775807) ∧ (-9223372036854775808 ≤ t.c ∧ t.c ≤ 9223372036854775807) ∧ (-9223372036854775808 ≤ t.d ∧ t.d ≤ 9223372036854775807)) := by
  obtain ⟨y0, y1, y2, y3, n', hl, h0, h1, h2, h3⟩ := struct4T Try.underlying44 h
  rw [cells_turn] at hl
  obtain ⟨a0, e0, _, w0⟩ := DataW.trod_int Try.underlying3 h0
  obtain ⟨a1, e1, _, w1⟩ := DataW.trod_int Try.underlying3 h1
  obtain ⟨a2, e2, _, w2⟩ := DataW.trod_int Try.underlying3 h2
  obtain ⟨a3, e3, _, w3⟩ := DataW.trod_int Try.underlying3 h3
  match cs, hl with
  | [c0, c1, c2, c3], _ =>
    simp only [cells_intT] at e0 e1 e2 e3
    simp at e0 e1 e2 e3
    exact ⟨⟨a0, a1, a2, a3⟩, by rw [e0, e1, e2, e3], of_wf64 w0, of_wf64 w1, of_wf64 w2, of_wf64 w3⟩

set_option maxRecDepth 100000 in
theorem turns_open {H : Type} {enc : TypeId × Value → H} {w : World} {base : Nat} {held : Bool} {fuel : Nat} {a : Option Addr} {len cap : Nat} {x : DataW H × List MemPlace}
    (h : DataW.trod enc Try.prog w base (fun _ => true) held fuel 38 [.slice a len cap] = some x) : ∃ L, Tul w a L ∧ L.length = len ∧ len ≤ cap ∧ cap ≤ 9223372036854775807 := by
  rcases open_slice Try.underlying38 h with ⟨hcs, _⟩ | ⟨ad, l, c, m, n, D, Pc, hcs, _, hl, hm, hmm, hx, hel⟩
  · simp at hcs
    obtain ⟨rfl, rfl, rfl⟩ := hcs
    exact ⟨[], ⟨fun j o hj => by simp at hj⟩, rfl, Nat.le_refl _, by omega⟩
  · simp at hcs
    obtain ⟨rfl, rfl, rfl⟩ := hcs
    have hlm : len ≤ m := by rw [hmm]; split <;> omega
    have each : ∀ i, i < len → ∃ t : Tq, ((-9223372036854775808 ≤ t.a ∧ t.a ≤ 9223372036854775807) ∧ (-9223372036854775808 ≤ t.b ∧ t.b ≤ 9223372036854775807) ∧ (-9223372036854775808 ≤ t.c ∧ t.c ≤ 9223372036854775807) ∧ (-9223372036854775808 ≤ t.d ∧ t.d ≤ 9223372036854775807)) ∧ ∀ j u, [Value.int .i64 t.a, .int .i64 t.b, .int .i64 t.c, .int .i64 t.d][j]? = some u → w.cell? ((ad.add (i * 4)).add j) = some u := by
      intro i hi
      obtain ⟨cs', h1, h2⟩ := hel i (by omega)
      rw [cells_turn] at h1
      obtain ⟨t, rfl, ho⟩ := turn_open h2
      obtain ⟨_, _, hc⟩ := World.cells?_some h1
      refine ⟨t, ho, fun j u hu => ?_⟩
      have hj := (List.getElem?_eq_some_iff.1 hu).1
      rw [hc j (by simpa using hj)]
      exact hu
    by_cases h0 : len = 0
    · subst h0
      exact ⟨[], ⟨fun j o hj => by simp at hj⟩, rfl, hl, by unfold maxLen at hm; omega⟩
    obtain ⟨b, off, rfl⟩ : ∃ b off, ad = ⟨b, off, none⟩ := by
      obtain ⟨_, _, h6⟩ := each 0 (by omega)
      have h7 := h6 0 _ rfl
      have e' : (ad.add (0 * 4)).add 0 = ad := by simp [Addr.add]
      rw [e'] at h7
      exact cell_plainT h7
    obtain ⟨L, hL, hP⟩ := list_ofT (⟨0, 0, 0, 0⟩ : Tq) len each
    refine ⟨L, ⟨fun i o ho => ?_⟩, hL, hl, by unfold maxLen at hm; omega⟩
    have hi : i < len := by rw [← hL]; exact (List.getElem?_eq_some_iff.1 ho).1
    obtain ⟨h3, h4⟩ := hP i hi
    have e : L.getD i ⟨0, 0, 0, 0⟩ = o := by simp [List.getD, ho]
    rw [e] at h3 h4
    have k0 := h4 0 _ rfl
    have k1 := h4 1 _ rfl
    have k2 := h4 2 _ rfl
    have k3 := h4 3 _ rfl
    simp only [Addr.add_lit, Nat.add_zero] at k0 k1 k2 k3
    exact ⟨h3, b, off, rfl, k0, k1, k2, k3⟩
end Go.Proofs.Ytpoflmcmlnghhaa
