import Derived.Test.YtomknmboapgmbaaBrF
import Derived.ProofKit
import Derived.OpenShut
import Derived.Deep.Slices
import Derived.ChangeSame
namespace Go.Proofs.Ytomknmboapgmbaa
open Go.ChangeShapes Go.WideShapes Go.ChangeAt Go.WideMaps Go.WideElems Go.RowKit Go.Deep

theorem cells_bytes : Try.prog.cellsOf 28 = 1 := by kernel_rfl
theorem cells_int : Try.prog.cellsOf 3 = 1 := by kernel_rfl
theorem cells_kid : Try.prog.cellsOf 37 = 2 := by kernel_rfl
theorem cell_plain {w : World} {a : Addr} {v : Value} (h : w.cell? a = some v) : ∃ b off, a = ⟨b, off, none⟩ := by
  obtain ⟨b, off, spot⟩ := a
  have : spot = none := World.cell?_spot h
  exact ⟨b, off, by rw [this]⟩

theorem bytes_open {H : Type} {enc : TypeId × Value → H} {w : World} {base : Nat} {held : Bool} {fuel : Nat} {cs : List Value} {x : DataW H × List MemPlace}
    (h : DataW.trod enc Try.prog w base (fun _ => true) held fuel 28 cs = some x) : ∃ ao n c zs, cs = [.slice ao n c] ∧ Byt w ao n c zs ∧ Bt zs ∧ n ≤ c ∧ c ≤ 9223372036854775807 := by
  rcases open_ints Try.underlying28 Try.underlying5 (by kernel_rfl) h with ⟨hcs, _⟩ | ⟨x, l, c, zs, hcs, _, hl, hm, hz, _, hcell, hwz⟩
  · exact ⟨none, 0, 0, [], hcs, Byt.empty w, Bt.nil, Nat.le_refl _, by omega⟩
  · obtain ⟨h1, h2, h3, h4⟩ := byt_of_row (zs := zs) (.inr ⟨_, rfl, hl, hm, by simpa using hz, hcell, hwz⟩)
    exact ⟨_, _, _, _, hcs, h1, h2, h3, h4⟩

theorem list_ofG {T : Type} (d : T) {P : Nat → T → Prop} : ∀ (n : Nat), (∀ i, i < n → ∃ x, P i x) → ∃ L : List T, L.length = n ∧ ∀ i, i < n → P i (L.getD i d)
  | 0, _ => ⟨[], rfl, fun i hi => by omega⟩
  | n + 1, h => by
    obtain ⟨L, hl, hL⟩ := list_ofG d n (fun i hi => h i (by omega))
    obtain ⟨z, hz⟩ := h n (by omega)
    refine ⟨L ++ [z], by simp [hl], fun i hi => ?_⟩
    by_cases hin : i < n
    · have e : (L ++ [z]).getD i d = L.getD i d := by simp [List.getD, List.getElem?_append_left (show i < L.length by omega)]
      rw [e]; exact hL i hin
    · have : i = n := by omega
      subst this
      have e : (L ++ [z]).getD i d = z := by subst hl; simp [List.getD]
      rw [e]; exact hz
theorem struct2 {H : Type} {enc : TypeId × Value → H} {P : Program} {w : World} {base : Nat} {spare : Nat → Bool} {held : Bool} {t : TypeId} {f0 f1 : Field} {fuel : Nat} {cs : List Value} {x : DataW H × List MemPlace} (ht : P.underlying t = some (.struct #[f0, f1])) (h : DataW.trod enc P w base spare held fuel t cs = some x) :
    ∃ y0 y1 n, cs.length = P.cellsOf t ∧ DataW.trod enc P w base spare held n f0.type ((cs.drop f0.offset).take (P.cellsOf f0.type)) = some y0 ∧ DataW.trod enc P w base spare held n f1.type ((cs.drop f1.offset).take (P.cellsOf f1.type)) = some y1 := by
  obtain ⟨xs, n, _, rfl, hl, hlen, hf⟩ := DataW.trod_struct ht h
  match xs, hlen with
  | [y0, y1], _ => exact ⟨y0, y1, n, hl, by simpa using hf 0 f0 rfl, by simpa using hf 1 f1 rfl⟩

set_option maxRecDepth 100000 in
theorem rows_open5 {H : Type} {enc : TypeId × Value → H} {w : World} {base : Nat} {held : Bool} {fuel : Nat} {a : Option Addr} {len cap : Nat} {x : DataW H × List MemPlace}
    (h : DataW.trod enc Try.prog w base (fun _ => true) held fuel 22 [.slice a len cap] = some x) : ∃ L, Lz w a L ∧ Lb L ∧ L.length = len ∧ len ≤ cap ∧ cap ≤ 9223372036854775807 := by
  rcases open_slice Try.underlying22 h with ⟨hcs, _⟩ | ⟨ad, l, c, m, n, D, Pc, hcs, _, hl, hm, hmm, _, hel⟩
  · simp at hcs
    obtain ⟨rfl, rfl, rfl⟩ := hcs
    exact ⟨[], Lz.zero _ _, (fun x hx => by cases hx), rfl, Nat.le_refl _, by omega⟩
  · simp at hcs
    obtain ⟨rfl, rfl, rfl⟩ := hcs
    have hlm : len ≤ m := by rw [hmm]; split <;> omega
    have each : ∀ i, i < len → ∃ zs, ∃ ao n c, w.cell? ((ad.add (i * 1)).add 0) = some (.slice ao n c) ∧ Byt w ao n c zs ∧ Bt zs ∧ n ≤ c ∧ c ≤ 9223372036854775807 := by
      intro i hi
      obtain ⟨cs', h1, h2⟩ := hel i (by omega)
      rw [cells_bytes] at h1
      obtain ⟨ao, n2, c2, zs, rfl, hic⟩ := bytes_open h2
      obtain ⟨_, _, hc⟩ := World.cells?_some h1
      exact ⟨zs, ao, n2, c2, by simpa using hc 0 (by omega), hic⟩
    clear hel
    obtain ⟨L, hLl, hL⟩ := list_ofG ([] : List Int) len each
    refine ⟨L, ⟨fun i hi => ?_⟩, fun x hx => ?_, hLl, hl, by unfold maxLen at hm; omega⟩
    · obtain ⟨b, off, rfl⟩ : ∃ b off, ad = ⟨b, off, none⟩ := by
        obtain ⟨_, _, _, _, h6, _⟩ := each 0 (by omega)
        have e' : (ad.add (0 * 1)).add 0 = ad := by simp [Addr.add]
        rw [e'] at h6
        exact cell_plain h6
      obtain ⟨ao, n2, c2, h3, h4, h5, h6, h7⟩ := hL i (by omega)
      simp only [Addr.add_lit, Nat.add_zero, Nat.mul_one] at h3
      exact ⟨b, off, ao, n2, c2, rfl, h3, h4, h6, h7⟩
    · obtain ⟨j, hj, rfl⟩ := List.getElem_of_mem hx
      obtain ⟨_, _, _, _, _, h5, _⟩ := hL j (by omega)
      simpa [List.getD, List.getElem?_eq_getElem hj] using h5

set_option maxRecDepth 100000 in
theorem kids_open {H : Type} {enc : TypeId × Value → H} {w : World} {base : Nat} {held : Bool} {fuel : Nat} {a : Option Addr} {len cap : Nat} {x : DataW H × List MemPlace}
    (h : DataW.trod enc Try.prog w base (fun _ => true) held fuel 30 [.slice a len cap] = some x) : ∃ L, Kl w a L ∧ Kb L ∧ L.length = len ∧ len ≤ cap ∧ cap ≤ 9223372036854775807 := by
  rcases open_slice Try.underlying30 h with ⟨hcs, _⟩ | ⟨ad, l, c, m, n, D, Pc, hcs, _, hl, hm, hmm, _, hel⟩
  · simp at hcs
    obtain ⟨rfl, rfl, rfl⟩ := hcs
    exact ⟨[], Kl.zero _ _, (fun x hx => by cases hx), rfl, Nat.le_refl _, by omega⟩
  · simp at hcs
    obtain ⟨rfl, rfl, rfl⟩ := hcs
    have hlm : len ≤ m := by rw [hmm]; split <;> omega
    have each : ∀ i, i < len → ∃ y : Kd, w.cell? ((ad.add (i * 2)).add 0) = some (.int .i64 y.no) ∧ w.cell? ((ad.add (i * 2)).add 1) = some (.int .i64 y.keys) ∧ Kdb y := by
      intro i hi
      obtain ⟨cs', h1, h2⟩ := hel i (by omega)
      rw [cells_kid] at h1
      obtain ⟨y0, y1, n', hl', h3, h4⟩ := struct2 Try.underlying37 h2
      rw [cells_kid] at hl'
      obtain ⟨s, e2, _, ws⟩ := DataW.trod_int Try.underlying3 h3
      obtain ⟨f, e3, _, wf⟩ := DataW.trod_int Try.underlying3 h4
      simp only [cells_int] at e2 e3
      have hs := bounds_i64 ws
      have hf := bounds_i64 wf
      match cs', hl', h1 with
      | [c0, c1], _, h1 =>
        simp at e2 e3
        obtain ⟨_, _, hc⟩ := World.cells?_some h1
        exact ⟨⟨s, f⟩, by rw [← e2]; simpa using hc 0 (by omega), by rw [← e3]; simpa using hc 1 (by omega), ⟨by simp only; omega, by simp only; omega, by simp only; omega, by simp only; omega⟩⟩
    clear hel
    obtain ⟨L, hLl, hL⟩ := list_ofG kd0 len each
    refine ⟨L, ⟨fun i hi => ?_⟩, fun x hx => ?_, hLl, hl, by unfold maxLen at hm; omega⟩
    · obtain ⟨b, off, rfl⟩ : ∃ b off, ad = ⟨b, off, none⟩ := by
        obtain ⟨_, h6, _⟩ := each 0 (by omega)
        have e' : (ad.add (0 * 2)).add 0 = ad := by simp [Addr.add]
        rw [e'] at h6
        exact cell_plain h6
      obtain ⟨h3, h4, h5⟩ := hL i (by omega)
      simp only [Addr.add_lit, Nat.add_zero] at h3 h4
      exact ⟨b, off, rfl, h3, h4⟩
    · obtain ⟨j, hj, rfl⟩ := List.getElem_of_mem hx
      obtain ⟨_, _, h5⟩ := hL j (by omega)
      simpa [List.getD, List.getElem?_eq_getElem hj] using h5
end Go.Proofs.Ytomknmboapgmbaa
