import Derived.Test.YtiljdhhfhjhhiaaDkIn
import Derived.SizedLaws
namespace Go.Proofs.Ytiljdhhfhjhhiaa
open Go.ChangeShapes Go.WideShapes Go.ChangeAt Go.WideMaps Go.WideElems Go.RowKit Go.Deep

theorem weightsAll_mem12 {H : Type} {P : Program} {e : TypeId} : ∀ {ds : List (DataW H)} {d : DataW H}, d ∈ ds → ∀ n ∈ d.weights P e, n ∈ DataW.weightsAll P e ds
  | d0 :: ds, d, hd, n, hn => by
    simp only [DataW.weightsAll, List.mem_append]
    rcases List.mem_cons.1 hd with rfl | h
    · exact Or.inl hn
    · exact Or.inr (weightsAll_mem12 h n hn)
/-- What a reading holds is within reach. -/
def Wt12 {H : Type} (P : Program) (t : TypeId) (d : DataW H) : Prop := ∀ n ∈ d.weights P t, n ≤ reachBytes
theorem Wt12.of {H : Type} {P : Program} {ts : List TypeId} {ds : List (DataW H)} (h : (DataW.weightsEach P ts ds).all (· ≤ reachBytes) = true) {j : Nat} {t : TypeId} {d : DataW H} (ht : ts[j]? = some t) (hd : ds[j]? = some d) : Wt12 P t d :=
  fun n hn => of_decide_eq_true (List.all_eq_true.1 h _ (DataW.weights_mem_each ht hd n hn))
theorem Wt12.elem {H : Type} {P : Program} {t e : TypeId} {elems spare : List (DataW H)} {d : DataW H} (h : Wt12 P t (.slice elems spare)) (hu : P.underlying t = some (.slice e)) (hd : d ∈ elems) : Wt12 P e d := by
  intro n hn
  refine h n ?_
  simp only [DataW.weights, hu, List.mem_cons, List.mem_append]
  exact Or.inr (Or.inl (weightsAll_mem12 hd n hn))
theorem Wt12.len {H : Type} {P : Program} {t e : TypeId} {elems spare : List (DataW H)} (h : Wt12 P t (.slice elems spare)) (hu : P.underlying t = some (.slice e)) : (elems.length + spare.length) * P.bytesOf e ≤ reachBytes := by
  refine h _ ?_
  simp [DataW.weights, hu]
theorem bytesOfF12 : Try.prog.bytesOf 63 = 16 := by kernel_rfl
theorem cells_bytes12 : Try.prog.cellsOf 22 = 1 := by kernel_rfl
theorem cells_fates12 : Try.prog.cellsOf 39 = 1 := by kernel_rfl

theorem bytes_open12 {H : Type} {enc : TypeId × Value → H} {w : World} {base : Nat} {held : Bool} {fuel : Nat} {cs : List Value} {x : DataW H × List MemPlace}
    (h : DataW.trod enc Try.prog w base (fun _ => true) held fuel 22 cs = some x) : ∃ ao n c zs, cs = [.slice ao n c] ∧ Byt w ao n c zs ∧ Bt zs ∧ n ≤ c ∧ c ≤ 9223372036854775807 := by
  rcases open_ints Try.underlying22 Try.underlying5 (by kernel_rfl) h with ⟨hcs, _⟩ | ⟨x, l, c, zs, hcs, _, hl, hm, hz, hx, hcell, hwz⟩
  · exact ⟨none, 0, 0, [], hcs, Byt.empty w, Bt.nil, Nat.le_refl _, by omega⟩
  · obtain ⟨h1, h2, h3, h4⟩ := byt_of_row (zs := zs) (.inr ⟨_, rfl, hl, hm, by simpa using hz, hcell, hwz⟩)
    exact ⟨_, _, _, _, hcs, h1, h2, h3, by unfold maxLen at hm; omega⟩

set_option maxRecDepth 100000 in
theorem fates_open12 {H : Type} {enc : TypeId × Value → H} {w : World} {base : Nat} {held : Bool} {fuel : Nat} {cs : List Value} {x : DataW H × List MemPlace}
    (h : DataW.trod enc Try.prog w base (fun _ => true) held fuel 39 cs = some x) (hs : Wt12 Try.prog 39 x.1) (hcs1 : cs.length = 1) : ∃ bo m e fs, cs = [.slice bo m e] ∧ Fl w bo fs ∧ fs.length = m ∧ m ≤ 8796093021952 := by
  have hkeep := h
  rcases open_slice Try.underlying39 h with ⟨hcs, _⟩ | ⟨ad, l, c, m, n, D, Pc, hcs, _, hl, hm, hmm, hx, hel⟩
  · subst hcs
    obtain ⟨fs, h1, h2, _⟩ := fates_open hkeep
    exact ⟨_, _, _, fs, rfl, h1, h2, by omega⟩
  · subst hcs
    obtain ⟨fs, h1, h2, _⟩ := fates_open hkeep
    rw [hx] at hs
    have h5 := hs.len Try.underlying39
    rw [bytesOfF12] at h5
    simp only [List.length_map, List.length_range, reachBytes] at h5
    exact ⟨_, _, _, fs, rfl, h1, h2, by omega⟩

end Go.Proofs.Ytiljdhhfhjhhiaa
