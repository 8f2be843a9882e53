import Derived.Test.YtiljdhhfhjhhiaaDkIn
import Derived.Test.YtiljdhhfhjhhiaaDpD
import Derived.SizedLaws
namespace Go.Proofs.Ytiljdhhfhjhhiaa
open Go.ChangeShapes Go.WideShapes Go.ChangeAt Go.WideMaps Go.WideElems Go.RowKit Go.Deep

theorem weightsAll_mem12 {H : Type} {P : Program} {e : TypeId} : ∀ {ds : List (DataW H)} {d : DataW H}, d ∈ ds → ∀ n ∈ d.weights P e, n ∈ DataW.weightsAll P e ds
  | d0 :: ds, d, hd, n, hn => by
    simp only [DataW.weightsAll, List.mem_append]
    rcases List.mem_cons.1 hd with rfl | h
    · exact Or.inl hn
    · exact Or.inr (weightsAll_mem12 h n hn)
/-- What a reading holds is within reach. -/
def Wt12 {H : Type} (P : Program) (t : TypeId) (d : DataW H) : Prop := ∀ n ∈ d.weights P t, n ≤ reachBytes
theorem Wt12.of {H : Type} {P : Program} {ts : List TypeId} {ds : List (DataW H)} (h : (DataW.weightsEach P ts ds).all (· ≤ reachBytes) = true) {j : Nat} {t : TypeId} {d : DataW H} (ht : ts[j]? = some t) (hd : ds[j]? = some d) : Wt12 P t d :=
  fun n hn => of_decide_eq_true (List.all_eq_true.1 h _ (DataW.weights_mem_each ht hd n hn))
theorem Wt12.elem {H : Type} {P : Program} {t e : TypeId} {elems spare : List (DataW H)} {d : DataW H} (h : Wt12 P t (.slice elems spare)) (hu : P.underlying t = some (.slice e)) (hd : d ∈ elems) : Wt12 P e d := by
  intro n hn
  refine h n ?_
  simp only [DataW.weights, hu, List.mem_cons, List.mem_append]
  exact Or.inr (Or.inl (weightsAll_mem12 hd n hn))
theorem Wt12.len {H : Type} {P : Program} {t e : TypeId} {elems spare : List (DataW H)} (h : Wt12 P t (.slice elems spare)) (hu : P.underlying t = some (.slice e)) : (elems.length + spare.length) * P.bytesOf e ≤ reachBytes := by
  refine h _ ?_
  simp [DataW.weights, hu]
theorem bytesOfF12 : Try.prog.bytesOf 63 = 16 := by kernel_rfl
theorem cells_bytes12 : Try.prog.cellsOf 22 = 1 := by kernel_rfl
theorem cells_fates12 : Try.prog.cellsOf 39 = 1 := by kernel_rfl
theorem cells_op12 : Try.prog.cellsOf 41 = 7 := by kernel_rfl

theorem bytes_open12 {H : Type} {enc : TypeId × Value → H} {w : World} {base : Nat} {held : Bool} {fuel : Nat} {cs : List Value} {x : DataW H × List MemPlace}
    (h : DataW.trod enc Try.prog w base (fun _ => true) held fuel 22 cs = some x) : ∃ ao n c zs, cs = [.slice ao n c] ∧ Byt w ao n c zs ∧ Bt zs ∧ n ≤ c ∧ c ≤ 9223372036854775807 := by
  rcases open_ints Try.underlying22 Try.underlying5 (by kernel_rfl) h with ⟨hcs, _⟩ | ⟨x, l, c, zs, hcs, _, hl, hm, hz, hx, hcell, hwz⟩
  · exact ⟨none, 0, 0, [], hcs, Byt.empty w, Bt.nil, Nat.le_refl _, by omega⟩
  · obtain ⟨h1, h2, h3, h4⟩ := byt_of_row (zs := zs) (.inr ⟨_, rfl, hl, hm, by simpa using hz, hcell, hwz⟩)
    exact ⟨_, _, _, _, hcs, h1, h2, h3, by unfold maxLen at hm; omega⟩

set_option maxRecDepth 100000 in
theorem fates_open12 {H : Type} {enc : TypeId × Value → H} {w : World} {base : Nat} {held : Bool} {fuel : Nat} {cs : List Value} {x : DataW H × List MemPlace}
    (h : DataW.trod enc Try.prog w base (fun _ => true) held fuel 39 cs = some x) (hs : Wt12 Try.prog 39 x.1) (hcs1 : cs.length = 1) : ∃ bo m e fs, cs = [.slice bo m e] ∧ Fl w bo fs ∧ fs.length = m ∧ m ≤ 8796093021952 := by
  have hkeep := h
  rcases open_slice Try.underlying39 h with ⟨hcs, _⟩ | ⟨ad, l, c, m, n, D, Pc, hcs, _, hl, hm, hmm, hx, hel⟩
  · subst hcs
    obtain ⟨fs, h1, h2, _⟩ := fates_open hkeep
    exact ⟨_, _, _, fs, rfl, h1, h2, by omega⟩
  · subst hcs
    obtain ⟨fs, h1, h2, _⟩ := fates_open hkeep
    rw [hx] at hs
    have h5 := hs.len Try.underlying39
    rw [bytesOfF12] at h5
    simp only [List.length_map, List.length_range, reachBytes] at h5
    exact ⟨_, _, _, fs, rfl, h1, h2, by omega⟩

theorem struct712 {H : Type} {enc : TypeId × Value → H} {P : Program} {w : World} {base : Nat} {spare : Nat → Bool} {held : Bool} {t : TypeId} {f0 f1 f2 f3 f4 f5 f6 : Field} {fuel : Nat} {cs : List Value} {x : DataW H × List MemPlace} (ht : P.underlying t = some (.struct #[f0, f1, f2, f3, f4, f5, f6])) (h : DataW.trod enc P w base spare held fuel t cs = some x) :
    ∃ y0 y1 y2 y3 y4 y5 y6 n, x.1 = .agg [y0.1, y1.1, y2.1, y3.1, y4.1, y5.1, y6.1] ∧ cs.length = P.cellsOf t ∧ DataW.trod enc P w base spare held n f0.type ((cs.drop f0.offset).take (P.cellsOf f0.type)) = some y0 ∧ DataW.trod enc P w base spare held n f1.type ((cs.drop f1.offset).take (P.cellsOf f1.type)) = some y1 ∧
      DataW.trod enc P w base spare held n f2.type ((cs.drop f2.offset).take (P.cellsOf f2.type)) = some y2 ∧ DataW.trod enc P w base spare held n f3.type ((cs.drop f3.offset).take (P.cellsOf f3.type)) = some y3 ∧ DataW.trod enc P w base spare held n f4.type ((cs.drop f4.offset).take (P.cellsOf f4.type)) = some y4 ∧
      DataW.trod enc P w base spare held n f5.type ((cs.drop f5.offset).take (P.cellsOf f5.type)) = some y5 ∧ DataW.trod enc P w base spare held n f6.type ((cs.drop f6.offset).take (P.cellsOf f6.type)) = some y6 := by
  obtain ⟨xs, n, _, rfl, hl, hlen, hf⟩ := DataW.trod_struct ht h
  match xs, hlen with
  | [y0, y1, y2, y3, y4, y5, y6], _ => exact ⟨y0, y1, y2, y3, y4, y5, y6, n, rfl, hl, by simpa using hf 0 f0 rfl, by simpa using hf 1 f1 rfl, by simpa using hf 2 f2 rfl, by simpa using hf 3 f3 rfl, by simpa using hf 4 f4 rfl, by simpa using hf 5 f5 rfl, by simpa using hf 6 f6 rfl⟩

set_option maxRecDepth 100000 in
theorem op_open12 {H : Type} {enc : TypeId × Value → H} {w : World} {base : Nat} {held : Bool} {fuel : Nat} {cs : List Value} {x : DataW H × List MemPlace}
    (h : DataW.trod enc Try.prog w base (fun _ => true) held fuel 41 cs = some x) (hs : Wt12 Try.prog 41 x.1) : ∃ o : Opr, cs = [.int .i64 o.kind, .int .i64 o.i, .int .i64 o.a, .int .i64 o.x, .int .u8 o.f, .slice o.ao o.n o.c, .slice o.bo o.m o.e] ∧ Opm w o := by
  obtain ⟨y0, y1, y2, y3, y4, y5, y6, n', hx, hl, h0, h1, h2, h3, h4, h5, h6⟩ := struct712 Try.underlying41 h
  rw [cells_op12] at hl
  rw [hx] at hs
  have s6 : Wt12 Try.prog 39 y6.1 := by
    intro n hn
    refine hs n ?_
    simp only [DataW.weights, Try.underlying41, List.map_cons, List.map_nil, DataW.weightsEach, List.mem_append]
    exact Or.inr (Or.inr (Or.inr (Or.inr (Or.inr (Or.inr (Or.inl hn))))))
  obtain ⟨a0, e0, _, w0⟩ := DataW.trod_int Try.underlying3 h0
  obtain ⟨a1, e1, _, w1⟩ := DataW.trod_int Try.underlying3 h1
  obtain ⟨a2, e2, _, w2⟩ := DataW.trod_int Try.underlying3 h2
  obtain ⟨a3, e3, _, w3⟩ := DataW.trod_int Try.underlying3 h3
  obtain ⟨a4, e4, _, w4⟩ := DataW.trod_int Try.underlying5 h4
  have b1 := bounds_i64 w1
  have b4 := bounds_u8 w4
  obtain ⟨ao, n, c, za, e5, b5, t5, l5, m5⟩ := bytes_open12 h5
  match cs, hl with
  | [c0, c1, c2, c3, c4, c5, c6], _ =>
    obtain ⟨bo, m, e, fs, e6, f6, g6, k6⟩ := fates_open12 h6 s6 (by simp [cells_fates12])
    simp only [cells_bytes12, cells_fates12, cells_int12, cells_u812] at e0 e1 e2 e3 e4 e5 e6
    simp at e0 e1 e2 e3 e4 e5 e6
    refine ⟨⟨a0, a1, a2, a3, a4, ao, n, c, za, bo, m, e, fs⟩, by rw [e0, e1, e2, e3, e4, e5, e6], ⟨b5, t5, fun ad ead h0 => ?_, by simp only; omega, by simp only; omega, f6, g6, k6, by simp only; omega⟩⟩
    obtain ⟨b, off, eao, hb, _⟩ := b5.at h0
    simp only at ead
    rw [eao] at ead
    rw [← Option.some.inj ead]
    exact hb

set_option maxRecDepth 100000 in
theorem ops_open {H : Type} {enc : TypeId × Value → H} {w : World} {base : Nat} {held : Bool} {fuel : Nat} {a : Option Addr} {len cap : Nat} {x : DataW H × List MemPlace}
    (h : DataW.trod enc Try.prog w base (fun _ => true) held fuel 23 [.slice a len cap] = some x) (hs : Wt12 Try.prog 23 x.1) : ∃ L, Opl w a L ∧ L.length = len ∧ len ≤ cap ∧ cap ≤ 9223372036854775807 := by
  rcases open_slice Try.underlying23 h with ⟨hcs, _⟩ | ⟨ad, l, c, m, n, D, Pc, hcs, _, hl, hm, hmm, hx, hel⟩
  · simp at hcs
    obtain ⟨rfl, rfl, rfl⟩ := hcs
    exact ⟨[], ⟨fun j o hj => by simp at hj⟩, rfl, Nat.le_refl _, by omega⟩
  · simp at hcs
    obtain ⟨rfl, rfl, rfl⟩ := hcs
    have hlm : len ≤ m := by rw [hmm]; split <;> omega
    rw [hx] at hs
    have each : ∀ i, i < len → ∃ o : Opr, Opm w o ∧ ∀ j u, [Value.int .i64 o.kind, .int .i64 o.i, .int .i64 o.a, .int .i64 o.x, .int .u8 o.f, .slice o.ao o.n o.c, .slice o.bo o.m o.e][j]? = some u → w.cell? ((ad.add (i * 7)).add j) = some u := by
      intro i hi
      obtain ⟨cs', h1, h2⟩ := hel i (by omega)
      rw [cells_op12] at h1
      obtain ⟨o, rfl, ho⟩ := op_open12 h2 (hs.elem Try.underlying23 (List.mem_map.2 ⟨i, List.mem_range.2 hi, rfl⟩))
      obtain ⟨_, _, hc⟩ := World.cells?_some h1
      refine ⟨o, ho, fun j u hu => ?_⟩
      have hj := (List.getElem?_eq_some_iff.1 hu).1
      rw [hc j (by simpa using hj)]
      exact hu
    by_cases h0 : len = 0
    · subst h0
      exact ⟨[], ⟨fun j o hj => by simp at hj⟩, rfl, hl, by unfold maxLen at hm; omega⟩
    obtain ⟨b, off, rfl⟩ : ∃ b off, ad = ⟨b, off, none⟩ := by
      obtain ⟨_, _, h6⟩ := each 0 (by omega)
      have h7 := h6 0 _ rfl
      have e' : (ad.add (0 * 7)).add 0 = ad := by simp [Addr.add]
      rw [e'] at h7
      exact cell_plain12 h7
    obtain ⟨L, hL, hP⟩ := list_of12 (⟨0, 0, 0, 0, 0, none, 0, 0, [], none, 0, 0, []⟩ : Opr) len each
    refine ⟨L, ⟨fun i o ho => ?_⟩, hL, hl, by unfold maxLen at hm; omega⟩
    have hi : i < len := by rw [← hL]; exact (List.getElem?_eq_some_iff.1 ho).1
    obtain ⟨h3, h4⟩ := hP i hi
    have e : L.getD i ⟨0, 0, 0, 0, 0, none, 0, 0, [], none, 0, 0, []⟩ = o := by simp [List.getD, ho]
    rw [e] at h3 h4
    have k0 := h4 0 _ rfl
    have k1 := h4 1 _ rfl
    have k2 := h4 2 _ rfl
    have k3 := h4 3 _ rfl
    have k4 := h4 4 _ rfl
    have k5 := h4 5 _ rfl
    have k6 := h4 6 _ rfl
    simp only [Addr.add_lit, Nat.add_zero] at k0 k1 k2 k3 k4 k5 k6
    exact ⟨h3, b, off, rfl, World.block_lt_of_cell? _ _ k0, k0, k1, k2, k3, k4, k5, k6⟩
end Go.Proofs.Ytiljdhhfhjhhiaa
