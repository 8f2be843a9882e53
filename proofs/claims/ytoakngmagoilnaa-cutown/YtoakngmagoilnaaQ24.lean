import Derived.Test.YtoakngmagoilnaaQ19
import Derived.Test.YtoakngmagoilnaaQ20
import Derived.SizedLaws
namespace Go.Proofs.Ytoakngmagoilnaa
open Go.ChangeShapes Go.WideShapes Go.ChangeAt Go.WideMaps Go.WideElems Go.RowKit Go.Deep
theorem weightsAll_mem9 {H : Type} {P : Program} {e : TypeId} : ∀ {ds : List (DataW H)} {d : DataW H}, d ∈ ds → ∀ n ∈ d.weights P e, n ∈ DataW.weightsAll P e ds
 | d0 :: ds, d, hd, n, hn => by
  simp only [DataW.weightsAll, List.mem_append]
  rcases List.mem_cons.1 hd with rfl | h
  ·exact Or.inl hn
  ·exact Or.inr (weightsAll_mem9 h n hn)
def Wt9 {H : Type} (P : Program) (t : TypeId) (d : DataW H) : Prop := ∀ n ∈ d.weights P t, n ≤ reachBytes
theorem Wt9.of {H : Type} {P : Program} {ts : List TypeId} {ds : List (DataW H)} (h : (DataW.weightsEach P ts ds).all (· ≤ reachBytes) = true) {j : Nat} {t : TypeId} {d : DataW H} (ht : ts[j]? = some t) (hd : ds[j]? = some d) : Wt9 P t d :=
 fun n hn => of_decide_eq_true (List.all_eq_true.1 h _ (DataW.weights_mem_each ht hd n hn))
theorem Wt9.elem {H : Type} {P : Program} {t e : TypeId} {elems spare : List (DataW H)} {d : DataW H} (h : Wt9 P t (.slice elems spare)) (hu : P.underlying t = some (.slice e)) (hd : d ∈ elems) : Wt9 P e d := by
 intro n hn
 refine h n ?_
 simp only [DataW.weights, hu, List.mem_cons, List.mem_append]
 exact Or.inr (Or.inl (weightsAll_mem9 hd n hn))
theorem Wt9.len {H : Type} {P : Program} {t e : TypeId} {elems spare : List (DataW H)} (h : Wt9 P t (.slice elems spare)) (hu : P.underlying t = some (.slice e)) : (elems.length + spare.length) * P.bytesOf e ≤ reachBytes := by
 refine h _ ?_
 simp [DataW.weights, hu]
theorem bytesOf9 : Try.prog.bytesOf 5 = 1 := by kernel_rfl
theorem bytes_open9 {H : Type} {enc : TypeId × Value → H} {w : World} {base : Nat} {held : Bool} {fuel : Nat} {cs : List Value} {x : DataW H × List MemPlace}
  (h : DataW.trod enc Try.prog w base (fun _ => true) held fuel 26 cs = some x) (hs : Wt9 Try.prog 26 x.1) : ∃ ao n c zs, cs = [.slice ao n c] ∧ Byt w ao n c zs ∧ Bt zs ∧ n ≤ c ∧ c ≤ 140737488351232 ∧ (ao = none → c = 0) := by
 rcases open_ints Try.underlying26 Try.underlying5 (by kernel_rfl) h with ⟨hcs, _⟩ | ⟨x, l, c, zs, hcs, _, hl, hm, hz, hx, hcell, hwz⟩
 ·exact ⟨none, 0, 0, [], hcs, Byt.empty w, Bt.nil, Nat.le_refl _, by omega, fun _ => rfl⟩
 ·obtain ⟨h1, h2, h3, h4⟩ := byt_of_row (zs := zs) (.inr ⟨_, rfl, hl, hm, by simpa using hz, hcell, hwz⟩)
  have hz' : zs.length = c := by simpa using hz
  rw [hx] at hs
  have h5 := hs.len Try.underlying26
  rw [bytesOf9] at h5
  simp only [lits, List.length_map, List.length_take, List.length_drop, reachBytes] at h5
  exact ⟨_, _, _, _, hcs, h1, h2, h3, by omega, fun e => by cases e⟩
theorem struct49 {H : Type} {enc : TypeId × Value → H} {P : Program} {w : World} {base : Nat} {spare : Nat → Bool} {held : Bool} {t : TypeId} {f0 f1 f2 f3 : Field} {fuel : Nat} {cs : List Value} {x : DataW H × List MemPlace} (ht : P.underlying t = some (.struct #[f0, f1, f2, f3])) (h : DataW.trod enc P w base spare held fuel t cs = some x) :
  ∃ y0 y1 y2 y3 n, x.1 = .agg [y0.1, y1.1, y2.1, y3.1] ∧ cs.length = P.cellsOf t ∧ DataW.trod enc P w base spare held n f0.type ((cs.drop f0.offset).take (P.cellsOf f0.type)) = some y0 ∧ DataW.trod enc P w base spare held n f1.type ((cs.drop f1.offset).take (P.cellsOf f1.type)) = some y1 ∧
   DataW.trod enc P w base spare held n f2.type ((cs.drop f2.offset).take (P.cellsOf f2.type)) = some y2 ∧ DataW.trod enc P w base spare held n f3.type ((cs.drop f3.offset).take (P.cellsOf f3.type)) = some y3 := by
 obtain ⟨xs, n, _, rfl, hl, hlen, hf⟩ := DataW.trod_struct ht h
 match xs, hlen with
 | [y0, y1, y2, y3], _ => exact ⟨y0, y1, y2, y3, n, rfl, hl, by simpa using hf 0 f0 rfl, by simpa using hf 1 f1 rfl, by simpa using hf 2 f2 rfl, by simpa using hf 3 f3 rfl⟩
set_option maxRecDepth 100000 in
theorem item_open9 {H : Type} {enc : TypeId × Value → H} {w : World} {base : Nat} {held : Bool} {fuel : Nat} {cs : List Value} {x : DataW H × List MemPlace}
  (h : DataW.trod enc Try.prog w base (fun _ => true) held fuel 28 cs = some x) (hs : Wt9 Try.prog 28 x.1) : ∃ ao n c bo m d y, cs = [.slice ao n c, .slice bo m d, .int .i64 y.size, .int .i64 y.first] ∧ Ic w ao n c bo m d y ∧ c ≤ 140737488351232 ∧ d ≤ 140737488351232 := by
 obtain ⟨y0, y1, y2, y3, n', hx, hl, h0, h1, h2, h3⟩ := struct49 Try.underlying28 h
 rw [cells_item] at hl
 rw [hx] at hs
 have s0 : Wt9 Try.prog 26 y0.1 := by
  intro n hn
  refine hs n ?_
  simp only [DataW.weights, Try.underlying28, List.map_cons, List.map_nil, DataW.weightsEach, List.mem_append]
  exact Or.inl hn
 have s1 : Wt9 Try.prog 26 y1.1 := by
  intro n hn
  refine hs n ?_
  simp only [DataW.weights, Try.underlying28, List.map_cons, List.map_nil, DataW.weightsEach, List.mem_append]
  exact Or.inr (Or.inl hn)
 obtain ⟨ao, n, c, za, e0, b0, t0, l0, l1, _⟩ := bytes_open9 h0 s0
 obtain ⟨bo, m, d, zb, e1, b1, t1, m0, m1, _⟩ := bytes_open9 h1 s1
 obtain ⟨s, e2, _, ws⟩ := DataW.trod_int Try.underlying3 h2
 obtain ⟨f, e3, _, wf⟩ := DataW.trod_int Try.underlying3 h3
 simp only [cells_bytes, cells_int] at e0 e1 e2 e3
 have hs' := bounds_i64 ws
 have hf' := bounds_i64 wf
 match cs, hl with
 | [c0, c1, c2, c3], _ =>
  simp at e0 e1 e2 e3
  exact ⟨ao, n, c, bo, m, d, ⟨za, zb, s, f⟩, by rw [e0, e1, e2, e3], ⟨b0, ⟨l0, by omega⟩, b1, ⟨m0, by omega⟩, ⟨t0, t1, by simp only; omega, by simp only; omega, by simp only; omega, by simp only; omega⟩⟩, l1, m1⟩
set_option maxRecDepth 100000 in
theorem items_open9 {H : Type} {enc : TypeId × Value → H} {w : World} {base : Nat} {held : Bool} {fuel : Nat} {a : Option Addr} {len cap : Nat} {x : DataW H × List MemPlace}
  (h : DataW.trod enc Try.prog w base (fun _ => true) held fuel 22 [.slice a len cap] = some x) (hs : Wt9 Try.prog 22 x.1) : ∃ L, Il w a L ∧ Ib L ∧ L.length = len ∧ len ≤ cap ∧ cap ≤ 9223372036854775807 ∧ (a = none → cap = 0) ∧ (∀ x ∈ L, x.key.length ≤ 140737488351232 ∧ x.val.length ≤ 140737488351232) := by
 rcases open_slice Try.underlying22 h with ⟨hcs, _⟩ | ⟨ad, l, c, m, n, D, Pc, hcs, _, hl, hm, hmm, hx, hel⟩
 ·simp at hcs
  obtain ⟨rfl, rfl, rfl⟩ := hcs
  exact ⟨[], Il.zero _ _, (fun x hx => by cases hx), rfl, Nat.le_refl _, by omega, fun _ => rfl, fun x hx => by cases hx⟩
 ·simp at hcs
  obtain ⟨rfl, rfl, rfl⟩ := hcs
  have hlm : len ≤ m := by rw [hmm]; split <;> omega
  rw [hx] at hs
  have each : ∀ i, i < len → ∃ y ao n c bo m d, w.cell? ((ad.add (i * 4)).add 0) = some (.slice ao n c) ∧ w.cell? ((ad.add (i * 4)).add 1) = some (.slice bo m d) ∧ w.cell? ((ad.add (i * 4)).add 2) = some (.int .i64 y.size) ∧ w.cell? ((ad.add (i * 4)).add 3) = some (.int .i64 y.first) ∧ Ic w ao n c bo m d y ∧ c ≤ 140737488351232 ∧ d ≤ 140737488351232 := by
   intro i hi
   obtain ⟨cs', h1, h2⟩ := hel i (by omega)
   rw [cells_item] at h1
   obtain ⟨ao, n2, c2, bo, m2, d2, y, rfl, hic⟩ := item_open9 h2 (hs.elem Try.underlying22 (List.mem_map.2 ⟨i, List.mem_range.2 hi, rfl⟩))
   obtain ⟨_, _, hc⟩ := World.cells?_some h1
   exact ⟨y, ao, n2, c2, bo, m2, d2, by simpa using hc 0 (by omega), by simpa using hc 1 (by omega), by simpa using hc 2 (by omega), by simpa using hc 3 (by omega), hic⟩
  clear hel
  obtain ⟨L, hLl, hL⟩ := list_of' len each
  refine ⟨L, ⟨fun i hi => ?_⟩, fun x hx => ?_, hLl, hl, by unfold maxLen at hm; omega, (fun e => by cases e), fun x hx => ?_⟩
  ·obtain ⟨b, off, rfl⟩ : ∃ b off, ad = ⟨b, off, none⟩ := by
    obtain ⟨_, _, _, _, _, _, _, h6, _⟩ := each 0 (by omega)
    have e' : (ad.add (0 * 4)).add 0 = ad := by simp [Addr.add]
    rw [e'] at h6
    exact cell_plain h6
   obtain ⟨ao, n2, c2, bo, m2, d2, h3, h4, h5, h6, hic, _⟩ := hL i (by omega)
   simp only [Addr.add_lit, Nat.add_zero] at h3 h4 h5 h6
   exact ⟨b, off, ao, n2, c2, bo, m2, d2, rfl, h3, h4, h5, h6, hic.k, hic.kc.1, hic.kc.2, hic.v, hic.vc.1, hic.vc.2⟩
  ·obtain ⟨j, hj, rfl⟩ := List.getElem_of_mem hx
   obtain ⟨_, _, _, _, _, _, _, _, _, _, hic, _⟩ := hL j (by omega)
   have := hic.b
   simpa [List.getD, List.getElem?_eq_getElem hj] using this
  ·obtain ⟨j, hj, rfl⟩ := List.getElem_of_mem hx
   obtain ⟨_, _, _, _, _, _, _, _, _, _, hic, k1, k2⟩ := hL j (by omega)
   have e : L.getD j it0 = L[j] := by simp [List.getD, List.getElem?_eq_getElem hj]
   have h1 := hic.k.len
   have h2 := hic.v.len
   have h3 := hic.kc.1
   have h4 := hic.vc.1
   rw [e] at h1 h2
   omega
set_option maxRecDepth 100000 in
theorem rows_open9 {H : Type} {enc : TypeId × Value → H} {w : World} {base : Nat} {held : Bool} {fuel : Nat} {a : Option Addr} {len cap : Nat} {x : DataW H × List MemPlace}
  (h : DataW.trod enc Try.prog w base (fun _ => true) held fuel 23 [.slice a len cap] = some x) (hs : Wt9 Try.prog 23 x.1) : ∃ L, Lz w a L ∧ Lb L ∧ L.length = len ∧ len ≤ cap ∧ cap ≤ 9223372036854775807 ∧ (a = none → cap = 0) ∧ (∀ x ∈ L, x.length ≤ 140737488351232) := by
 rcases open_slice Try.underlying23 h with ⟨hcs, _⟩ | ⟨ad, l, c, m, n, D, Pc, hcs, _, hl, hm, hmm, hx, hel⟩
 ·simp at hcs
  obtain ⟨rfl, rfl, rfl⟩ := hcs
  exact ⟨[], Lz.zero _ _, (fun x hx => by cases hx), rfl, Nat.le_refl _, by omega, fun _ => rfl, fun x hx => by cases hx⟩
 ·simp at hcs
  obtain ⟨rfl, rfl, rfl⟩ := hcs
  have hlm : len ≤ m := by rw [hmm]; split <;> omega
  rw [hx] at hs
  have each : ∀ i, i < len → ∃ zs, ∃ ao n c, w.cell? ((ad.add (i * 1)).add 0) = some (.slice ao n c) ∧ Byt w ao n c zs ∧ Bt zs ∧ n ≤ c ∧ c ≤ 140737488351232 ∧ (ao = none → c = 0) := by
   intro i hi
   obtain ⟨cs', h1, h2⟩ := hel i (by omega)
   rw [cells_bytes] at h1
   obtain ⟨ao, n2, c2, zs, rfl, hic⟩ := bytes_open9 h2 (hs.elem Try.underlying23 (List.mem_map.2 ⟨i, List.mem_range.2 hi, rfl⟩))
   obtain ⟨_, _, hc⟩ := World.cells?_some h1
   exact ⟨zs, ao, n2, c2, by simpa using hc 0 (by omega), hic⟩
  clear hel
  obtain ⟨L, hLl, hL⟩ := list_ofG ([] : List Int) len each
  refine ⟨L, ⟨fun i hi => ?_⟩, fun x hx => ?_, hLl, hl, by unfold maxLen at hm; omega, (fun e => by cases e), fun x hx => ?_⟩
  ·obtain ⟨b, off, rfl⟩ : ∃ b off, ad = ⟨b, off, none⟩ := by
    obtain ⟨_, _, _, _, h6, _⟩ := each 0 (by omega)
    have e' : (ad.add (0 * 1)).add 0 = ad := by simp [Addr.add]
    rw [e'] at h6
    exact cell_plain h6
   obtain ⟨ao, n2, c2, h3, h4, h5, h6, h7, _⟩ := hL i (by omega)
   simp only [Addr.add_lit, Nat.add_zero, Nat.mul_one] at h3
   exact ⟨b, off, ao, n2, c2, rfl, h3, h4, h6, by omega⟩
  ·obtain ⟨j, hj, rfl⟩ := List.getElem_of_mem hx
   obtain ⟨_, _, _, _, _, h5, _⟩ := hL j (by omega)
   simpa [List.getD, List.getElem?_eq_getElem hj] using h5
  ·obtain ⟨j, hj, rfl⟩ := List.getElem_of_mem hx
   obtain ⟨_, _, _, _, h4, _, h6, h7, _⟩ := hL j (by omega)
   have e : L.getD j [] = L[j] := by simp [List.getD, List.getElem?_eq_getElem hj]
   have h1 := h4.len
   rw [e] at h1
   omega
end Go.Proofs.Ytoakngmagoilnaa
