import Derived.Test.YtnfelndfpmnkmaaGreatDoorQ19
import Derived.ProofKit
import Derived.OpenShut
import Derived.Deep.Slices
import Derived.ChangeSame
import Derived.Test.YtnfelndfpmnkmaaGreatDoorQ7
namespace Go.Proofs.YtnfelndfpmnkmaaGreatDoor
open Go.ChangeShapes Go.WideShapes Go.ChangeAt Go.WideMaps Go.WideElems Go.RowKit Go.Deep
theorem cells_bytes : Tryz.prog.cellsOf 26 = 1 := by kernel_rfl
theorem cells_int : Tryz.prog.cellsOf 3 = 1 := by kernel_rfl
theorem cells_kid : Tryz.prog.cellsOf 61 = 2 := by kernel_rfl
theorem cell_plain {w : World} {a : Addr} {v : Value} (h : w.cell? a = some v) : ∃ b off, a = ⟨b, off, none⟩ := by
 obtain ⟨b, off, spot⟩ := a
 have : spot = none := World.cell?_spot h
 exact ⟨b, off, by rw [this]⟩
theorem bytes_open {H : Type} {enc : TypeId × Value → H} {w : World} {base : Nat} {held : Bool} {fuel : Nat} {cs : List Value} {x : DataW H × List MemPlace}
  (h : DataW.trod enc Tryz.prog w base (fun _ => true) held fuel 26 cs = some x) : ∃ ao n c zs, cs = [.slice ao n c] ∧ Byt w ao n c zs ∧ Bt zs ∧ n ≤ c ∧ c ≤ 9223372036854775807 := by
 rcases open_ints Tryz.underlying26 Tryz.underlying5 (by kernel_rfl) h with ⟨hcs, _⟩ | ⟨x, l, c, zs, hcs, _, hl, hm, hz, _, hcell, hwz⟩
 ·exact ⟨none, 0, 0, [], hcs, Byt.empty w, Bt.nil, Nat.le_refl _, by omega⟩
 ·obtain ⟨h1, h2, h3, h4⟩ := byt_of_row (zs := zs) (.inr ⟨_, rfl, hl, hm, by simpa using hz, hcell, hwz⟩)
  exact ⟨_, _, _, _, hcs, h1, h2, h3, h4⟩
theorem list_ofG {T : Type} (d : T) {P : Nat → T → Prop} : ∀ (n : Nat), (∀ i, i < n → ∃ x, P i x) → ∃ L : List T, L.length = n ∧ ∀ i, i < n → P i (L.getD i d)
 | 0, _ => ⟨[], rfl, fun i hi => by omega⟩
 | n + 1, h => by
  obtain ⟨L, hl, hL⟩ := list_ofG d n (fun i hi => h i (by omega))
  obtain ⟨z, hz⟩ := h n (by omega)
  refine ⟨L ++ [z], by simp [hl], fun i hi => ?_⟩
  by_cases hin : i < n
  ·have e : (L ++ [z]).getD i d = L.getD i d := by simp [List.getD, List.getElem?_append_left (show i < L.length by omega)]
   rw [e]; exact hL i hin
  ·have : i = n := by omega
   subst this
   have e : (L ++ [z]).getD i d = z := by subst hl; simp [List.getD]
   rw [e]; exact hz
theorem struct2 {H : Type} {enc : TypeId × Value → H} {P : Program} {w : World} {base : Nat} {spare : Nat → Bool} {held : Bool} {t : TypeId} {f0 f1 : Field} {fuel : Nat} {cs : List Value} {x : DataW H × List MemPlace} (ht : P.underlying t = some (.struct #[f0, f1])) (h : DataW.trod enc P w base spare held fuel t cs = some x) :
  ∃ y0 y1 n, cs.length = P.cellsOf t ∧ DataW.trod enc P w base spare held n f0.type ((cs.drop f0.offset).take (P.cellsOf f0.type)) = some y0 ∧ DataW.trod enc P w base spare held n f1.type ((cs.drop f1.offset).take (P.cellsOf f1.type)) = some y1 := by
 obtain ⟨xs, n, _, rfl, hl, hlen, hf⟩ := DataW.trod_struct ht h
 match xs, hlen with
 | [y0, y1], _ => exact ⟨y0, y1, n, hl, by simpa using hf 0 f0 rfl, by simpa using hf 1 f1 rfl⟩
set_option maxRecDepth 100000 in
theorem rows_open5 {H : Type} {enc : TypeId × Value → H} {w : World} {base : Nat} {held : Bool} {fuel : Nat} {a : Option Addr} {len cap : Nat} {x : DataW H × List MemPlace}
  (h : DataW.trod enc Tryz.prog w base (fun _ => true) held fuel 22 [.slice a len cap] = some x) : ∃ L, Lz w a L ∧ Lb L ∧ L.length = len ∧ len ≤ cap ∧ cap ≤ 9223372036854775807 := by
 rcases open_slice Tryz.underlying22 h with ⟨hcs, _⟩ | ⟨ad, l, c, m, n, D, Pc, hcs, _, hl, hm, hmm, _, hel⟩
 ·simp at hcs
  obtain ⟨rfl, rfl, rfl⟩ := hcs
  exact ⟨[], Lz.zero _ _, (fun x hx => by cases hx), rfl, Nat.le_refl _, by omega⟩
 ·simp at hcs
  obtain ⟨rfl, rfl, rfl⟩ := hcs
  have hlm : len ≤ m := by rw [hmm]; split <;> omega
  have each : ∀ i, i < len → ∃ zs, ∃ ao n c, w.cell? ((ad.add (i * 1)).add 0) = some (.slice ao n c) ∧ Byt w ao n c zs ∧ Bt zs ∧ n ≤ c ∧ c ≤ 9223372036854775807 := by
   intro i hi
   obtain ⟨cs', h1, h2⟩ := hel i (by omega)
   rw [cells_bytes] at h1
   obtain ⟨ao, n2, c2, zs, rfl, hic⟩ := bytes_open h2
   obtain ⟨_, _, hc⟩ := World.cells?_some h1
   exact ⟨zs, ao, n2, c2, by simpa using hc 0 (by omega), hic⟩
  clear hel
  obtain ⟨L, hLl, hL⟩ := list_ofG ([] : List Int) len each
  refine ⟨L, ⟨fun i hi => ?_⟩, fun x hx => ?_, hLl, hl, by unfold maxLen at hm; omega⟩
  ·obtain ⟨b, off, rfl⟩ : ∃ b off, ad = ⟨b, off, none⟩ := by
    obtain ⟨_, _, _, _, h6, _⟩ := each 0 (by omega)
    have e' : (ad.add (0 * 1)).add 0 = ad := by simp [Addr.add]
    rw [e'] at h6
    exact cell_plain h6
   obtain ⟨ao, n2, c2, h3, h4, h5, h6, h7⟩ := hL i (by omega)
   simp only [Addr.add_lit, Nat.add_zero, Nat.mul_one] at h3
   exact ⟨b, off, ao, n2, c2, rfl, h3, h4, h6, h7⟩
  ·obtain ⟨j, hj, rfl⟩ := List.getElem_of_mem hx
   obtain ⟨_, _, _, _, _, h5, _⟩ := hL j (by omega)
   simpa [List.getD, List.getElem?_eq_getElem hj] using h5
set_option maxRecDepth 100000 in
theorem kids_open {H : Type} {enc : TypeId × Value → H} {w : World} {base : Nat} {held : Bool} {fuel : Nat} {a : Option Addr} {len cap : Nat} {x : DataW H × List MemPlace}
  (h : DataW.trod enc Tryz.prog w base (fun _ => true) held fuel 23 [.slice a len cap] = some x) : ∃ L, Kl w a L ∧ Kb L ∧ L.length = len ∧ len ≤ cap ∧ cap ≤ 9223372036854775807 := by
 rcases open_slice Tryz.underlying23 h with ⟨hcs, _⟩ | ⟨ad, l, c, m, n, D, Pc, hcs, _, hl, hm, hmm, _, hel⟩
 ·simp at hcs
  obtain ⟨rfl, rfl, rfl⟩ := hcs
  exact ⟨[], Kl.zero _ _, (fun x hx => by cases hx), rfl, Nat.le_refl _, by omega⟩
 ·simp at hcs
  obtain ⟨rfl, rfl, rfl⟩ := hcs
  have hlm : len ≤ m := by rw [hmm]; split <;> omega
  have each : ∀ i, i < len → ∃ y : Kd, w.cell? ((ad.add (i * 2)).add 0) = some (.int .i64 y.no) ∧ w.cell? ((ad.add (i * 2)).add 1) = some (.int .i64 y.keys) ∧ Kdb y := by
   intro i hi
   obtain ⟨cs', h1, h2⟩ := hel i (by omega)
   rw [cells_kid] at h1
   obtain ⟨y0, y1, n', hl', h3, h4⟩ := struct2 Tryz.underlying61 h2
   rw [cells_kid] at hl'
   obtain ⟨s, e2, _, ws⟩ := DataW.trod_int Tryz.underlying3 h3
   obtain ⟨f, e3, _, wf⟩ := DataW.trod_int Tryz.underlying3 h4
   simp only [cells_int] at e2 e3
   have hs := bounds_i64 ws
   have hf := bounds_i64 wf
   match cs', hl', h1 with
   | [c0, c1], _, h1 =>
    simp at e2 e3
    obtain ⟨_, _, hc⟩ := World.cells?_some h1
    exact ⟨⟨s, f⟩, by rw [← e2]; simpa using hc 0 (by omega), by rw [← e3]; simpa using hc 1 (by omega), ⟨by simp only; omega, by simp only; omega, by simp only; omega, by simp only; omega⟩⟩
  clear hel
  obtain ⟨L, hLl, hL⟩ := list_ofG kd0 len each
  refine ⟨L, ⟨fun i hi => ?_⟩, fun x hx => ?_, hLl, hl, by unfold maxLen at hm; omega⟩
  ·obtain ⟨b, off, rfl⟩ : ∃ b off, ad = ⟨b, off, none⟩ := by
    obtain ⟨_, h6, _⟩ := each 0 (by omega)
    have e' : (ad.add (0 * 2)).add 0 = ad := by simp [Addr.add]
    rw [e'] at h6
    exact cell_plain h6
   obtain ⟨h3, h4, h5⟩ := hL i (by omega)
   simp only [Addr.add_lit, Nat.add_zero] at h3 h4
   exact ⟨b, off, rfl, h3, h4⟩
  ·obtain ⟨j, hj, rfl⟩ := List.getElem_of_mem hx
   obtain ⟨_, _, h5⟩ := hL j (by omega)
   simpa [List.getD, List.getElem?_eq_getElem hj] using h5
end Go.Proofs.YtnfelndfpmnkmaaGreatDoor
namespace Go.Proofs.YtnfelndfpmnkmaaGreatDoor
open Go.RowKit
theorem Ow.blk {w : World} {g cap : Nat} {zs : List Int} (h : Ow w g cap zs) : ∃ cur, w.heap[g]? = some (.cells cur 5 (0, 0)) := by
 obtain ⟨cur, h1, _⟩ := h.ex
 exact ⟨cur, h1⟩
theorem ow_byt {w : World} {g cap : Nat} {zs ts : List Int} (h : Ow w g cap (zs ++ ts)) (n : Nat) (hn : n = zs.length) : Byt w (some ⟨g, 0, none⟩) n cap zs := h.part.byt n hn
theorem own_kept5 {w w' : World} {base sz : Nat} {e : TypeId} {v : Value} {n : Nat} {xs : List Value} (h : w.ownsRow base e sz v n xs) (hg : w.grownBy w' none) : w'.ownsRow base e sz v n xs :=
 h.kept hg (by cases v.ownBlock with | none => exact .inl rfl | some g => exact .inr (by simp))
structure Lp (w : World) (base : Nat) (gs : List (Nat × Nat)) (xs : List Value) (L : List (List Int)) : Prop where
 gl : gs.length = L.length
 len : xs.length = L.length
 el : ∀ j, j < L.length → xs[j]? = some (.slice (some ⟨(gs.getD j (0, 0)).1, 0, none⟩) (L.getD j []).length (gs.getD j (0, 0)).2) ∧ Ow w (gs.getD j (0, 0)).1 (gs.getD j (0, 0)).2 (L.getD j [] ++ [201, 202]) ∧ base ≤ (gs.getD j (0, 0)).1
 dif : ∀ i j, i < j → j < L.length → (gs.getD i (0, 0)).1 < (gs.getD j (0, 0)).1
theorem Lp.nil (w : World) (base : Nat) : Lp w base [] [] [] := ⟨rfl, rfl, fun j hj => by simp at hj, fun i j _ hj => by simp at hj⟩
theorem Lp.kept {w w' : World} {base : Nat} {gs : List (Nat × Nat)} {xs : List Value} {L : List (List Int)} {row : Option Nat} (h : Lp w base gs xs L) (hg : w.grownBy w' row) (hne : ∀ (g : Nat) (cur : Array Value), base ≤ g → w.heap[g]? = some (.cells cur 5 (0, 0)) → some g ≠ row) : Lp w' base gs xs L := by
 refine ⟨h.gl, h.len, fun j hj => ?_, h.dif⟩
 obtain ⟨h1, h2, h3⟩ := h.el j hj
 obtain ⟨cur, h4⟩ := h2.blk
 exact ⟨h1, h2.kept hg (hne _ cur h3 h4), h3⟩
theorem Lp.keptN {w w' : World} {base : Nat} {gs : List (Nat × Nat)} {xs : List Value} {L : List (List Int)} (h : Lp w base gs xs L) (hg : w.grownBy w' none) : Lp w' base gs xs L := h.kept hg (fun _ _ _ _ => by simp)
theorem Lp.snoc {w : World} {base : Nat} {gs : List (Nat × Nat)} {xs : List Value} {L : List (List Int)} (h : Lp w base gs xs L) {g c n : Nat} {x : List Int} (hx : Ow w g c (x ++ [201, 202])) (hn : x.length = n) (hb : base ≤ g) (hlt : ∀ j, j < L.length → (gs.getD j (0, 0)).1 < g) :
  Lp w base (gs ++ [(g, c)]) (xs ++ [.slice (some ⟨g, 0, none⟩) n c]) (L ++ [x]) := by
 have hl := h.len
 have hgl := h.gl
 refine ⟨by simp [hgl], by simp [hl], fun j hj => ?_, fun i j hij hj => ?_⟩
 ·rw [List.length_append] at hj
  simp only [List.length_cons, List.length_nil] at hj
  by_cases e : j < L.length
  ·obtain ⟨h1, h2, h3⟩ := h.el j e
   have eg : (L ++ [x]).getD j [] = L.getD j [] := by simp [List.getD, List.getElem?_append_left e]
   have ef : (gs ++ [(g, c)]).getD j (0, 0) = gs.getD j (0, 0) := by simp [List.getD, List.getElem?_append_left (show j < gs.length by omega)]
   rw [eg, ef]
   exact ⟨by rw [List.getElem?_append_left (by omega)]; exact h1, h2, h3⟩
  ·obtain rfl : j = L.length := by omega
   have eg : (L ++ [x]).getD L.length [] = x := by simp [List.getD]
   have ef : (gs ++ [(g, c)]).getD L.length (0, 0) = (g, c) := by rw [← hgl]; simp [List.getD]
   rw [eg, ef, hn]
   exact ⟨by rw [List.getElem?_append_right (by omega), hl, Nat.sub_self]; rfl, hx, hb⟩
 ·rw [List.length_append] at hj
  simp only [List.length_cons, List.length_nil] at hj
  have ei : (gs ++ [(g, c)]).getD i (0, 0) = gs.getD i (0, 0) := by simp [List.getD, List.getElem?_append_left (show i < gs.length by omega)]
  rw [ei]
  by_cases e : j < L.length
  ·have ej : (gs ++ [(g, c)]).getD j (0, 0) = gs.getD j (0, 0) := by simp [List.getD, List.getElem?_append_left (show j < gs.length by omega)]
   rw [ej]; exact h.dif i j hij e
  ·obtain rfl : j = L.length := by omega
   have ej : (gs ++ [(g, c)]).getD L.length (0, 0) = (g, c) := by rw [← hgl]; simp [List.getD]
   rw [ej]; exact hlt i hij
structure Ln (w : World) (base A cap h : Nat) (gs : List (Nat × Nat)) (xs : List Value) (L : List (List Int)) : Prop where
 own : w.ownsRow base 26 1 (.slice (some ⟨A, 0, none⟩) (L.length + 1) cap) (L.length + 1) (xs ++ [.slice (some ⟨h, 0, none⟩) 1 1])
 lp : Lp w base gs xs L
 last : Ow w h 1 [203]
 lb : base ≤ h
 sz : ∀ s ∈ L, s.length ≤ 1000000
theorem Ln.keptN {w w' : World} {base A cap h : Nat} {gs : List (Nat × Nat)} {xs : List Value} {L : List (List Int)} (k : Ln w base A cap h gs xs L) (hg : w.grownBy w' none) : Ln w' base A cap h gs xs L :=
 ⟨own_kept5 k.own hg, k.lp.keptN hg, k.last.keptN hg, k.lb, k.sz⟩
theorem Ln.cap_le {w : World} {base A cap h : Nat} {gs : List (Nat × Nat)} {xs : List Value} {L : List (List Int)} (k : Ln w base A cap h gs xs L) : L.length + 1 ≤ cap ∧ cap ≤ 9223372036854775807 := by
 rcases k.own.2 with ⟨e, _⟩ | ⟨g, cap', cur, hv, _, _, hc, hm, _⟩
 ·cases e
 ·injection hv with _ _ e3
  subst e3
  exact ⟨hc, by unfold maxLen at hm; omega⟩
theorem Ln.cell {w : World} {base A cap h : Nat} {gs : List (Nat × Nat)} {xs : List Value} {L : List (List Int)} (k : Ln w base A cap h gs xs L) (i : Nat) (hi : i < L.length) : w.cell? ⟨A, i, none⟩ = some (.slice (some ⟨(gs.getD i (0, 0)).1, 0, none⟩) (L.getD i []).length (gs.getD i (0, 0)).2) := by
 have hl := k.lp.len
 rw [k.own.cellAt i (by omega), List.getElem?_append_left (by omega)]
 exact (k.lp.el i hi).1
theorem Ln.cellLast {w : World} {base A cap h : Nat} {gs : List (Nat × Nat)} {xs : List Value} {L : List (List Int)} (k : Ln w base A cap h gs xs L) : w.cell? ⟨A, L.length, none⟩ = some (.slice (some ⟨h, 0, none⟩) 1 1) := by
 have hl := k.lp.len
 rw [k.own.cellAt L.length (by omega), List.getElem?_append_right (by omega), hl, Nat.sub_self]; rfl
theorem Ln.lz {w : World} {base A cap h : Nat} {gs : List (Nat × Nat)} {xs : List Value} {L : List (List Int)} (k : Ln w base A cap h gs xs L) : Lz w (some ⟨A, 0, none⟩) L := by
 refine ⟨fun i hi => ?_⟩
 obtain ⟨_, h2, _⟩ := k.lp.el i hi
 have hle := h2.le
 have hmx := h2.max
 rw [List.length_append] at hle
 simp only [List.length_cons, List.length_nil] at hle
 exact ⟨A, 0, _, _, _, rfl, by rw [Nat.zero_add]; exact k.cell i hi, ow_byt h2 _ rfl, by omega, hmx⟩
theorem Ln.set {w : World} {base A cap h : Nat} {gs : List (Nat × Nat)} {xs : List Value} {L : List (List Int)} (k : Ln w base A cap h gs xs L) (i : Nat) (hi : i < L.length) (j : Nat) (hj : j < (L.getD i []).length) (v : Int) :
  Lz (w.setCell ⟨(gs.getD i (0, 0)).1, j, none⟩ (.int .u8 v)) (some ⟨A, 0, none⟩) (L.set i ((L.getD i []).set j v)) := by
 have hg := grown_cell w (gs.getD i (0, 0)).1 j (.int .u8 v)
 obtain ⟨_, hi2, hi3⟩ := k.lp.el i hi
 obtain ⟨cur, hcur⟩ := hi2.blk
 have hA : some (gs.getD i (0, 0)).1 ≠ some A := own_ne k.own hcur (by decide)
 refine ⟨fun m hm => ?_⟩
 rw [List.length_set] at hm
 have hcell : (w.setCell ⟨(gs.getD i (0, 0)).1, j, none⟩ (.int .u8 v)).cell? ⟨A, 0 + m, none⟩ = some (.slice (some ⟨(gs.getD m (0, 0)).1, 0, none⟩) (L.getD m []).length (gs.getD m (0, 0)).2) := by
  rw [Nat.zero_add]
  exact hg.cell (k.cell m hm) (fun e => hA e.symm)
 obtain ⟨_, h2, _⟩ := k.lp.el m hm
 have hle := h2.le
 have hmx := h2.max
 rw [List.length_append] at hle
 simp only [List.length_cons, List.length_nil] at hle
 refine ⟨A, 0, _, _, _, rfl, hcell, ?_, by omega, hmx⟩
 by_cases e : m = i
 ·subst e
  have eg : (L.set m ((L.getD m []).set j v)).getD m [] = (L.getD m []).set j v := by simp only [List.getD, List.getElem?_set_self hm, Option.getD_some]
  rw [eg]
  have h3 := h2.set j v (by rw [List.length_append]; omega)
  rw [List.set_append_left _ _ hj] at h3
  exact ow_byt h3 _ (by rw [List.length_set])
 ·have eg : (L.set i ((L.getD i []).set j v)).getD m [] = L.getD m [] := by
   simp only [List.getD]
   rw [List.getElem?_set_ne (fun h => e h.symm)]
  rw [eg]
  refine ow_byt (h2.kept hg (fun e2 => ?_)) _ rfl
  have e3 := Option.some.inj e2
  rcases Nat.lt_or_gt_of_ne e with q | q
  ·have := k.lp.dif m i q hi; omega
  ·have := k.lp.dif i m q hm; omega
theorem grown_app5 {w wr w' : World} {o : Obj} {base n : Nat} {v : Value} {xs : List Value} {t : TypeId} {sz : Nat} (hg : w.grownBy wr none) (ho : wr.ownsRow base t sz v n xs) (hb : w.heap.size ≤ base) (h : (wr.alloc o).grownBy w' v.ownBlock) : w.grownBy w' none := by
 refine ⟨h.os.trans hg.os, h.tape.trans hg.tape, h.output.trans hg.output, ?_, fun q hq _ => ?_⟩
 ·have := h.size; have := hg.size; simp at *; omega
 ·have hq2 : q < wr.heap.size := Nat.lt_of_lt_of_le hq hg.size
  rw [h.block q (by simp; omega) (by intro e; have := (ho.lt q e.symm).1; omega), Below.heap_alloc wr _ q hq2]
  exact hg.block q hq (by simp)
set_option maxHeartbeats 2000000 in
set_option maxRecDepth 100000 in
theorem lent_any (a : Option Addr) (n cap : Nat) (L : List (List Int)) (w : World) (hl : Lz w a L) (hn : L.length = n) (hm : n ≤ 5000) (hs : ∀ s ∈ L, s.length ≤ 1000000) :
  Calls Tryz.prog 7 #[.slice a n cap] w fun en w' => (∃ A c h gs xs, en = .returned (.slice (some ⟨A, 0, none⟩) n c) ∧ Ln w' w.heap.size A c h gs xs L) ∧ w.grownBy w' none := by
 obtain ⟨i0, hi, hz0, hz1, hz2⟩ := info_parts info_bytesS
 have HL := hid_intro hl
 have HS := hid_intro hs
 clear hl hs
 go_enter Tryz.func7, Tryz.ntmps7
 go_wp2
 go_loopw [3, 4, 5] (fun sl si _ wr => ∃ (i : Nat) (gs : List (Nat × Nat)) (xs : List Value), i ≤ n ∧ si = .int .i64 i ∧ Lp wr w.heap.size gs xs (L.take i) ∧ wr.ownsRow w.heap.size 26 1 sl i xs ∧ w.grownBy wr none) (fun _ si _ _ => n - (intOf si).toNat)
 case atStart => exact ⟨0, [], [], Nat.zero_le _, rfl, Lp.nil _ _, ⟨rfl, .inl ⟨rfl, rfl⟩⟩, World.grownBy.refl _ _⟩
 case round =>
  obtain ⟨i, gs, xs, hi', rfl, hlp, hown, hg⟩ := hrel
  have HP := hid_intro hlp
  have HO := hid_intro hown
  have HG := hid_intro hg
  clear hlp hown hg
  by_cases hlt : i < n
  ·obtain ⟨b1, off, ao, k, c, rfl, q2, q3, q4, q5⟩ := HL.out.row i (by omega)
   have c0 := HG.out.cell q2 (by simp)
   have B0 := hid_intro (q3.keptN HG.out)
   have HQ2 := hid_intro q2
   have hk := q3.len
   have hk2 := HS.out _ (lget_mem (show i < L.length by omega))
   have HTK : Hid (L.take (i + 1) = L.take i ++ [L.getD i []]) := by
    show _ = _
    rw [List.take_add_one, List.getElem?_eq_getElem (show i < L.length by omega)]
    simp [List.getD, List.getElem?_eq_getElem (show i < L.length by omega)]
   have HTL : Hid ((L.take i).length = i) := by show _ = _; rw [List.length_take]; omega
   clear q2 q3
   generalize L.getD i [] = x at *
   go_wp2_with fail
   refine (refBytes_any ao k c x _ B0.out (by omega)).mono ?_
   rintro en w2 ⟨rfl, hown2, hg2, hs2⟩
   have O2 := hid_intro (hown2.alloc (.cells #[.int .u8 201, .int .u8 202] 5))
   have hown2' := hown2
   have HG2 := hid_intro hg2
   have HP2 := hid_intro (HP.out.keptN hg2)
   have HO2 := hid_intro (own_kept5 HO.out hg2)
   have BL := hid_intro (Byt.lit w2 5 #[.int .u8 201, .int .u8 202] [201, 202] 2 rfl rfl)
   have HWR := hid_intro HG.out.size
   have HGA := hid_intro (grown_trans HG.out hg2)
   clear hown2 hg2 B0
   have HO2' := hid_intro O2.out
   go_wp2_with (at_builtin; refine wpList_append_byt rfl _ _ rfl wr.heap.size _ k x rfl O2.out (some ⟨w2.heap.size, 0, none⟩) 2 2 [201, 202] rfl BL.out (by omega) (by simp; omega) ?_)
   intro v3 w3 ho3 hg3
   have ho3' : w3.ownsRow wr.heap.size 5 1 v3 (k + 2) ((x ++ [201, 202]).map (Value.int .u8)) := by simpa using ho3
   obtain ⟨g, cc, rfl, hgb, hgl, hgc⟩ := owns_shape ho3' (by omega)
   obtain ⟨hOw, _, _, _⟩ := Ow.of_owns ho3'
   have hne : ∀ (q : Nat), q < wr.heap.size → some q ≠ (Value.slice (some ⟨wr.heap.size, 0, none⟩) k k).ownBlock := fun q hq e => by
    have := (O2.out.lt q e.symm).1; omega
   have ga := World.grownBy_alloc w2 (.cells #[.int .u8 201, .int .u8 202] 5) none
   have hg13 : wr.grownBy w3 none := grown_own HG2.out hown2' (Nat.le_refl _) hg3
   have HP3 := hid_intro (HP.out.keptN hg13)
   have HO3 := hid_intro (own_kept5 HO.out hg13)
   have HG3 := hid_intro (grown_trans HG.out hg13)
   have HOW := hid_intro hOw
   have c1 := HG3.out.cell HQ2.out (by simp)
   have HLT : Hid (∀ j, j < (L.take i).length → (gs.getD j (0, 0)).1 < g) := fun j hj => by
    have := (HP.out.el j hj).2.1.lt
    omega
   have hwg := HG.out.size
   clear hne ga hg13 hg3 ho3 ho3' hOw HP HO HG HG2 O2 BL HP2 HO2 HGA HO2' c0 hown2'
   have g1 : (k : Int) ≤ (cc : Int) := by omega
   have g2 : (0 : Int) ≤ (k : Int) := by omega
   go_wp2_with (at_builtin; refine wpList_append_own _ rfl _ _ 22 rfl w.heap.size 26 i0 (.slice none 0 0) 1 24 Tryz.underlying22 hi hz0 hz1 hz2 rfl (by decide) _ i xs rfl (HO3.out.alloc _) ⟨w3.heap.size, 0, none⟩ 1 1 [.slice (some ⟨g, 0, none⟩) k cc] rfl rfl (cell_one_new _ _ _) (by intro u hu; simp at hu; subst hu; rfl) (by unfold maxLen; omega) (by omega) (by have := HG3.out.size; simp; omega) ?_)
   intro v' w4 ho4 hg4 _
   have hg34 := World.grownBy_alloc w3 (.cells #[.slice (some ⟨g, 0, none⟩) k cc] 26) none
   have hnu : ∀ (q : Nat) (cur : Array Value), w.heap.size ≤ q → (w3.alloc (.cells #[.slice (some ⟨g, 0, none⟩) k cc] 26)).heap[q]? = some (.cells cur 5 (0, 0)) → some q ≠ _ := fun q cur _ hq => own_ne (HO3.out.alloc (.cells #[.slice (some ⟨g, 0, none⟩) k cc] 26)) hq (by decide)
   have HP4 := hid_intro ((HP3.out.keptN hg34).kept hg4 hnu)
   have HW4 : Hid (Ow w4 g cc (x ++ [201, 202])) := by
    have h1 := HOW.out.keptN hg34
    obtain ⟨cur, hcur⟩ := h1.blk
    exact h1.kept hg4 (hnu g cur (by omega) hcur)
   have HG4 := hid_intro (grown_app5 HG3.out HO3.out (Nat.le_refl _) hg4)
   have HO4 := hid_intro ho4
   clear hg34 hnu ho4 hg4 HP3 HO3 HG3 HOW c1
   go_wp2
   go_roundw
   case rel =>
    refine ⟨i + 1, gs ++ [(g, cc)], _, by omega, by go_num, ?_, HO4.out, HG4.out⟩
    rw [HTK.out]
    exact HP4.out.snoc HW4.out hk (by omega) HLT.out
   case measure => simp [intOf]; omega
  ·have hin : i = n := by omega
   subst hin
   have hLt : L.take i = L := by rw [← hn, List.take_length]
   rw [hLt] at HP
   clear hLt
   have b1 := Byt.lit wr 5 #[.int .u8 203] [203] 1 rfl rfl
   have OW1 : Hid (Ow (wr.alloc (.cells #[.int .u8 203] 5)) wr.heap.size 1 [203]) := ⟨⟨#[.int .u8 203], heap_alloc_new wr _, rfl, fun j hj => by
    obtain rfl : j = 0 := by simp at hj; omega
    rfl⟩, by simp, by omega⟩
   have ga := World.grownBy_alloc wr (.cells #[.int .u8 203] 5) none
   have HP1 := hid_intro (HP.out.keptN ga)
   have HO1 := hid_intro (own_kept5 HO.out ga)
   have HG1 := hid_intro (grown_trans HG.out ga)
   have hwg := HG.out.size
   have hs1 : (wr.alloc (.cells #[.int .u8 203] 5)).heap.size = wr.heap.size + 1 := by simp
   clear b1 ga HP HO HG
   go_wp2_with (at_builtin; refine wpList_append_own _ rfl _ _ 22 rfl w.heap.size 26 i0 (.slice none 0 0) 1 24 Tryz.underlying22 hi hz0 hz1 hz2 rfl (by decide) _ i xs rfl (HO1.out.alloc _) ⟨wr.heap.size + 1, 0, none⟩ 1 1 [.slice (some ⟨wr.heap.size, 0, none⟩) 1 1] rfl rfl (by rw [← hs1]; exact cell_one_new _ _ _) (by intro u hu; simp at hu; subst hu; rfl) (by unfold maxLen; omega) (by omega) (by have := HG1.out.size; simp; omega) ?_)
   intro v' w4 ho4 hg4 _
   generalize wr.alloc (.cells #[.int .u8 203] 5) = w3 at *
   generalize wr.heap.size = h at *
   have hg34 := World.grownBy_alloc w3 (.cells #[.slice (some ⟨h, 0, none⟩) 1 1] 26) none
   have hnu : ∀ (q : Nat) (cur : Array Value), w.heap.size ≤ q → (w3.alloc (.cells #[.slice (some ⟨h, 0, none⟩) 1 1] 26)).heap[q]? = some (.cells cur 5 (0, 0)) → some q ≠ _ := fun q cur _ hq => own_ne (HO1.out.alloc (.cells #[.slice (some ⟨h, 0, none⟩) 1 1] 26)) hq (by decide)
   have HP4 := hid_intro ((HP1.out.keptN hg34).kept hg4 hnu)
   have HW4 : Hid (Ow w4 h 1 [203]) := by
    have h1 := OW1.out.keptN hg34
    obtain ⟨cur, hcur⟩ := h1.blk
    exact h1.kept hg4 (hnu h cur (by omega) hcur)
   have HG4 := hid_intro (grown_app5 HG1.out HO1.out (Nat.le_refl _) hg4)
   rcases ho4.2 with ⟨e, h0⟩ | ⟨A, cap', cur, hv, _, _, hc, hmx, _⟩
   ·omega
   ·subst hv
    have HLN : Hid (Ln w4 w.heap.size A cap' h gs xs L) := ⟨by rw [hn]; exact ho4, HP4.out, HW4.out, by omega, HS.out⟩
    have g1 : (i : Int) ≤ (cap' : Int) := by omega
    have g2 : (0 : Int) ≤ (i : Int) := by omega
    clear hg34 hnu ho4 hg4 HP4 HW4 HP1 HO1 HG1 OW1 hs1
    go_wp2
    go_ret
    exact ⟨⟨A, cap', h, gs, xs, rfl, HLN.out⟩, HG4.out⟩
end Go.Proofs.YtnfelndfpmnkmaaGreatDoor
namespace Go.Proofs.YtnfelndfpmnkmaaGreatDoor
open Go.RowKit
theorem mark_one (x : List Int) : (x ++ [201, 202]).getD x.length 0 = 201 := by
 unfold List.getD
 rw [List.getElem?_append_right (Nat.le_refl _), Nat.sub_self]
 rfl
theorem mark_two (x : List Int) : (x ++ [201, 202]).getD (x.length + 1) 0 = 202 := by
 unfold List.getD
 rw [List.getElem?_append_right (by omega), Nat.add_sub_cancel_left]
 rfl
def kdm : Kd := ⟨201, 202⟩
set_option maxHeartbeats 2000000 in
set_option maxRecDepth 100000 in
theorem stays_any (base A c h : Nat) (gs : List (Nat × Nat)) (xs : List Value) (a : Option Addr) (n cap : Nat) (L : List (List Int)) (w : World) (hk : Ln w base A c h gs xs L) (hl : Lz w a L) (hlb : Lb L) (hn : L.length = n) (hm : n ≤ 5000) :
  Calls Tryz.prog 20 #[.slice (some ⟨A, 0, none⟩) n c, .slice a n cap] w fun en w' => en = .returned (.bool true) ∧ w.grownBy w' none := by
 have HK := hid_intro hk
 have HL := hid_intro hl
 have hcl := hk.cap_le
 clear hk hl
 go_enter Tryz.func20, Tryz.ntmps20
 go_wp2_with fail
 refine (sameLists_any (some ⟨A, 0, none⟩) n c L a n cap L _ HK.out.lz hlb hn HL.out hlb hn (by omega)).mono ?_
 rintro en w1 ⟨⟨b8, rfl, hb8⟩, hq8⟩
 obtain rfl : b8 = true := hb8.2 rfl
 have Q1 := hid_intro hq8
 clear hb8 hq8
 go_wp2
 go_loopw [5, 6, 7, 8] (fun so si _ _ wr => ∃ i : Nat, i ≤ n ∧ si = .int .i64 i ∧ so = .bool true ∧ Qt w wr) (fun _ si _ _ _ => n - (intOf si).toNat)
 case atStart => exact ⟨0, Nat.zero_le _, rfl, rfl, Q1.out⟩
 case round =>
  obtain ⟨i, hi', rfl, rfl, hq⟩ := hrel
  have HQ := hid_intro hq
  clear hq Q1
  by_cases hlt : i < n
  ·obtain ⟨b1, off, ao, k, cc, rfl, q2, q3, q4, q5⟩ := HL.out.row i (by omega)
   have c0 := (HQ.out.cell _).trans q2
   have c1 := (HQ.out.cell _).trans (HK.out.cell i (by omega))
   obtain ⟨_, h2, _⟩ := HK.out.lp.el i (by omega)
   have hk := q3.len
   have hsz := HK.out.sz _ (lget_mem (show i < L.length by omega))
   have c2 := (HQ.out.cell _).trans (h2.cell (j := k) (by rw [List.length_append]; simp only [List.length_cons, List.length_nil]; omega))
   have c3 := (HQ.out.cell _).trans (h2.cell (j := k + 1) (by rw [List.length_append]; simp only [List.length_cons, List.length_nil]; omega))
   have e2 : (L.getD i [] ++ [201, 202]).getD k 0 = 201 := by rw [← hk]; exact mark_one _
   have e3 : (L.getD i [] ++ [201, 202]).getD (k + 1) 0 = 202 := by rw [← hk]; exact mark_two _
   rw [e2] at c2
   rw [e3] at c3
   have hle := h2.le
   have hmx := h2.max
   rw [List.length_append] at hle
   simp only [List.length_cons, List.length_nil] at hle
   rw [hk] at c1 hle hsz
   clear q2 q3 h2 hk e2 e3
   generalize (gs.getD i (0, 0)).1 = g at *
   generalize (gs.getD i (0, 0)).2 = gc at *
   have g1 : (k : Int) + 2 ≤ (gc : Int) := by omega
   have g2 : (k : Int) < (k : Int) + 2 := by omega
   have g3 : (k : Int) + 1 < (k : Int) + 2 := by omega
   go_wp2
   go_roundw
   case rel => exact ⟨i + 1, by omega, by go_num, rfl, HQ.out⟩
   case measure => simp [intOf]; omega
  ·have hin : i = n := by omega
   subst hin
   have c0 := (HQ.out.cell _).trans HK.out.cellLast
   have c1 := (HQ.out.cell _).trans (HK.out.last.cell (j := 0) (by simp))
   rw [hn] at c0
   have c1' : wr.cell? ⟨h, 0, none⟩ = some (.int .u8 203) := c1
   have g1 : (i : Int) + 1 ≤ (c : Int) := by omega
   have g2 : (i : Int) < (i : Int) + 1 := by omega
   clear c1
   go_wp2
   go_ret
   exact ⟨rfl, HQ.out.grown _⟩
structure Lk (w : World) (base A cap : Nat) (K : List Kd) : Prop where
 own : w.ownsRow base 61 2 (.slice (some ⟨A, 0, none⟩) (K.length + 1) cap) (K.length + 1) (kc (K ++ [kdm]))
theorem Lk.keptN {w w' : World} {base A cap : Nat} {K : List Kd} (k : Lk w base A cap K) (hg : w.grownBy w' none) : Lk w' base A cap K := ⟨own_kept5 k.own hg⟩
theorem Lk.cap_le {w : World} {base A cap : Nat} {K : List Kd} (k : Lk w base A cap K) : K.length + 1 ≤ cap ∧ cap ≤ 9223372036854775807 := by
 rcases k.own.2 with ⟨e, _⟩ | ⟨g, cap', cur, hv, _, _, hc, hm, _⟩
 ·cases e
 ·injection hv with _ _ e3
  subst e3
  exact ⟨hc, by unfold maxLen at hm; omega⟩
theorem Lk.cells {w : World} {base A cap : Nat} {K : List Kd} (k : Lk w base A cap K) (i : Nat) (hi : i < K.length + 1) : w.cell? ⟨A, i * 2, none⟩ = some (.int .i64 ((K ++ [kdm]).getD i kd0).no) ∧ w.cell? ⟨A, i * 2 + 1, none⟩ = some (.int .i64 ((K ++ [kdm]).getD i kd0).keys) := by
 have h := kc_get (K ++ [kdm]) i (by simp; omega)
 exact ⟨by rw [k.own.cellAt _ (by omega)]; exact h.1, by rw [k.own.cellAt _ (by omega)]; exact h.2⟩
theorem Lk.kl {w : World} {base A cap : Nat} {K : List Kd} (k : Lk w base A cap K) : Kl w (some ⟨A, 0, none⟩) K := by
 refine ⟨fun i hi => ⟨A, 0, rfl, ?_⟩⟩
 have e : (K ++ [kdm]).getD i kd0 = K.getD i kd0 := by simp [List.getD, List.getElem?_append_left hi]
 have := k.cells i (by omega)
 rw [e] at this
 rw [Nat.zero_add]
 exact this
set_option maxHeartbeats 1000000 in
set_option maxRecDepth 100000 in
theorem refKids_any (a : Option Addr) (n cap : Nat) (K : List Kd) (w : World) (hl : Kl w a K) (hn : K.length = n) (hm : n ≤ 5000) :
  Calls Tryz.prog 27 #[.slice a n cap] w fun en w' => (∃ v, en = .returned v ∧ w'.ownsRow w.heap.size 61 2 v n (kc K)) ∧ w.grownBy w' none ∧ w.heap.size < w'.heap.size := by
 obtain ⟨i1, hi1, hy0, hy1, hy2⟩ := info_parts info_kid
 have HL := hid_intro hl
 clear hl
 go_enter Tryz.func27, Tryz.ntmps27
 go_wp2_with (at_make; refine wpList_make_own _ rfl _ _ 23 rfl w.heap.size 61 i1 (.agg #[.int .i64 0, .int .i64 0]) 2 Tryz.underlying23 hi1 hy0 hy1 _ _ _ n rfl rfl rfl ?b2 ?b3 (Nat.le_refl _) ?_)
 case b2 => rw [hy2]; omega
 case b3 => unfold maxLen; omega
 intro w0 hown0 hg0
 have hs0 : w.heap.size < w0.heap.size := (hown0.lt w.heap.size rfl).2
 have O0 := hid_intro hown0
 have G0 := hid_intro hg0
 clear hown0 hg0
 go_wp2
 go_loopw [3, 4] (fun sl si wr => ∃ i : Nat, i ≤ n ∧ si = .int .i64 i ∧ wr.ownsRow w.heap.size 61 2 sl i (kc (K.take i)) ∧ w.grownBy wr none ∧ w.heap.size < wr.heap.size) (fun _ si _ => n - (intOf si).toNat)
 case atStart => exact ⟨0, Nat.zero_le _, rfl, O0.out, G0.out, hs0⟩
 case round =>
  obtain ⟨i, hi', rfl, hown, hg, hs⟩ := hrel
  have HO := hid_intro hown
  have HG := hid_intro hg
  clear hown hg O0 G0
  by_cases hlt : i < n
  ·obtain ⟨b1, off, rfl, q2, q3⟩ := HL.out.row i (by omega)
   have c0 := HG.out.cell q2 (by simp)
   have c1 := HG.out.cell q3 (by simp)
   have HTK : Hid (kc (K.take (i + 1)) = kc (K.take i) ++ [.int .i64 (K.getD i kd0).no, .int .i64 (K.getD i kd0).keys]) := by
    show _ = _
    rw [← kc_snoc, List.take_add_one, List.getElem?_eq_getElem (show i < K.length by omega)]
    simp [List.getD, List.getElem?_eq_getElem (show i < K.length by omega)]
   clear q2 q3
   generalize (K.getD i kd0).no = no at *
   generalize (K.getD i kd0).keys = ks at *
   go_wp2_with (at_builtin; refine wpList_append_own _ rfl _ _ 23 rfl w.heap.size 61 i1 (.agg #[.int .i64 0, .int .i64 0]) 2 16 Tryz.underlying23 hi1 hy0 hy1 hy2 rfl (by decide) _ i (kc (K.take i)) rfl (HO.out.alloc _) ⟨wr.heap.size, 0, none⟩ 1 1 [.int .i64 no, .int .i64 ks] rfl rfl (cell_two_new _ _ _ _) (by intro u hu; simp at hu; rcases hu with rfl | rfl <;> rfl) (by unfold maxLen; omega) (by omega) (by have := HG.out.size; simp; omega) ?_)
   intro v' w10 ho hg10 _
   have HO1 := hid_intro ho
   have HG1 := hid_intro (grown_app5 HG.out HO.out (Nat.le_refl _) hg10)
   have hs1 : w.heap.size < w10.heap.size := by have := hg10.size; simp at this; omega
   clear ho hg10 HO HG c0 c1
   go_wp2
   go_roundw
   case rel => exact ⟨i + 1, by omega, by go_num, by rw [HTK.out]; exact HO1.out, HG1.out, hs1⟩
   case measure => simp [intOf]; omega
  ·have hin : i = n := by omega
   subst hin
   have e : K.take i = K := by rw [← hn, List.take_length]
   rw [e] at HO
   go_wp2
   go_ret
   exact ⟨⟨_, rfl, HO.out⟩, HG.out, hs⟩
set_option maxHeartbeats 1000000 in
set_option maxRecDepth 100000 in
theorem lentKids_any (a : Option Addr) (n cap : Nat) (K : List Kd) (w : World) (hl : Kl w a K) (hn : K.length = n) (hm : n ≤ 5000) :
  Calls Tryz.prog 8 #[.slice a n cap] w fun en w' => (∃ A c, en = .returned (.slice (some ⟨A, 0, none⟩) n c) ∧ Lk w' w.heap.size A c K) ∧ w.grownBy w' none := by
 obtain ⟨i1, hi1, hy0, hy1, hy2⟩ := info_parts info_kid
 have HL := hid_intro hl
 clear hl
 go_enter Tryz.func8, Tryz.ntmps8
 go_wp2_with fail
 refine (refKids_any a n cap K _ HL.out hn hm).mono ?_
 rintro en w1 ⟨⟨v, rfl, hown⟩, hg1, hs1⟩
 have HO := hid_intro hown
 have HG := hid_intro hg1
 clear hown hg1
 go_wp2_with (at_builtin; refine wpList_append_own _ rfl _ _ 23 rfl w.heap.size 61 i1 (.agg #[.int .i64 0, .int .i64 0]) 2 16 Tryz.underlying23 hi1 hy0 hy1 hy2 rfl (by decide) _ n (kc K) rfl (HO.out.alloc _) ⟨w1.heap.size, 0, none⟩ 1 1 [.int .i64 201, .int .i64 202] rfl rfl (cell_two_new _ _ _ _) (by intro u hu; simp at hu; rcases hu with rfl | rfl <;> rfl) (by unfold maxLen; omega) (by omega) (by have := HG.out.size; simp; omega) ?_)
 intro v' w2 ho hg2 _
 have HG2 := hid_intro (grown_app5 HG.out HO.out (Nat.le_refl _) hg2)
 rcases ho.2 with ⟨e, h0⟩ | ⟨A, cap', cur, hv, _, _, hc, hmx, _⟩
 ·omega
 ·subst hv
  have HLN : Hid (Lk w2 w.heap.size A cap' K) := ⟨by rw [kc_snoc, hn]; exact ho⟩
  have g1 : (n : Int) ≤ (cap' : Int) := by omega
  have g2 : (0 : Int) ≤ (n : Int) := by omega
  clear ho hg2 HO HG
  go_wp2
  go_ret
  exact ⟨⟨A, cap', rfl, HLN.out⟩, HG2.out⟩
set_option maxHeartbeats 1000000 in
set_option maxRecDepth 100000 in
theorem stayKids_any (base A c : Nat) (a : Option Addr) (n cap : Nat) (K : List Kd) (w : World) (hk : Lk w base A c K) (hl : Kl w a K) (hn : K.length = n) (hm : n ≤ 5000) :
  Calls Tryz.prog 21 #[.slice (some ⟨A, 0, none⟩) n c, .slice a n cap] w fun en w' => en = .returned (.bool true) ∧ w.grownBy w' none := by
 have HK := hid_intro hk
 have HL := hid_intro hl
 have hcl := hk.cap_le
 clear hk hl
 go_enter Tryz.func21, Tryz.ntmps21
 go_wp2_with fail
 refine (sameKids_any (some ⟨A, 0, none⟩) n c K a n cap K _ HK.out.kl hn HL.out hn (by omega)).mono ?_
 rintro en w1 ⟨⟨b8, rfl, hb8⟩, hq8⟩
 obtain rfl : b8 = true := hb8.2 rfl
 have hc := HK.out.cells n (by omega)
 have e : (K ++ [kdm]).getD n kd0 = kdm := by rw [← hn]; simp [List.getD]
 rw [e] at hc
 have c0 : w1.cell? ⟨A, n * 2, none⟩ = some (.int .i64 201) := (hq8.cell _).trans hc.1
 have c1 : w1.cell? ⟨A, n * 2 + 1, none⟩ = some (.int .i64 202) := (hq8.cell _).trans hc.2
 have Q1 := hid_intro hq8
 have g1 : (n : Int) + 1 ≤ (c : Int) := by omega
 have g2 : (n : Int) < (n : Int) + 1 := by omega
 clear hb8 hq8 hc e
 go_wp2
 go_ret
 exact ⟨rfl, Q1.out.grown _⟩
end Go.Proofs.YtnfelndfpmnkmaaGreatDoor
namespace Go.Proofs.YtnfelndfpmnkmaaGreatDoor
open Go.RowKit
set_option maxHeartbeats 4000000 in
set_option maxRecDepth 100000 in
theorem refPrefix_some (a : Option Addr) (cap : Nat) (z : List Int) (L : List (List Int)) (w : World) (hl : Lz w a (z :: L)) (hz : z.length ≤ 1000000) (hL : L.length + 1 ≤ 5000) :
  Calls Tryz.prog 41 #[.slice a (L.length + 1) cap] w fun en w' => en = .returned (.int .i64 ((bpre (z :: L) : Nat) : Int)) ∧ Qt w w' := by
 have HM : Hid (bpre (z :: L) = comAll z z.length L) := rfl
 obtain ⟨b, off, ao, n, c, rfl, h2, h3, h4, h5⟩ := hl.row 0 (by simp)
 have h3' : Byt w ao n c z := by simpa using h3
 have hzn := h3'.len
 have HF := hid_intro h3'
 have HL := hid_intro hl
 have HE : Hid (L.take L.length = L) := List.take_length
 rw [Nat.add_zero] at h2
 clear h3 h3' hl
 obtain ⟨m, hm⟩ : ∃ m, L.length = m := ⟨_, rfl⟩
 rw [hm] at hL ⊢
 have HMm := hid_intro hm
 clear hm
 go_enter Tryz.func41, Tryz.ntmps41
 go_wp2
 go_loopw [3, 4, 5] (fun sn si _ wr => ∃ i : Nat, i ≤ m ∧ si = .int .i64 ((i + 1 : Nat) : Int) ∧ sn = .int .i64 ((comAll z n (L.take i) : Nat) : Int) ∧ Qt w wr) (fun _ si _ _ => m + 1 - (intOf si).toNat)
 case atStart => exact ⟨0, Nat.zero_le _, rfl, rfl, Qt.refl _⟩
 case round =>
  obtain ⟨i, hi, rfl, rfl, hq⟩ := hrel
  have HQ := hid_intro hq
  clear hq
  have hle : comAll z n (L.take i) ≤ n := comAll_le z _ n
  by_cases hlt : i < m
  ·obtain ⟨b', off', bo, k, d, e1, k2, k3, k4, k5⟩ := HL.out.row (i + 1) (by simp; have := HMm.out; omega)
   simp only [Option.some.injEq, Addr.mk.injEq] at e1
   obtain ⟨rfl, rfl, _⟩ := e1
   have k3' : Byt w bo k d (L.getD i []) := by simpa using k3
   have hkl := k3'.len
   have HB := hid_intro k3'
   have HS := hid_intro (comAll_snoc z n L i (by have := HMm.out; omega))
   have c1 := (HQ.out.cell _).trans h2
   have c2 := (HQ.out.cell _).trans k2
   have HK2 := hid_intro k2
   clear k2 k3 k3'
   generalize comAll z n (L.take i) = t at *
   generalize L.getD i [] = s at *
   have hcs1 := com_le1 z s
   have hcs2 := com_le2 z s
   obtain ⟨u, hu⟩ : ∃ u, min t k = u := ⟨_, rfl⟩
   obtain ⟨T, hT⟩ : ∃ T, min t (com z s) = T := ⟨_, rfl⟩
   have hTu : T ≤ u := by omega
   have hmin : ∀ (ts : Array TypeId) (ty : TypeId) (W : World), (Builtin.min_ ts ty #[.int .i64 t, .int .i64 k]).run Tryz.prog W = .ok (.int .i64 u) W := fun ts ty W => by
    rw [run_min_int2]
    congr 2
    split <;> omega
   rw [hT] at HS
   have HT := hid_intro hT
   have HU := hid_intro hu
   have hu1 : u ≤ k := by omega
   have hu2 : u ≤ n := by omega
   clear hT hu
   obtain ⟨j, hj⟩ : ∃ j, i + 1 = j := ⟨_, rfl⟩
   have g1 : ((j : Nat) : Int) < (m : Int) + 1 := by omega
   have g0 : (0 : Int) ≤ (j : Int) := by omega
   rw [hj] at c2 HK2 ⊢
   have HJ := hid_intro hj
   clear hj
   go_wp2
   go_loopw [3, 5] (fun sn si wr' => ∃ (k' p' : Nat), si = .int .i64 k' ∧ sn = .int .i64 p' ∧ ((p' = u ∧ k' ≤ T) ∨ (p' = T ∧ k' = T + 1)) ∧ Qt w wr') (fun _ si _ => u + 2 - (intOf si).toNat)
   case atStart => exact ⟨0, u, rfl, rfl, .inl ⟨rfl, Nat.zero_le _⟩, HQ.out⟩
   case round =>
    obtain ⟨k', p', rfl, rfl, hcase, hq⟩ := hrel
    have HQ2 := hid_intro hq
    clear hq
    rcases hcase with ⟨rfl, hk1⟩ | ⟨rfl, rfl⟩
    ·by_cases hlt2 : k' < p'
     ·obtain ⟨b1, o1, rfl, _, y1⟩ := HF.out.at (by omega)
      obtain ⟨b2, o2, rfl, _, y2⟩ := HB.out.at (by omega)
      have d0 := (HQ2.out.cell _).trans h2
      have d1 := (HQ2.out.cell _).trans HK2.out
      have d2 := (HQ2.out.cell _).trans (y1 k' (by omega))
      have d3 := (HQ2.out.cell _).trans (y2 k' (by omega))
      have hth : Hid (z.getD k' 0 = s.getD k' 0 → k' + 1 ≤ T) := fun h => by
       have h6 := HT.out
       have h5 := HU.out
       by_cases hc : k' < com z s
       ·omega
       ·exfalso
        have h7 : com z s = k' := by omega
        have h8 := com_of_take z s (com z s + 1) (by omega) (by omega) (by
         have h9 := com_prefix z s (com z s) (Nat.le_refl _)
         rw [List.take_add_one, List.take_add_one, h9, h7]
         congr 1
         rw [List.getElem?_eq_getElem (show k' < z.length by omega), List.getElem?_eq_getElem (show k' < s.length by omega)]
         simpa [List.getD, List.getElem?_eq_getElem (show k' < z.length by omega), List.getElem?_eq_getElem (show k' < s.length by omega)] using h)
        omega
      have hne : Hid (¬ z.getD k' 0 = s.getD k' 0 → T = k') := fun h => by
       have h6 := HT.out
       have h5 := HU.out
       by_cases hc : k' < com z s
       ·exfalso
        refine h ?_
        have h9 := com_prefix z s (com z s) (Nat.le_refl _)
        have h10 := congrArg (fun l => l.getD k' 0) h9
        simpa [List.getD, List.getElem?_take, hc] using h10
       ·omega
      clear y1 y2
      have g2 : (k' : Int) < (n : Int) := by omega
      have g3 : (k' : Int) < (k : Int) := by omega
      have g4 : (0 : Int) ≤ (k' : Int) := by omega
      have g5 : (k' : Int) < (p' : Int) := by omega
      have g6 : (0 : Int) < (m : Int) + 1 := by omega
      generalize z.getD k' 0 = zx at *
      generalize s.getD k' 0 = sx at *
      by_cases hxy : zx = sx
      ·subst hxy
       have hk9 := hth.out rfl
       clear hth hne
       have hd : (zx != zx) = false := by simp
       go_wp2
       go_quiet (fail)
       go_wp2
       go_roundw
       case rel => exact ⟨k' + 1, p', by go_num, rfl, .inl ⟨by trivial, by omega⟩, HQ2.out.trans (Qt.drewN _ _)⟩
       case measure => simp [intOf]; omega
      ·have hk9 := hne.out hxy
       have hd : (sx != zx) = true := bne_iff_ne.2 (fun e => hxy e.symm)
       have hd2 : (sx == zx) = false := beq_eq_false_iff_ne.2 (fun e => hxy e.symm)
       clear hth hne
       go_wp2
       go_quiet (fail)
       go_wp2
       go_roundw
       case rel => exact ⟨k' + 1, k', by go_num, rfl, .inr ⟨by omega, by omega⟩, HQ2.out.trans (Qt.drewN _ _)⟩
       case measure => simp [intOf]; omega
     ·have hpt : p' = T := by omega
      have g5 : ¬ (k' : Int) < (p' : Int) := by omega
      go_wp2
      go_roundw
      case rel => exact ⟨i + 1, by omega, by have := HJ.out; go_num, by rw [HS.out, hpt], HQ2.out⟩
      case measure => have := HJ.out; simp [intOf]; omega
    ·have g5 : ¬ ((p' + 1 : Nat) : Int) < (p' : Int) := by omega
     go_wp2
     go_roundw
     case rel => exact ⟨i + 1, by omega, by have := HJ.out; go_num, by rw [HS.out], HQ2.out⟩
     case measure => have := HJ.out; simp [intOf]; omega
  ·have hin : i = m := by omega
   subst hin
   have hE : L.take i = L := by have := HE.out; rw [HMm.out] at this; exact this
   rw [hE]
   have HR : Hid (comAll z n L = bpre (z :: L)) := by show _ = _; rw [HM.out, hzn]
   rw [HR.out]
   go_wp2
   go_ret
   exact ⟨rfl, HQ.out⟩
set_option maxHeartbeats 400000 in
set_option maxRecDepth 100000 in
theorem refPrefix_none (a : Option Addr) (cap : Nat) (w : World) : Calls Tryz.prog 41 #[.slice a 0 cap] w fun en w' => en = .returned (.int .i64 0) ∧ w' = w := by
 go_enter Tryz.func41, Tryz.ntmps41
 go_wp2
 go_ret
 exact ⟨rfl, rfl⟩
theorem refPrefix_any (a : Option Addr) (n cap : Nat) (L : List (List Int)) (w : World) (hl : Lz w a L) (hn : L.length = n) (hm : n ≤ 5000) (hs : ∀ s ∈ L, s.length ≤ 1000000) :
  Calls Tryz.prog 41 #[.slice a n cap] w fun en w' => en = .returned (.int .i64 ((bpre L : Nat) : Int)) ∧ Qt w w' := by
 cases L with
 | nil =>
  obtain rfl : n = 0 := by simpa using hn.symm
  refine (refPrefix_none a cap w).mono ?_
  rintro en w' ⟨rfl, rfl⟩
  exact ⟨rfl, Qt.refl _⟩
 | cons z L =>
  obtain rfl : L.length + 1 = n := by simpa using hn
  exact refPrefix_some a cap z L w hl (hs z List.mem_cons_self) hm
set_option maxHeartbeats 2000000 in
set_option maxRecDepth 100000 in
theorem refSize5_any (a : Option Addr) (n cap : Nat) (L : List (List Int)) (w : World) (hl : Lz w a L) (hn : L.length = n) (hm : n ≤ 5000) (hk : ∀ x ∈ L, x.length ≤ 1000000) :
  Calls Tryz.prog 25 #[.slice a n cap] w fun en w' => en = .returned (.int .i64 ((bsize L : Nat) : Int)) ∧ Qt w w' := by
 have HL := hid_intro hl
 have HP : Hid (∀ x ∈ L, bpre L ≤ x.length) := fun x hx => (bpre_each x hx).1
 have HS := hid_intro (bsize_int (by omega) hk)
 have HM : Hid (bsize L = 12 + vl (bpre L) + bpre L + bsums (bpre L) L) := rfl
 have HN := hid_intro (fun i h => bsums_snoc (bpre L) L i h)
 have hv : (vform (bpre L)).length ≤ 10 := vl_le (bpre L)
 have hpl : bpre L ≤ 1000000 := by
  cases L with
  | nil => exact Nat.zero_le _
  | cons x L => exact Nat.le_trans (bpre_each x List.mem_cons_self).1 (hk x List.mem_cons_self)
 have HK := hid_intro hk
 have HPX := hid_intro (refPrefix_any a n cap L w hl hn hm hk)
 clear hl hk
 go_enter Tryz.func25, Tryz.ntmps25
 go_wp2_with fail
 refine HPX.out.mono ?_
 rintro en w1 ⟨rfl, hq1⟩
 have HQ := hid_intro hq1
 clear hq1 HPX
 have HV : Hid (vl (bpre L) = (vform (bpre L)).length) := rfl
 generalize bpre L = p at *
 go_wp2_with fail
 refine (refVLen_any p _ (by omega)).mono ?_
 rintro en w2 ⟨rfl, rfl⟩
 generalize (vform p).length = v at *
 go_wp2
 go_loopw [4, 5, 6] (fun sn si _ wr => ∃ i : Nat, i ≤ n ∧ si = .int .i64 i ∧ sn = .int .i64 ((12 + v + p + bsums p (L.take i) : Nat) : Int) ∧ Qt w wr) (fun _ si _ _ => n - (intOf si).toNat)
 case atStart => exact ⟨0, Nat.zero_le _, rfl, by simp [bsums], HQ.out⟩
 case round =>
  obtain ⟨i, hi, rfl, rfl, hq⟩ := hrel
  have HQ1 := hid_intro hq
  have b1 := HS.out i (by omega)
  clear hq HQ
  by_cases hlt : i < n
  ·obtain ⟨b, off, ao, m, c, rfl, q2, q3, q4, q5⟩ := HL.out.row i (by omega)
   have c0 := (HQ1.out.cell _).trans q2
   have hx := lget_mem (L := L) (i := i) (by omega)
   have hm1 := q3.len
   have hp1 := HP.out _ hx
   have hk1 := HK.out _ hx
   have HX : Hid (bsums p (L.take (i + 1)) = bsums p (L.take i) + (2 + bcl p (L.getD i []))) := HN.out i (by omega)
   obtain ⟨r, hr⟩ : ∃ r, m - p = r := ⟨_, rfl⟩
   have HCL : Hid (bcl p (L.getD i []) = (vform r).length + r + 8) := by show _ = _; unfold bcl vl; rw [hm1, hr]
   have hvr : (vform r).length ≤ 10 := vl_le r
   rw [HCL.out] at HX
   have hr' : (m : Int) - (p : Int) = (r : Int) := by omega
   clear q2 q3 HCL
   generalize bsums p (L.take i) = U at *
   rw [hm1] at hp1 hk1
   clear hm1 hx
   go_wp2_with fail
   refine (refVLen_any r _ (by omega)).mono ?_
   rintro en w2 ⟨rfl, rfl⟩
   generalize (vform r).length = vr at *
   go_wp2
   go_roundw
   case rel => exact ⟨i + 1, by omega, by go_num, by rw [HX.out]; go_num, HQ1.out⟩
   case measure => simp [intOf]; omega
  ·have hin : i = n := by omega
   subst hin
   go_wp2
   go_ret
   refine ⟨ret_int ?_, HQ1.out⟩
   rw [HM.out, HV.out, ← hn, List.take_length]
end Go.Proofs.YtnfelndfpmnkmaaGreatDoor
namespace Go.Proofs.YtnfelndfpmnkmaaGreatDoor
open Go.RowKit
set_option maxHeartbeats 1000000 in
set_option maxRecDepth 100000 in
theorem refPut_own (ao : Option Addr) (n cap : Nat) (zs : List Int) (x d : Nat) (w : World) (hb : Byt w ao n cap zs) (hn : n ≤ 1099511627776) (_hx : x < 18446744073709551616) (hd : d ≤ 8) :
  Calls Tryz.prog 43 #[.slice ao n cap, .int .u64 x, .int .i64 d] w fun e w' => ∃ ao' cap', e = .returned (.slice ao' (n + d) cap') ∧ w'.ownsRow w.heap.size 5 1 (.slice ao' (n + d) cap') (n + d) ((zs ++ lb d x).map (Value.int .u8)) ∧ w.grownBy w' none ∧ w.heap.size ≤ w'.heap.size := by
 go_enter Tryz.func43, Tryz.ntmps43
 go_wp2_with fail
 refine (refBytes_any ao n cap zs _ hb (by omega)).mono ?_
 rintro en w0 ⟨rfl, hown0, hg0, hs0⟩
 clear hb
 go_wp2
 go_loopw [7, 8] (fun out si wr => ∃ (k : Nat), k ≤ d ∧ si = .int .i64 k ∧ wr.ownsRow w.heap.size 5 1 out (n + k) ((zs ++ lb k x).map (Value.int .u8)) ∧ w.grownBy wr none) (fun _ si _ => d - (intOf si).toNat)
 case atStart => exact ⟨0, by omega, rfl, by simpa [lb] using hown0, hg0⟩
 case round =>
  obtain ⟨k, hk, rfl, hown, hg⟩ := hrel
  by_cases hlt : k < d
  ·go_wp2_with (at_builtin; refine wpList_append_byt rfl _ _ rfl w.heap.size _ (n + k) (zs ++ lb k x) rfl (hown.alloc _) (some ⟨wr.heap.size, 0, none⟩) 1 1 [(x : Int) / 2 ^ (8 * k) % 256] rfl (Byt.lit wr 5 _ [(x : Int) / 2 ^ (8 * k) % 256] 1 rfl rfl) (by omega) (by have := hg.size; simp; omega) ?_)
   intro v' w1 h1 h2
   have hg2 := grown_own hg hown (Nat.le_refl _) h2
   have hown2 : w1.ownsRow w.heap.size 5 1 v' (n + (k + 1)) ((zs ++ lb (k + 1) x).map (Value.int .u8)) := by
    rw [lb_snoc, List.map_append, List.map_append, ← Nat.add_assoc, ← shift_byte]
    simpa using h1
   clear h1 h2 hown
   go_wp2
   go_roundw
   case rel => exact ⟨k + 1, by omega, by go_num, hown2, hg2⟩
   case measure => simp [intOf]; omega
  ·have hkd : k = d := by omega
   subst hkd
   obtain ⟨ao', cap', hv, hB⟩ := owns_any hown
   subst hv
   have HB := hid_intro hown
   have HG : Hid (w.grownBy wr none) := hg
   clear hB hown hg
   go_wp2
   go_ret
   exact ⟨_, _, rfl, HB.out, HG.out, HG.out.size⟩
set_option maxHeartbeats 1000000 in
set_option maxRecDepth 100000 in
theorem refPutV_own (ao : Option Addr) (n cap : Nat) (zs : List Int) (x : Nat) (w : World) (hb : Byt w ao n cap zs) (hn : n ≤ 1099511627776) (hx : x < 18446744073709551616) :
  Calls Tryz.prog 44 #[.slice ao n cap, .int .u64 x] w fun e w' => ∃ ao' cap', e = .returned (.slice ao' (n + (vform x).length) cap') ∧ w'.ownsRow w.heap.size 5 1 (.slice ao' (n + (vform x).length) cap') (n + (vform x).length) ((zs ++ vform x).map (Value.int .u8)) ∧ w.grownBy w' none ∧ w.heap.size ≤ w'.heap.size := by
 have HL : Hid (zs.length = n) := hb.len
 have hvl := vform_le x
 go_enter Tryz.func44, Tryz.ntmps44
 go_wp2_with fail
 refine (refBytes_any ao n cap zs _ hb (by omega)).mono ?_
 rintro en w0 ⟨rfl, hown0, hg0, hs0⟩
 clear hb
 go_wp2
 go_loopw [5, 1] (fun out sx wr => ∃ (f y : Nat) (pre : List Int), 1 ≤ f ∧ f ≤ 10 ∧ y < 2 * 128 ^ (f - 1) ∧ sx = .int .u64 y ∧ y < 18446744073709551616 ∧ pre ++ lf f y = zs ++ vform x ∧
   wr.ownsRow w.heap.size 5 1 out pre.length (pre.map (Value.int .u8)) ∧ w.grownBy wr none) (fun _ sx _ => (intOf sx).toNat)
 case atStart => exact ⟨10, x, zs, by omega, by omega, by simp; omega, rfl, hx, rfl, by rw [HL.out]; exact hown0, hg0⟩
 case round =>
  obtain ⟨f, y, pre, hf1, hf2, hy, rfl, hy64, hpre, hown, hg⟩ := hrel
  have HP : Hid (pre ++ lf f y = zs ++ vform x) := hpre
  have hpl : pre.length ≤ n + 10 := by have := congrArg List.length hpre; simp at this; have := HL.out; omega
  have HY : Hid (y < 2 * 128 ^ (f - 1)) := hy
  clear hpre hy
  by_cases hlt : y < 128
  ·go_wp2_with (at_builtin; refine wpList_append_byt rfl _ _ rfl w.heap.size _ pre.length pre rfl (hown.alloc _) (some ⟨wr.heap.size, 0, none⟩) 1 1 [(y : Int)] rfl (Byt.lit wr 5 _ [(y : Int)] 1 rfl rfl) (by omega) (by have := hg.size; simp; omega) ?_)
   intro v' w1 h1 h2
   have hg2 := grown_own hg hown (Nat.le_refl _) h2
   have hfin : pre ++ [(y : Int)] = zs ++ vform x := by rw [← HP.out]; obtain ⟨f', rfl⟩ : ∃ f', f = f' + 1 := ⟨f - 1, by omega⟩; rw [lf_small f' y hlt]
   have hl1 : pre.length + 1 = n + (vform x).length := by have := congrArg List.length hfin; simp at this; have := HL.out; omega
   have h3 : w1.ownsRow w.heap.size 5 1 v' (n + (vform x).length) ((zs ++ vform x).map (Value.int .u8)) := by rw [← hfin, ← hl1]; simpa using h1
   obtain ⟨ao', cap', hv, hB⟩ := owns_any h3
   subst hv
   have HB := hid_intro h3
   have HG : Hid (w.grownBy w1 none) := hg2
   clear hB hown hg h1 h2 h3 hfin hl1 hg2
   go_wp2
   go_ret
   exact ⟨_, _, rfl, HB.out, HG.out, HG.out.size⟩
  ·go_wp2_with (at_builtin; refine wpList_append_byt rfl _ _ rfl w.heap.size _ pre.length pre rfl (hown.alloc _) (some ⟨wr.heap.size, 0, none⟩) 1 1 [(y : Int) % 128 + 128] rfl (Byt.lit wr 5 _ [(y : Int) % 128 + 128] 1 rfl rfl) (by omega) (by have := hg.size; simp; omega) ?_)
   intro v' w1 h1 h2
   have hg2 := grown_own hg hown (Nat.le_refl _) h2
   obtain ⟨f', rfl⟩ : ∃ f', f = f' + 1 := ⟨f - 1, by omega⟩
   have hy := HY.out
   have hp := HP.out
   rw [lf_big f' y hlt] at hp
   have hf' : 1 ≤ f' := by
    rcases Nat.eq_zero_or_pos f' with h | h
    ·subst h; simp at hy; omega
    ·exact h
   have hy2 : y / 128 < 2 * 128 ^ (f' - 1) := by
    rw [Nat.add_sub_cancel, show f' = (f' - 1) + 1 by omega, Nat.pow_succ] at hy
    omega
   have hp2 : (pre ++ [(y : Int) % 128 + 128]) ++ lf f' (y / 128) = zs ++ vform x := by rw [← hp]; simp
   have HP2 : Hid ((pre ++ [(y : Int) % 128 + 128]) ++ lf f' (y / 128) = zs ++ vform x) := hp2
   have HY2 : Hid (y / 128 < 2 * 128 ^ (f' - 1)) := hy2
   have H1 : Hid (w1.ownsRow w.heap.size 5 1 v' (pre ++ [(y : Int) % 128 + 128]).length ((pre ++ [(y : Int) % 128 + 128]).map (Value.int .u8))) := by
    show w1.ownsRow _ _ _ _ _ _
    simpa using h1
   clear hp hp2 hy hy2 HP HY h1 h2 hown
   go_wp2
   go_roundw
   case rel => exact ⟨f', y / 128, pre ++ [(y : Int) % 128 + 128], hf', by omega, HY2.out, by go_num, by omega, HP2.out, H1.out, hg2⟩
   case measure => simp [intOf]; omega
set_option maxHeartbeats 1000000 in
set_option maxRecDepth 100000 in
theorem refKid_any (no ks : Int) (w : World) : Calls Tryz.prog 23 #[.agg #[.int .i64 no, .int .i64 ks]] w fun en w' => en = .returned (.bool (!(wk ⟨no, ks⟩))) ∧ w.grownBy w' none := by
 have HW : Hid (wk ⟨no, ks⟩ = (decide (no < 2) || decide (524287 ≤ no) || decide (ks < 1) || decide (4294967295 < ks))) := rfl
 have G1 := hid_intro (World.grownBy_alloc w (.cells #[.int .i64 no, .int .i64 ks] 61) none)
 by_cases h1 : (2 : Int) ≤ no
 ·by_cases h2 : no ≤ 524286
  ·by_cases h3 : (1 : Int) ≤ ks
   ·by_cases h4 : ks ≤ 4294967295
    ·have HR : Hid (wk ⟨no, ks⟩ = false) := by show _ = _; rw [HW.out]; simp; omega
     go_enter Tryz.func23, Tryz.ntmps23
     go_wp2
     go_ret
     exact ⟨by rw [HR.out]; first | rfl | (simp [h4]), G1.out⟩
    ·have HR : Hid (wk ⟨no, ks⟩ = true) := by show _ = _; rw [HW.out]; simp; omega
     have HD : Hid (decide (ks ≤ 4294967295) = false) := decide_eq_false h4
     go_enter Tryz.func23, Tryz.ntmps23
     go_wp2
     go_ret
     exact ⟨by rw [HR.out]; show Ending.returned (Value.bool _) = _; first | rfl | (rw [HD.out]; rfl), G1.out⟩
   ·have HR : Hid (wk ⟨no, ks⟩ = true) := by show _ = _; rw [HW.out]; simp; omega
    go_enter Tryz.func23, Tryz.ntmps23
    go_wp2
    go_ret
    exact ⟨by rw [HR.out]; rfl, G1.out⟩
  ·have HR : Hid (wk ⟨no, ks⟩ = true) := by show _ = _; rw [HW.out]; simp; omega
   go_enter Tryz.func23, Tryz.ntmps23
   go_wp2
   go_ret
   exact ⟨by rw [HR.out]; rfl, G1.out⟩
 ·have HR : Hid (wk ⟨no, ks⟩ = true) := by show _ = _; rw [HW.out]; simp; omega
  go_enter Tryz.func23, Tryz.ntmps23
  go_wp2
  go_ret
  exact ⟨by rw [HR.out]; rfl, G1.out⟩
set_option maxHeartbeats 1000000 in
set_option maxRecDepth 100000 in
theorem refTwo_any (ao : Option Addr) (n cap : Nat) (zs : List Int) (k : Kd) (no ks : Int) (w : World) (hb : Byt w ao n cap zs) (hn : n ≤ 100000) (hk : wk k = false) (h1 : k.no = no) (h2 : k.keys = ks) :
  Calls Tryz.prog 45 #[.slice ao n cap, .agg #[.int .i64 no, .int .i64 ks]] w fun en w' => ∃ base ao' cap', en = .returned (.slice ao' (n + 8) cap') ∧ w'.ownsRow base 5 1 (.slice ao' (n + 8) cap') (n + 8) ((zs ++ kb k).map (Value.int .u8)) ∧ w.grownBy w' none ∧ w.heap.size ≤ base ∧ base ≤ w'.heap.size := by
 have hp := wk_parts hk
 obtain ⟨a, ha⟩ : ∃ a : Nat, no = (a : Int) := ⟨no.toNat, by omega⟩
 obtain ⟨b, hb'⟩ : ∃ b : Nat, ks = (b : Int) := ⟨ks.toNat, by omega⟩
 subst ha hb'
 have ha2 : a < 4294967296 := by omega
 have hb2 : b < 4294967296 := by omega
 have HKB : Hid (kb k = lb 4 a ++ lb 4 b) := by show _ = _; unfold kb; rw [h1, h2]; rfl
 have ga := World.grownBy_alloc w (.cells #[.int .i64 (a : Int), .int .i64 (b : Int)] 61) none
 have k1 : Hid ((w.alloc (.cells #[.int .i64 (a : Int), .int .i64 (b : Int)] 61)).cell? ⟨w.heap.size, 1, none⟩ = some (.int .i64 (b : Int))) := by show _ = _; rw [cell_of_row _ w.heap.size 1 _ _ (0, 0) (heap_alloc_new w _)]; rfl
 have HG := hid_intro ga
 have HB := hid_intro (hb.keptN ga)
 clear hb hk h1 h2 hp ga
 go_enter Tryz.func45, Tryz.ntmps45
 go_wp2_with fail
 have K1 := k1.out
 clear k1
 generalize w.alloc (.cells #[.int .i64 (a : Int), .int .i64 (b : Int)] 61) = w1 at *
 refine (refPut_own ao n cap zs a 4 _ HB.out (by omega) (by omega) (by omega)).mono ?_
 rintro en w2 ⟨ao2, cap2, rfl, ho2, hg2, hs2⟩
 have B2 : Hid (Byt w2 ao2 (n + 4) cap2 (zs ++ lb 4 a)) := by
  obtain ⟨ao9, c9, e9, hB⟩ := owns_any ho2
  injection e9 with x1 _ x3
  subst x1 x3
  exact hB
 have c1 := hg2.cell K1 (by simp)
 have G2 := hid_intro (grown_trans HG.out hg2)
 clear ho2 hg2 hs2 K1 HG HB
 go_wp2_with fail
 refine (refPut_own ao2 (n + 4) cap2 (zs ++ lb 4 a) b 4 _ B2.out (by omega) (by omega) (by omega)).mono ?_
 rintro en w3 ⟨ao3, cap3, rfl, ho3, hg3, hs3⟩
 have O3 : Hid (w3.ownsRow w2.heap.size 5 1 (.slice ao3 (n + 8) cap3) (n + 8) ((zs ++ kb k).map (Value.int .u8))) := by
  show World.ownsRow _ _ _ _ _ _ _
  rw [HKB.out, ← List.append_assoc]
  exact ho3
 have G3 := hid_intro (grown_trans G2.out hg3)
 have HS := hid_intro G2.out.size
 have HS3 := hid_intro hs3
 clear ho3 hg3 hs3 B2 c1
 go_wp2
 go_ret
 exact ⟨w2.heap.size, ao3, cap3, rfl, O3.out, G3.out, HS.out, HS3.out⟩
end Go.Proofs.YtnfelndfpmnkmaaGreatDoor
namespace Go.Proofs.YtnfelndfpmnkmaaGreatDoor
open Go.RowKit
theorem less_nums : ∀ {a b : List Int}, Bt a → Bt b → Op.bytesLess (a.map fun n => UInt8.ofNat n.toNat) (b.map fun n => UInt8.ofNat n.toNat) = decide (cmpZ a b < 0)
 | [], [], _, _ => by simp [Op.bytesLess, cmpZ]
 | _ :: _, [], _, _ => by simp [Op.bytesLess, cmpZ]
 | [], _ :: _, _, _ => by simp [Op.bytesLess, cmpZ]
 | a :: xs, b :: ys, ha, hb => by
  have h1 := ha a (List.mem_cons_self ..)
  have h2 := hb b (List.mem_cons_self ..)
  have ih := less_nums (a := xs) (b := ys) (fun z hz => ha z (List.mem_cons_of_mem _ hz)) (fun z hz => hb z (List.mem_cons_of_mem _ hz))
  have e1 : (UInt8.ofNat a.toNat < UInt8.ofNat b.toNat) ↔ a < b := by
   rw [UInt8.lt_iff_toNat_lt]; simp; omega
  have e2 : (UInt8.ofNat a.toNat = UInt8.ofNat b.toNat) ↔ a = b := by
   rw [← UInt8.toNat_inj]; simp; omega
  rw [List.map_cons, List.map_cons, Op.bytesLess, ih, cmp_cons]
  by_cases h3 : a < b
  ·simp [e1, h3]
  ·by_cases h4 : b < a
   ·have h5 : ¬ a = b := by omega
    simp [e1, e2, h3, h4, h5]
   ·have h5 : a = b := by omega
    subst h5
    simp
set_option maxHeartbeats 400000 in
set_option maxRecDepth 100000 in
theorem less_any (ao bo : Option Addr) (n m c d : Nat) (za zb : List Int) (w : World) (ha : Byt w ao n c za) (hb : Byt w bo m d zb) (ba : Bt za) (bb : Bt zb) :
  Calls Tryz.prog 24 #[.slice ao n c, .slice bo m d] w fun en w' => en = .returned (.bool (decide (cmpZ za zb < 0))) ∧ w' = w := by
 have h1 := conv_str ha
 have h2 := conv_str hb
 have HE : Hid (Op.bytesLess (strOfNums za).toList (strOfNums zb).toList = decide (cmpZ za zb < 0)) := by
  show _ = _
  rw [ByteArray.toList_eq, ByteArray.toList_eq, strOfNums_data, strOfNums_data]
  exact less_nums ba bb
 clear ha hb
 go_enter Tryz.func24, Tryz.ntmps24
 go_wp2
 go_ret
 exact ⟨by rw [← HE.out]; rfl, rfl⟩
theorem kids_all {P : Kd → Prop} {K : List Kd} (h : ∀ j, j < K.length → P (K.getD j kd0)) : ∀ k ∈ K, P k := by
 intro k hk
 obtain ⟨j, hj, rfl⟩ := List.getElem_of_mem hk
 have := h j hj
 simpa [List.getD, List.getElem?_eq_getElem hj] using this
theorem seps_all {P : List Int → Prop} {K : List (List Int)} (h : ∀ j, j < K.length → P (K.getD j [])) : ∀ k ∈ K, P k := by
 intro k hk
 obtain ⟨j, hj, rfl⟩ := List.getElem_of_mem hk
 have := h j hj
 simpa [List.getD, List.getElem?_eq_getElem hj] using this
end Go.Proofs.YtnfelndfpmnkmaaGreatDoor
namespace Go.Proofs.YtnfelndfpmnkmaaGreatDoor
open Go.RowKit
theorem own_byt {w : World} {base n cap : Nat} {ao : Option Addr} {zs : List Int} (h : w.ownsRow base 5 1 (.slice ao n cap) n (zs.map (Value.int .u8))) : Byt w ao n cap zs := by
 obtain ⟨ao9, c9, e9, hB⟩ := owns_any h
 injection e9 with x1 _ x3
 subst x1 x3
 exact hB
theorem splice_pad {Z ys : List Int} (hZ : Z = List.replicate 4092 0) : splice Z 0 ys = ys ++ List.replicate (4092 - ys.length) 0 := by
 rw [hZ]
 unfold splice
 rw [List.take_zero, List.nil_append, Nat.zero_add, List.drop_replicate]
set_option maxHeartbeats 800000 in
set_option maxRecDepth 100000 in
theorem refLay5_any (l : Nat) (a : Option Addr) (n cap : Nat) (b : Option Addr) (cap2 : Nat) (k : Kd) (M : List Sk) (w : World) (hl : Lz w a (seps M)) (hk : Kl w b (kids k M)) (hn : M.length = n) (hf : Fit (l : Int) (seps M) (kids k M)) :
  Calls Tryz.prog 26 #[.int .i64 l, .slice a n cap, .slice b (n + 1) cap2] w fun en w' => ∃ G, en = .returned (.slice (some ⟨G, 0, none⟩) 4092 4092) ∧ Rw w' G (bbody l k M) ∧ w.grownBy w' none := by
 obtain ⟨i0, hi, hz0, hz1, hz2⟩ := info_parts info_u8
 obtain ⟨hm1, hm2⟩ := bmany_le hf.sep hf.size
 have hl15 : l ≤ 15 := by have := hf.l2; omega
 have HCS := hid_intro (bcst_le (l : Int) k hf.size)
 have hhl := bhead_len (l : Int) M
 have hc0 := bcst_le (l : Int) k hf.size 0
 have HL := hid_intro hl
 have HK := hid_intro hk
 have HWS := hid_intro hf.sep
 have HWK := hid_intro hf.kid
 have hm : n ≤ 400 := by omega
 have HBL : Hid ((bused (l : Int) k M).length ≤ 4092) := by show _ ≤ _; rw [bused_len]; exact hf.size
 have HB0 : Hid (bhead (l : Int) M = lb 1 2 ++ (lb 1 l ++ (lb 2 (n + 1) ++ (vform (bpre (seps M)) ++ (M.headD sk0).sep.take (bpre (seps M)))))) := by
  show _ = _
  unfold bhead
  rw [hn]
  rfl
 have HBD : Hid (bbody (l : Int) k M = bused (l : Int) k M ++ List.replicate (4092 - (bused (l : Int) k M).length) 0) := rfl
 have HBU : Hid (bused (l : Int) k M = bhead (l : Int) M ++ (bslots (bpre (seps M)) (bcst (l : Int) M) M ++ (kb k ++ bcells (bpre (seps M)) M))) := rfl
 have HCST : Hid (bcst (l : Int) M = (bhead (l : Int) M).length + 2 * n + 8) := by show _ = _; unfold bcst bkst; rw [hn]
 have HPE : Hid (∀ x ∈ M, bpre (seps M) ≤ x.sep.length) := fun x hx => (bpre_each x.sep (seps_mem hx)).1
 have HLM : Hid (∀ s ∈ seps M, s.length ≤ 1000000) := fun s hs => by have := (wsep_parts (hf.sep s hs)).2; omega
 have hwl : IntKind.u8.wrap (l : Int) = (l : Int) := by simp [IntKind.wrap, IntKind.bits, IntKind.signed]; omega
 have hwn : IntKind.u64.wrap ((n : Int) + 1) = ((n + 1 : Nat) : Int) := by simp [IntKind.wrap, IntKind.bits, IntKind.signed]; omega
 have HLB2 : Hid (lb 1 2 ++ lb 1 l = [2, (l : Int)]) := by
  show _ = _
  have : (l : Int) % 256 = (l : Int) := by omega
  simp [lb, this]
 clear hl hk hf
 go_enter Tryz.func26, Tryz.ntmps26
 go_wp2_with fail
 refine (refPrefix_any a n cap (seps M) _ HL.out (by rw [seps_len]; exact hn) (by omega) HLM.out).mono ?_
 rintro en w1 ⟨rfl, hq1⟩
 have G1 := hid_intro (hq1.grown none)
 clear hq1
 have P1 := hid_intro (fun (ao : Option Addr) (n cap : Nat) (zs : List Int) (W : World) (h1 : Byt W ao n cap zs) (h2 : n ≤ 1099511627776) => refPutV_own ao n cap zs (bpre (seps M)) W h1 h2 (by omega))
 obtain ⟨l1, hl1⟩ : ∃ l1, (vform (bpre (seps M))).length = l1 := ⟨_, rfl⟩
 have hvl : vl (bpre (seps M)) = l1 := hl1
 rw [hl1] at P1
 rw [hvl] at hhl
 rw [HCST.out, hhl] at hc0
 have HL1 := hid_intro hl1
 have HHL := hid_intro hhl
 have hl1b : l1 ≤ 10 := by rw [← hl1]; exact vl_le _
 clear hvl hl1 hhl
 generalize hpp : bpre (seps M) = p at *
 have HPP := hid_intro hpp
 clear hpp
 generalize vform p = VP at *
 have B1 := hid_intro (Byt.lit w1 5 #[.int .u8 2, .int .u8 (l : Int)] [2, (l : Int)] 2 rfl rfl)
 have G2 := hid_intro (grown_trans G1.out (World.grownBy_alloc w1 (.cells #[.int .u8 2, .int .u8 (l : Int)] 5) none))
 go_wp2_with fail
 generalize w1.alloc (.cells #[.int .u8 2, .int .u8 (l : Int)] 5) = w2 at *
 generalize w1.heap.size = Q1 at *
 refine (refPut_own (some ⟨Q1, 0, none⟩) 2 2 [2, (l : Int)] (n + 1) 2 _ B1.out (by omega) (by omega) (by omega)).mono ?_
 rintro en w3 ⟨ao3, cap3, rfl, ho3, hg3, hs3⟩
 have B3 := hid_intro (own_byt ho3)
 have G3 := hid_intro (grown_trans G2.out hg3)
 clear ho3 hg3 hs3 B1 G1 G2
 go_wp2_with fail
 refine (P1.out ao3 (2 + 2) cap3 _ _ B3.out (by omega)).mono ?_
 rintro en w4 ⟨ao4, cap4, rfl, ho4, hg4, hs4⟩
 have O4 := hid_intro ho4
 have G4 := hid_intro (grown_trans G3.out hg4)
 have HS4 := hid_intro hs4
 have HS3 := hid_intro G3.out.size
 clear ho4 hg4 hs4 B3 G3 P1
 have hkl : ((M.headD sk0).sep.take p).length = p := by
  rw [List.length_take]
  cases M with
  | nil =>
   have := HPP.out
   obtain rfl : p = 0 := this.symm
   rfl
  | cons x L => have := HPE.out x List.mem_cons_self; rw [List.headD_cons]; omega
 have HKL := hid_intro hkl
 obtain ⟨ZB, hZB⟩ : ∃ ZB, [2, (l : Int)] ++ lb 2 (n + 1) ++ VP = ZB := ⟨_, rfl⟩
 obtain ⟨h4, hh4⟩ : ∃ h4, 2 + 2 + l1 = h4 := ⟨_, rfl⟩
 rw [hZB, hh4] at O4
 rw [hh4]
 have HHB : Hid (ZB ++ (M.headD sk0).sep.take p = bhead (l : Int) M) := by
  show _ = _
  rw [HB0.out, ← hZB, ← HLB2.out]
  simp only [List.append_assoc]
 obtain ⟨TB, hTB⟩ : ∃ TB, (M.headD sk0).sep.take p = TB := ⟨_, rfl⟩
 rw [hTB] at HHB HKL
 have HTB := hid_intro hTB
 clear hkl HB0 HLB2 hZB hTB
 generalize hhe : (bhead (l : Int) M).length = h0 at *
 have HHE := hid_intro hhe
 clear hhe
 go_upto_if 29 with fail
 go_cut [8] (fun s8 wx => ∃ bo bc, s8 = .slice bo h0 bc ∧ Byt wx bo h0 bc (bhead (l : Int) M) ∧ w.grownBy wx none)
 case first =>
  by_cases hn0 : 0 < n
  ·obtain ⟨b', off', ao, n0, c0, rfl, q2, q3, q4, q5⟩ := HL.out.row 0 (by rw [seps_len]; omega)
   rw [Nat.add_zero] at q2
   have e0 := G4.out.cell q2 (by simp)
   have hh : (seps M).getD 0 [] = (M.headD sk0).sep := by cases M <;> rfl
   rw [hh] at q3
   have hpl : p ≤ n0 := by have := HKL.out; rw [← HTB.out, List.length_take] at this; have := q3.len; omega
   have hb11 := (q3.keptN G4.out).take p c0 hpl (fun e => by have := (q3.nil e).2; omega)
   rw [HTB.out] at hb11
   have B11 := hid_intro hb11
   clear hb11
   have g1 : (0 : Int) ≤ (p : Int) := by omega
   have g2 : (p : Int) ≤ (c0 : Int) := by omega
   have g3 : (0 : Int) < (n : Int) := by omega
   clear q2 q3
   go_wp2_with (at_builtin; refine wpList_append_byt rfl _ _ rfl w3.heap.size _ h4 ZB rfl O4.out ao p c0 TB rfl B11.out (by omega) HS4.out ?_)
   intro v5 w5 ho5 hg5
   have ho5' : w5.ownsRow w3.heap.size 5 1 v5 h0 ((bhead (l : Int) M).map (Value.int .u8)) := by
    rw [← HHB.out, show h0 = h4 + p by have := HHL.out; omega]
    simpa using ho5
   have HG5 : Hid (w.grownBy w5 none) := ⟨hg5.os.trans G4.out.os, hg5.tape.trans G4.out.tape, hg5.output.trans G4.out.output, Nat.le_trans G4.out.size hg5.size, fun q hq _ => (hg5.block q (Nat.lt_of_lt_of_le hq G4.out.size) (fun e => by have := (O4.out.lt q e.symm).1; have := HS3.out; omega)).trans (G4.out.block q hq (by simp))⟩
   obtain ⟨bo, bc, rfl, hb5⟩ := owns_any ho5'
   have HB5 := hid_intro hb5
   clear ho5 hg5 ho5' hb5
   go_wp2_with fail
   go_meet
   exact ⟨bo, bc, rfl, HB5.out, HG5.out⟩
  ·have hp0 : p = 0 := by
    cases M with
    | nil => exact HPP.out.symm
    | cons x L => simp at hn; omega
   have HN0 := hid_intro hn0
   have hx := HHB.out
   have ht : TB = [] := List.eq_nil_of_length_eq_zero (by rw [HKL.out]; exact hp0)
   rw [ht, List.append_nil] at hx
   have hh9 : h4 = h0 := by have := HHL.out; omega
   have ho4 := O4.out
   rw [hx, hh9] at ho4
   have B5 := hid_intro (own_byt ho4)
   rw [hh9]
   clear ho4 hx ht hh9 hp0 hn0
   go_wp2_with fail
   all_goals first
    | exact absurd (by assumption) HN0.out
    | (go_meet; exact ⟨ao4, cap4, rfl, B5.out, G4.out⟩)
 case rest =>
 obtain ⟨bo, bc, rfl, hb5, hg5⟩ := hcut
 have B5 := hid_intro hb5
 have G5 := hid_intro hg5
 clear hb5 hg5 O4 G4 HS4 HS3 HHB hwl hwn
 obtain ⟨C0, hC0⟩ : ∃ C0, h0 + 2 * n + 8 = C0 := ⟨_, rfl⟩
 have hh0b : h0 + 2 * n + 8 ≤ 4092 := by have := HHL.out; omega
 have hC1 : (h0 : Int) + 2 * (n : Int) + 8 = (C0 : Int) := by omega
 go_wp2
 clear hC1
 go_loopw [8, 9, 11] (fun sb sc si wr => ∃ (i : Nat) (bo : Option Addr) (bc : Nat) (co : Option Addr) (cn cc : Nat), i ≤ n ∧ si = .int .i64 i ∧ sb = .slice bo (h0 + 2 * i) bc ∧ Byt wr bo (h0 + 2 * i) bc (bhead (l : Int) M ++ bslots p (bcst (l : Int) M) (M.take i)) ∧ sc = .slice co cn cc ∧ Byt wr co cn cc (bcells p (M.take i)) ∧ w.grownBy wr none) (fun _ _ si _ => n - (intOf si).toNat)
 case atStart => exact ⟨0, bo, bc, none, 0, 0, Nat.zero_le _, rfl, rfl, by simpa [bslots] using B5.out, rfl, Byt.empty _, G5.out⟩
 case round =>
  obtain ⟨i, bo, bc, co, cn, cc, hi', rfl, rfl, hbb, rfl, hbc, hg⟩ := hrel
  have HB := hid_intro hbb
  have HC := hid_intro hbc
  have HG := hid_intro hg
  clear hbb hbc hg B5 G5
  by_cases hlt : i < n
  ·obtain ⟨b1, off1, ao, m, c', rfl, q2, q3, q4, q5⟩ := HL.out.row i (by rw [seps_len]; omega)
   obtain ⟨b2, off2, rfl, q6, q7⟩ := HK.out.row (i + 1) (by rw [kids_len]; omega)
   rw [seps_get] at q3
   rw [kids_get] at q6
   rw [kids_get] at q7
   have hx : M.getD i sk0 ∈ M := by simp [List.getD, List.getElem?_eq_getElem (show i < M.length by omega)]
   have x1 := wsep_parts (HWS.out _ (seps_mem hx))
   have x2 := HWK.out _ (List.mem_cons_of_mem _ (List.mem_map_of_mem hx))
   have x4 := q3.len
   obtain ⟨kb', ko, rfl, hkb, _⟩ := q3.at (by omega)
   have hpx : p ≤ m := by have := HPE.out _ hx; omega
   have HSN := hid_intro (bslots_snoc p M (bcst (l : Int) M) i (by omega))
   have HCN := hid_intro (bcells_snoc p M i (by omega))
   have hA0 := HCS.out i
   have hcl := HC.out.len
   rw [hcl, HCST.out] at hA0
   obtain ⟨A, hA⟩ : ∃ A, h0 + 2 * n + 8 + cn = A := ⟨_, rfl⟩
   have HAA : Hid (bcst (l : Int) M + (bcells p (M.take i)).length = A) := by show _ = _; rw [HCST.out, hcl]; exact hA
   obtain ⟨r, hr⟩ : ∃ r, m - p = r := ⟨_, rfl⟩
   have HCB : Hid (bcb p (M.getD i sk0) = vform r ++ ((M.getD i sk0).sep.drop p ++ kb (M.getD i sk0).kid)) := by show _ = _; unfold bcb; rw [x4, hr]
   have P2 := hid_intro (fun (ao : Option Addr) (n cap : Nat) (zs : List Int) (W : World) (h1 : Byt W ao n cap zs) (h2 : n ≤ 1099511627776) => refPutV_own ao n cap zs r W h1 h2 (by omega))
   obtain ⟨l2, hl2⟩ : ∃ l2, (vform r).length = l2 := ⟨_, rfl⟩
   rw [hl2] at P2
   have hl2b : l2 ≤ 10 := by rw [← hl2]; exact vl_le r
   rw [HAA.out] at HSN
   obtain ⟨no, hno⟩ : ∃ no, (M.getD i sk0).kid.no = no := ⟨_, rfl⟩
   obtain ⟨ks, hks⟩ : ∃ ks, (M.getD i sk0).kid.keys = ks := ⟨_, rfl⟩
   rw [hno] at q6
   rw [hks] at q7
   have HNO := hid_intro hno
   have HKS := hid_intro hks
   have HXK := hid_intro x2
   have HKy := hid_intro q3
   have HX6 := hid_intro q6
   have HX7 := hid_intro q7
   have HX2 := hid_intro q2
   have hr' : (m : Int) - (p : Int) = (r : Int) := by omega
   generalize M.getD i sk0 = x at *
   generalize vform r = V2 at *
   have hAl : A ≤ 4092 := by omega
   have hAA : (C0 : Int) + (cn : Int) = (A : Int) := by omega
   clear q2 q3 q6 q7 hno hks x2 hx hl2 HAA hA hcl
   have c1 := HG.out.cell HX2.out (by simp)
   go_wp2_with fail
   refine (refPut_own bo (h0 + 2 * i) bc _ A 2 _ HB.out (by omega) (by omega) (by omega)).mono ?_
   rintro en w6 ⟨ao6, cap6, rfl, ho6, hg6, hs6⟩
   have B6 := hid_intro (own_byt ho6)
   have C6 := hid_intro (HC.out.keptN hg6)
   have G6 := hid_intro (grown_trans HG.out hg6)
   clear ho6 hg6 hs6 HB HC HG c1
   have c1 := G6.out.cell HX2.out (by simp)
   go_wp2_with fail
   refine (P2.out co cn cc _ _ C6.out (by omega)).mono ?_
   rintro en w7 ⟨ao7, cap7, rfl, ho7, hg7, hs7⟩
   have O7 := hid_intro ho7
   have B7 := hid_intro (B6.out.keptN hg7)
   have G7 := hid_intro (grown_trans G6.out hg7)
   have HS7 := hid_intro hs7
   have HS6 := hid_intro G6.out.size
   have HB6 : Hid (∀ ad, ao6 = some ad → 0 < h0 + 2 * i + 2 → ad.block < w6.heap.size) := fun ad e h => B6.out.lt e h
   clear ho7 hg7 hs7 B6 C6 G6 P2 c1
   have c1 := G7.out.cell HX2.out (by simp)
   have g1 : (0 : Int) ≤ (p : Int) := by omega
   have g2 : (p : Int) ≤ (m : Int) := by omega
   have g3 : (p : Int) ≤ (c' : Int) := by omega
   have HDR := hid_intro ((HKy.out.keptN G7.out).drop p (c' - p) hpx)
   rw [hr] at HDR
   obtain ⟨XC, hXC⟩ : ∃ XC, bcells p (M.take i) ++ V2 = XC := ⟨_, rfl⟩
   rw [hXC] at O7
   obtain ⟨XD, hXD⟩ : ∃ XD, x.sep.drop p = XD := ⟨_, rfl⟩
   rw [hXD] at HDR
   have HXC := hid_intro hXC
   have HXD := hid_intro hXD
   clear hXC hXD
   go_upto_region 14 with fail
   go_cut [9] (fun s9 wx => ∃ co cc, s9 = .slice co (cn + l2 + r) cc ∧ Byt wx co (cn + l2 + r) cc (XC ++ XD) ∧ Byt wx ao6 (h0 + 2 * i + 2) cap6 (bhead (l : Int) M ++ bslots p (bcst (l : Int) M) (M.take i) ++ lb 2 A) ∧ w.grownBy wx none)
   case first =>
    have hXl : XD.length = r := HDR.out.len
    have HGW : Hid (∀ (w8 : World), w7.grownBy w8 (Value.slice ao7 (cn + l2) cap7).ownBlock → w.grownBy w8 none ∧ ∀ (zs : List Int), Byt w7 ao6 (h0 + 2 * i + 2) cap6 zs → Byt w8 ao6 (h0 + 2 * i + 2) cap6 zs) := by
     intro w8 hg8
     have hown := O7.out
     refine ⟨⟨hg8.os.trans G7.out.os, hg8.tape.trans G7.out.tape, hg8.output.trans G7.out.output, Nat.le_trans G7.out.size hg8.size, fun q hq _ => (hg8.block q (Nat.lt_of_lt_of_le hq G7.out.size) (fun e => by have := (hown.lt q e.symm).1; have := HS6.out; omega)).trans (G7.out.block q hq (by simp))⟩, fun zs hz => ?_⟩
     refine hz.kept hg8 (fun ad e h e2 => ?_)
     have h1 := HB6.out ad e h
     have h2 := (hown.lt ad.block e2.symm).1
     omega
    by_cases hcp : c' = p
    ·have hr0 : r = 0 := by omega
     have hX0 : XD = [] := List.eq_nil_of_length_eq_zero (by rw [hXl]; exact hr0)
     have HX0 := hid_intro hX0
     have BZ : Hid (Byt w7 (some ⟨kb', ko, none⟩) 0 0 []) := Byt.zlen _ _ _ _
     subst hcp
     subst hr0
     clear hX0
     go_wp2_with (at_builtin; refine wpList_append_byt rfl _ _ rfl w6.heap.size _ (cn + l2) XC rfl O7.out (some ⟨kb', ko, none⟩) 0 0 [] rfl BZ.out (by omega) HS7.out ?_)
     intro v8 w8 ho8 hg8
     have ho8' : w8.ownsRow w6.heap.size 5 1 v8 (cn + l2 + 0) ((XC ++ XD).map (Value.int .u8)) := by rw [HX0.out]; simpa using ho8
     obtain ⟨co8, cc8, rfl, hb8⟩ := owns_any ho8'
     have HB8 := hid_intro hb8
     have HGB := hid_intro (HGW.out w8 hg8)
     clear ho8 hg8 ho8' hb8
     go_wp2_with fail
     go_meet
     exact ⟨co8, cc8, rfl, HB8.out, HGB.out.2 _ B7.out, HGB.out.1⟩
    ·go_wp2_with (at_builtin; refine wpList_append_byt rfl _ _ rfl w6.heap.size _ (cn + l2) XC rfl O7.out (some ⟨kb', ko + p, none⟩) r (c' - p) XD rfl HDR.out (by omega) HS7.out ?_)
     intro v8 w8 ho8 hg8
     have ho8' : w8.ownsRow w6.heap.size 5 1 v8 (cn + l2 + r) ((XC ++ XD).map (Value.int .u8)) := by simpa using ho8
     obtain ⟨co8, cc8, rfl, hb8⟩ := owns_any ho8'
     have HB8 := hid_intro hb8
     have HGB := hid_intro (HGW.out w8 hg8)
     clear ho8 hg8 ho8' hb8
     go_wp2_with fail
     go_meet
     exact ⟨co8, cc8, rfl, HB8.out, HGB.out.2 _ B7.out, HGB.out.1⟩
   case rest =>
   obtain ⟨co8, cc8, rfl, hc8, hb8, hg8⟩ := hcut
   have C8 := hid_intro hc8
   have B8 := hid_intro hb8
   have G8 := hid_intro hg8
   clear hc8 hb8 hg8 O7 B7 G7 c1 HDR
   have d0 := G8.out.cell HX6.out (by simp)
   have d1 := G8.out.cell HX7.out (by simp)
   obtain ⟨j, hj⟩ : ∃ j, i + 1 = j := ⟨_, rfl⟩
   have hj2 : (i : Int) + 1 = (j : Int) := by omega
   rw [hj] at d0 d1
   have g4 : (j : Int) < (n : Int) + 1 := by omega
   have g5 : (0 : Int) ≤ (j : Int) := by omega
   have hcnb : cn + l2 + r ≤ 100000 := by omega
   go_wp2_with fail
   refine (refTwo_any co8 (cn + l2 + r) cc8 _ x.kid no ks _ C8.out (by omega) HXK.out HNO.out HKS.out).mono ?_
   rintro en w9 ⟨base9, ao9, cap9, rfl, ho9, hg9, hs9, hs9'⟩
   have C9 := hid_intro (own_byt ho9)
   have B9 := hid_intro (B8.out.keptN hg9)
   have G9 := hid_intro (grown_trans G8.out hg9)
   have HJ := hid_intro hj
   clear ho9 hg9 hs9 hs9' C8 B8 G8 d0 d1 hj hj2
   go_wp2
   go_roundw
   case rel =>
    refine ⟨i + 1, ao6, cap6, ao9, cn + l2 + r + 8, cap9, by omega, by have := HJ.out; go_num, ?_, ?_, rfl, ?_, G9.out⟩
    ·rw [Nat.mul_add, ← Nat.add_assoc]
    ·rw [HSN.out, Nat.mul_add, ← Nat.add_assoc, ← List.append_assoc]
     exact B9.out
    ·have := C9.out
     rw [← HXC.out, ← HXD.out] at this
     rw [HCN.out, HCB.out]
     simpa only [List.append_assoc] using this
   case measure => have := HJ.out; simp [intOf]; omega
  ·have hin : i = n := by omega
   have hTk : M.take i = M := by rw [hin, ← hn, List.take_length]
   rw [hTk] at HB HC
   obtain ⟨b2, off2, rfl, q6, q7⟩ := HK.out.row 0 (by rw [kids_len]; omega)
   have hk0 : (kids k M).getD 0 kd0 = k := rfl
   rw [hk0, Nat.zero_mul, Nat.add_zero] at q6
   rw [hk0, Nat.zero_mul, Nat.add_zero] at q7
   have d0 := HG.out.cell q6 (by simp)
   have d1 := HG.out.cell q7 (by simp)
   have hkk := HWK.out k List.mem_cons_self
   obtain ⟨no, hno⟩ : ∃ no, k.no = no := ⟨_, rfl⟩
   obtain ⟨ks, hks⟩ : ∃ ks, k.keys = ks := ⟨_, rfl⟩
   rw [hno] at d0
   rw [hks] at d1
   have HKK := hid_intro hkk
   have HNO := hid_intro hno
   have HKS := hid_intro hks
   have hcl := HC.out.len
   have hbl := HB.out.len
   have HUL : Hid ((bused (l : Int) k M).length = h0 + 2 * i + 8 + cn) := by
    show _ = _
    rw [HBU.out, ← List.append_assoc, List.length_append, hbl, List.length_append, kb_len, hcl]
    omega
   have hub : h0 + 2 * i + 8 + cn ≤ 4092 := by rw [← HUL.out]; exact HBL.out
   have g1 : ¬ (i : Int) < (n : Int) := by omega
   have g2 : (0 : Int) < (n : Int) + 1 := by omega
   clear q6 q7 hk0 hkk hno hks hTk hcl hbl hin
   go_wp2_with fail
   refine (refTwo_any bo (h0 + 2 * i) bc _ k no ks _ HB.out (by omega) HKK.out HNO.out HKS.out).mono ?_
   rintro en w9 ⟨base9, ao9, cap9, rfl, ho9, hg9, hs9, hs9'⟩
   obtain ⟨XB, hXB⟩ : ∃ XB, bhead (l : Int) M ++ bslots p (bcst (l : Int) M) M ++ kb k = XB := ⟨_, rfl⟩
   rw [hXB] at ho9
   have O9 := hid_intro ho9
   have C9 := hid_intro (HC.out.keptN hg9)
   have G9 := hid_intro (grown_trans HG.out hg9)
   have HS9 := hid_intro hs9
   have HS9' := hid_intro hs9'
   have HSG := hid_intro HG.out.size
   have HXB : Hid (XB ++ bcells p M = bused (l : Int) k M) := by show _ = _; rw [HBU.out, ← hXB]; simp only [List.append_assoc]
   obtain ⟨XC, hXC⟩ : ∃ XC, bcells p M = XC := ⟨_, rfl⟩
   rw [hXC] at HXB C9
   clear ho9 hg9 hs9 hs9' hXB hXC HB HC HG d0 d1
   go_wp2_with (at_builtin; refine wpList_append_byt rfl _ _ rfl base9 _ (h0 + 2 * i + 8) XB rfl O9.out co cn cc XC rfl C9.out (by omega) HS9'.out ?_)
   intro v10 w10 ho10 hg10
   have ho10' : w10.ownsRow base9 5 1 v10 (h0 + 2 * i + 8 + cn) ((bused (l : Int) k M).map (Value.int .u8)) := by rw [← HXB.out]; simpa using ho10
   have G10 : Hid (w.grownBy w10 none) := ⟨hg10.os.trans G9.out.os, hg10.tape.trans G9.out.tape, hg10.output.trans G9.out.output, Nat.le_trans G9.out.size hg10.size, fun q hq _ => (hg10.block q (Nat.lt_of_lt_of_le hq G9.out.size) (fun e => by have := (O9.out.lt q e.symm).1; have := HS9.out; have := HSG.out; omega)).trans (G9.out.block q hq (by simp))⟩
   obtain ⟨bo10, bc10, rfl, hb10⟩ := owns_any ho10'
   have B10 := hid_intro hb10
   clear ho10 hg10 ho10' hb10 O9 C9 G9
   obtain ⟨Z, hZ⟩ : ∃ Z : List Int, Z = List.replicate 4092 0 := ⟨_, rfl⟩
   have hZl : Z.length = 4092 := by rw [hZ, List.length_replicate]
   have HZ := hid_intro hZ
   clear hZ
   go_wp2_with (at_make; refine wpList_make_full _ rfl _ _ 26 rfl w10.heap.size 5 i0 (.int .u8 0) 1 Tryz.underlying26 hi hz0 hz1 _ _ _ _ 4092 rfl rfl rfl rfl ?b2 ?b3 (Nat.le_refl _) ?_)
   case b2 => rw [hz2]; omega
   case b3 => unfold maxLen; omega
   intro w20 hown hg20
   rw [made] at hown
   have RN : Hid (Rt w20 w10.heap.size 5 Z) := by
    show Rt _ _ _ _
    rw [HZ.out]
    exact Rw.of_owns hown
   have B20 := hid_intro (B10.out.keptN hg20)
   have G20 := hid_intro (grown_trans G10.out hg20)
   clear hown hg20
   obtain ⟨XU, hXU⟩ : ∃ XU, bused (l : Int) k M = XU := ⟨_, rfl⟩
   rw [hXU] at B20
   have HXU := hid_intro hXU
   clear hXU
   go_wp2_with (refine wpList_copy_rt rfl _ _ rfl _ _ _ _ _ _ rfl rfl w10.heap.size 0 5 Z XU RN.out B20.out (by omega) (fun _ => rfl) (by omega) ?_)
   intro w21 hr21 hg21 hs21
   have hbd := HBD.out
   rw [← splice_pad HZ.out, HXU.out] at hbd
   have R21 : Hid (Rw w21 w10.heap.size (bbody (l : Int) k M)) := by
    show Rw _ _ _
    rw [hbd]
    exact hr21
   have G21 := hid_intro (grown_new G20.out hg21 G10.out.size)
   clear hr21 hg21 hs21 RN B20 G20 hbd
   go_wp2
   go_ret
   exact ⟨w10.heap.size, rfl, R21.out, G21.out⟩
end Go.Proofs.YtnfelndfpmnkmaaGreatDoor
namespace Go.Proofs.YtnfelndfpmnkmaaGreatDoor
open Go.RowKit
theorem bw_51 {lv : Int} {L : List (List Int)} {K : List Kd} (h : ¬ (lv < 1 ∨ 15 < lv ∨ K.length ≠ L.length + 1)) (h1 : K.any wk = true) : bwrong lv L K = 51 := by
 unfold bwrong; rw [if_neg h, h1]; rfl
theorem bw_41 {lv : Int} {L : List (List Int)} {K : List Kd} (h : ¬ (lv < 1 ∨ 15 < lv ∨ K.length ≠ L.length + 1)) (h1 : K.any wk = false) (h2 : L.any wsep = true) : bwrong lv L K = 41 := by
 unfold bwrong; rw [if_neg h, h1, h2]; rfl
theorem bw_30 {lv : Int} {L : List (List Int)} {K : List Kd} (h : ¬ (lv < 1 ∨ 15 < lv ∨ K.length ≠ L.length + 1)) (h1 : K.any wk = false) (h2 : L.any wsep = false) (h3 : bups L = false) : bwrong lv L K = 30 := by
 unfold bwrong; rw [if_neg h, h1, h2, h3]; rfl
theorem bw_42 {lv : Int} {L : List (List Int)} {K : List Kd} (h : ¬ (lv < 1 ∨ 15 < lv ∨ K.length ≠ L.length + 1)) (h1 : K.any wk = false) (h2 : L.any wsep = false) (h3 : bups L = true) (h4 : 4092 < bsize L) : bwrong lv L K = 42 := by
 unfold bwrong; rw [if_neg h, h1, h2, h3]; simp [h4]
theorem bw_0 {lv : Int} {L : List (List Int)} {K : List Kd} (h : ¬ (lv < 1 ∨ 15 < lv ∨ K.length ≠ L.length + 1)) (h1 : K.any wk = false) (h2 : L.any wsep = false) (h3 : bups L = true) (h4 : ¬ 4092 < bsize L) : bwrong lv L K = 0 := by
 unfold bwrong; rw [if_neg h, h1, h2, h3]; simp [h4]
theorem bad_enc {lv : Int} {L : List (List Int)} {K : List Kd} {e : Int} (h : bwrong lv L K = e) (he : e ≠ 0) : Benc lv L K [] e := ⟨fun _ => ⟨h.symm, rfl⟩, fun h => absurd h he⟩
theorem any_no {T : Type} {P : T → Bool} {K : List T} (h : ∀ k ∈ K, P k = false) : K.any P = false := by
 rw [List.any_eq_false]; intro x hx; rw [h x hx]; simp
structure EncOut (lv : Int) (L : List (List Int)) (K : List Kd) (w : World) (en : Ending) (w' : World) : Prop where
 out : ∃ ao j c e zs, en = .returned (.tuple #[.slice ao j c, .int .i64 e]) ∧ Byt w' ao j c zs ∧ Benc lv L K zs e ∧ j ≤ 4092 ∧ j ≤ c ∧ c ≤ 4092
 gr : w.grownBy w' none
set_option maxHeartbeats 4000000 in
set_option maxRecDepth 100000 in
theorem refEncode5_any (lv : Int) (a : Option Addr) (n cap : Nat) (L : List (List Int)) (b : Option Addr) (m cap2 : Nat) (K : List Kd) (w : World) (hl : Lz w a L) (hb : Lb L) (hn : L.length = n) (hm : n ≤ 5000) (hk : Kl w b K) (hkn : K.length = m) (hkm : m ≤ 5000) :
  Calls Tryz.prog 6 #[.int .i64 lv, .slice a n cap, .slice b m cap2] w fun en w' => EncOut lv L K w en w' := by
 have HL := hid_intro hl
 have HK := hid_intro hk
 have HB := hid_intro hb
 clear hl hk hb
 by_cases h0 : lv < 1 ∨ 15 < lv ∨ m ≠ n + 1
 ·have HE : Hid (Benc lv L K [] 50) := bad_enc (by unfold bwrong; rw [hkn, hn, if_pos h0]) (by decide)
  by_cases h1 : lv < 1
  ·go_enter Tryz.func6, Tryz.ntmps6
   go_wp2
   go_ret2
   exact ⟨⟨none, 0, 0, 50, [], rfl, Byt.empty _, HE.out, by omega, by omega, by omega⟩, World.grownBy.refl _ _⟩
  ·by_cases h2 : 15 < lv
   ·go_enter Tryz.func6, Tryz.ntmps6
    go_wp2
    go_ret2
    exact ⟨⟨none, 0, 0, 50, [], rfl, Byt.empty _, HE.out, by omega, by omega, by omega⟩, World.grownBy.refl _ _⟩
   ·by_cases h3 : m = 0
    ·have h3' : (m : Int) = 0 := by omega
     go_enter Tryz.func6, Tryz.ntmps6
     go_wp2
     go_ret2
     exact ⟨⟨none, 0, 0, 50, [], rfl, Byt.empty _, HE.out, by omega, by omega, by omega⟩, World.grownBy.refl _ _⟩
    ·have h4 : ¬ (m : Int) = (n : Int) + 1 := by omega
     have h4' : ((m : Int) != (n : Int) + 1) = true := bne_iff_ne.2 h4
     have h3' : ¬ (m : Int) = 0 := by omega
     clear h0
     go_enter Tryz.func6, Tryz.ntmps6
     go_wp2
     go_ret2
     exact ⟨⟨none, 0, 0, 50, [], rfl, Byt.empty _, HE.out, by omega, by omega, by omega⟩, World.grownBy.refl _ _⟩
 ·have h1 : ¬ lv < 1 := fun h => h0 (.inl h)
  have h2 : ¬ 15 < lv := fun h => h0 (.inr (.inl h))
  have h3 : m = n + 1 := by omega
  have H0 : Hid (¬ (lv < 1 ∨ 15 < lv ∨ K.length ≠ L.length + 1)) := by rw [hkn, hn]; exact h0
  clear h0
  subst h3
  have g9 : ¬ ((n : Int) + 1 = 0) := by omega
  go_enter Tryz.func6, Tryz.ntmps6
  go_wp2
  go_loopw [8] (fun si wr => ∃ i : Nat, i ≤ n + 1 ∧ si = .int .i64 i ∧ (∀ j, j < i → wk (K.getD j kd0) = false) ∧ w.grownBy wr none) (fun si _ => n + 1 - (intOf si).toNat)
  case atStart => exact ⟨0, Nat.zero_le _, rfl, fun j hj => by omega, World.grownBy.refl _ _⟩
  case round =>
   obtain ⟨i, hi, rfl, ha, hg⟩ := hrel
   have HA := hid_intro ha
   have HG := hid_intro hg
   clear ha hg
   by_cases hlt : i < n + 1
   ·obtain ⟨b1, off, rfl, q2, q3⟩ := HK.out.row i (by omega)
    have c0 := HG.out.cell q2 (by simp)
    have c1 := HG.out.cell q3 (by simp)
    have HX : Hid (wk (K.getD i kd0) = false → ∀ j, j < i + 1 → wk (K.getD j kd0) = false) := by
     intro h j hj
     by_cases e : j = i
     ·subst e; exact h
     ·exact HA.out j (by omega)
    have HM : Hid (wk (K.getD i kd0) = true → bwrong lv L K = 51) := fun h => bw_51 H0.out (List.any_eq_true.2 ⟨_, kget_mem (show i < K.length by omega), h⟩)
    have HC := hid_intro (fun (W : World) => refKid_any (K.getD i kd0).no (K.getD i kd0).keys W)
    have HE : Hid (wk ⟨(K.getD i kd0).no, (K.getD i kd0).keys⟩ = wk (K.getD i kd0)) := rfl
    rw [HE.out] at HC
    clear HE HA q2 q3
    generalize (K.getD i kd0).no = no at *
    generalize (K.getD i kd0).keys = ks at *
    generalize wk (K.getD i kd0) = bb at *
    have g1 : (i : Int) < (n : Int) + 1 := by omega
    go_wp2_with fail
    refine (HC.out _).mono ?_
    rintro en w2 ⟨rfl, hg2⟩
    have HG2 := hid_intro (grown_trans HG.out hg2)
    clear hg2 HG c0 c1
    cases bb with
    | true =>
     have HE : Hid (Benc lv L K [] 51) := bad_enc (HM.out rfl) (by decide)
     clear HX HM
     go_wp2
     go_ret2
     exact ⟨⟨none, 0, 0, 51, [], rfl, Byt.empty _, HE.out, by omega, by omega, by omega⟩, HG2.out⟩
    | false =>
     have HX1 := hid_intro (HX.out rfl)
     clear HX HM
     go_wp2
     go_roundw
     case rel => exact ⟨i + 1, by omega, by go_num, HX1.out, HG2.out⟩
     case measure => simp [intOf]; omega
   ·have hin : i = n + 1 := by omega
    subst hin
    have HKA : Hid (∀ k ∈ K, wk k = false) := kids_all (fun j hj => HA.out j (by omega))
    have HKN : Hid (K.any wk = false) := any_no HKA.out
    clear HA
    go_wp2
    go_loopw [9] (fun si wr' => ∃ i : Nat, i ≤ n ∧ si = .int .i64 i ∧ (∀ j, j < i → wsep (L.getD j []) = false) ∧ w.grownBy wr' none) (fun si _ => n - (intOf si).toNat)
    case atStart => exact ⟨0, Nat.zero_le _, rfl, fun j hj => by omega, HG.out⟩
    case round =>
     obtain ⟨i, hi, rfl, ha, hg⟩ := hrel
     have HA := hid_intro ha
     have HG1 := hid_intro hg
     clear ha hg HG
     by_cases hlt : i < n
     ·obtain ⟨b1, off, ao, k, c, rfl, q2, q3, q4, q5⟩ := HL.out.row i (by omega)
      have hk := q3.len
      have c0 := HG1.out.cell q2 (by simp)
      have HM : Hid (wsep (L.getD i []) = true → bwrong lv L K = 41) := fun h => bw_41 H0.out HKN.out (List.any_eq_true.2 ⟨_, lget_mem (show i < L.length by omega), h⟩)
      have HX : Hid (wsep (L.getD i []) = false → ∀ j, j < i + 1 → wsep (L.getD j []) = false) := by
       intro h j hj
       by_cases e : j = i
       ·subst e; exact h
       ·exact HA.out j (by omega)
      have HE : Hid (wsep (L.getD i []) = !(decide (1 ≤ k) && decide (k ≤ 255))) := by show _ = _; unfold wsep; rw [hk]
      rw [HE.out] at HM HX
      have g1 : (i : Int) < (n : Int) := by omega
      clear HE hk q2 q3
      by_cases e1 : k < 1
      ·have HE : Hid (Benc lv L K [] 41) := bad_enc (HM.out (by simp; omega)) (by decide)
       have e1' : (k : Int) < 1 := by omega
       clear HX HM
       go_wp2
       go_ret2
       exact ⟨⟨none, 0, 0, 41, [], rfl, Byt.empty _, HE.out, by omega, by omega, by omega⟩, HG1.out⟩
      ·by_cases e2 : 255 < k
       ·have HE : Hid (Benc lv L K [] 41) := bad_enc (HM.out (by simp; omega)) (by decide)
        have e2' : (255 : Int) < (k : Int) := by omega
        clear HX HM
        go_wp2
        go_ret2
        exact ⟨⟨none, 0, 0, 41, [], rfl, Byt.empty _, HE.out, by omega, by omega, by omega⟩, HG1.out⟩
       ·have HX1 := hid_intro (HX.out (by simp; omega))
        have hd1 : decide ((k : Int) < 1) = false := decide_eq_false (by omega)
        have hd2 : decide ((255 : Int) < (k : Int)) = false := decide_eq_false (by omega)
        have hd3 : ¬ (k : Int) < 1 := by omega
        have hd4 : ¬ (255 : Int) < (k : Int) := by omega
        clear HX HM e1 e2
        go_wp2
        go_roundw
        case rel => exact ⟨i + 1, by omega, by go_num, HX1.out, HG1.out⟩
        case measure => simp [intOf]; omega
     ·have hin : i = n := by omega
      subst hin
      have HSA : Hid (∀ s ∈ L, wsep s = false) := seps_all (fun j hj => HA.out j (by omega))
      have HSN : Hid (L.any wsep = false) := any_no HSA.out
      clear HA
      go_wp2
      go_loopw [10] (fun si wr' => ∃ q : Nat, q ≤ i ∧ si = .int .i64 ((q + 1 : Nat) : Int) ∧ (∀ j, j < q → j + 1 < i → cmpZ (L.getD j []) (L.getD (j + 1) []) < 0) ∧ w.grownBy wr' none) (fun si _ => i + 1 - (intOf si).toNat)
      case atStart => exact ⟨0, Nat.zero_le _, rfl, fun j hj => by omega, HG1.out⟩
      case round =>
       obtain ⟨q, hq1, rfl, ha, hg⟩ := hrel
       have HA := hid_intro ha
       have HG2 := hid_intro hg
       clear ha hg HG1
       by_cases hlt : q + 1 < i
       ·obtain ⟨b1, off, ao, k, c, rfl, q2, q3, q4, q5⟩ := HL.out.row q (by omega)
        obtain ⟨b2, off2, ao2, k2, c2, e9, r2, r3, r4, r5⟩ := HL.out.row (q + 1) (by omega)
        simp only [Option.some.injEq, Addr.mk.injEq] at e9
        obtain ⟨rfl, rfl, _⟩ := e9
        have c0 := HG2.out.cell q2 (by simp)
        have c1 := HG2.out.cell r2 (by simp)
        have HC := hid_intro (fun (W : World) (hW : W.heap = wr.heap) => less_any ao ao2 k k2 c c2 _ _ W ((q3.keptN HG2.out).heap hW) ((r3.keptN HG2.out).heap hW) (HB.out _ (lget_mem (show q < L.length by omega))) (HB.out _ (lget_mem (show q + 1 < L.length by omega))))
        have HD : Hid (cmpZ (L.getD q []) (L.getD (q + 1) []) < 0 → ∀ j, j < q + 1 → j + 1 < i → cmpZ (L.getD j []) (L.getD (j + 1) []) < 0) := by
         intro h j hj hj2
         by_cases e : j = q
         ·subst e; exact h
         ·exact HA.out j (by omega) hj2
        have HE : Hid (¬ cmpZ (L.getD q []) (L.getD (q + 1) []) < 0 → bwrong lv L K = 30) := fun h => bw_30 H0.out HKN.out HSN.out (by
         cases hu : bups L with
         | false => rfl
         | true => exact absurd ((bups_iff L).1 hu q (by omega)) h)
        clear q2 q3 r2 r3
        generalize cmpZ (L.getD q []) (L.getD (q + 1) []) = z at *
        have g1 : ((q + 1 : Nat) : Int) < (i : Int) := by omega
        have g0 : (0 : Int) ≤ ((q + 1 : Nat) : Int) := by omega
        have g2 : ((q + 1 : Nat) : Int) - 1 = (q : Int) := by omega
        have g3 : (q : Int) < (i : Int) := by omega
        have g4 : (0 : Int) ≤ (q : Int) := by omega
        obtain ⟨j, hj⟩ : ∃ j, q + 1 = j := ⟨_, rfl⟩
        rw [hj] at g1 g0 g2 c1 ⊢
        have HJ := hid_intro hj
        clear hj
        by_cases hz : z < 0
        ·have hz' : decide (z < 0) = true := decide_eq_true hz
         have HD1 := hid_intro (HD.out hz)
         rw [hz'] at HC
         clear HD HE
         go_wp2
         go_quiet ((go_at_call 24; exact Calls.quiet_of_same (HC.out _ rfl)))
         go_wp2
         go_roundw
         case rel => exact ⟨q + 1, by omega, by have := HJ.out; go_num, HD1.out, grown_trans HG2.out ((Qt.drewN _ _).grown none)⟩
         case measure => have := HJ.out; simp [intOf]; omega
        ·have hz' : decide (z < 0) = false := decide_eq_false hz
         have HEE : Hid (Benc lv L K [] 30) := bad_enc (HE.out hz) (by decide)
         rw [hz'] at HC
         clear HD HE
         go_wp2
         go_quiet ((go_at_call 24; exact Calls.quiet_of_same (HC.out _ rfl)))
         go_wp2
         go_ret2
         exact ⟨⟨none, 0, 0, 30, [], rfl, Byt.empty _, HEE.out, by omega, by omega, by omega⟩, grown_trans HG2.out ((Qt.drewN _ _).grown none)⟩
       ·have g1 : ¬ ((q + 1 : Nat) : Int) < (i : Int) := by omega
        have HUP : Hid (bups L = true) := (bups_iff L).2 (fun j hj => HA.out j (by omega) (by omega))
        obtain ⟨j, hj⟩ : ∃ j, q + 1 = j := ⟨_, rfl⟩
        rw [hj] at g1 ⊢
        clear hj
        go_wp2_with fail
        refine (refSize5_any a i cap L _ (HL.out.keptN HG2.out) hn hm (fun x hx => by have := (wsep_parts (HSA.out x hx)).2; omega)).mono ?_
        rintro en w9 ⟨rfl, hq9⟩
        have G9 := hid_intro (grown_trans HG2.out (hq9.grown none))
        clear hq9 HG2
        by_cases hs : 4092 < bsize L
        ·have HEE : Hid (Benc lv L K [] 42) := bad_enc (bw_42 H0.out HKN.out HSN.out HUP.out hs) (by decide)
         generalize bsize L = sz at *
         have hs1 : (4092 : Int) < (sz : Int) := by omega
         go_wp2
         go_ret2
         exact ⟨⟨none, 0, 0, 42, [], rfl, Byt.empty _, HEE.out, by omega, by omega, by omega⟩, G9.out⟩
        ·have hw := bw_0 H0.out HKN.out HSN.out HUP.out hs
         have hf := bwrong_fit.1 hw
         obtain ⟨k, M, rfl, rfl⟩ := split_fit hf
         obtain ⟨l, rfl⟩ : ∃ l : Nat, lv = (l : Int) := ⟨lv.toNat, by omega⟩
         rw [seps_len] at hn
         have HLY := hid_intro (fun (W : World) (q1 : Lz W a (seps M)) (q2 : Kl W b (kids k M)) => refLay5_any l a i cap b cap2 k M W q1 q2 hn hf)
         have HEE : Hid (Benc (l : Int) (seps M) (kids k M) (bbody (l : Int) k M) 0) := ⟨fun h => absurd rfl h, fun _ => ⟨k, M, rfl, rfl, hw, rfl⟩⟩
         have HBL := hid_intro (bbody_len (lv := (l : Int)) (k := k) hf.size)
         clear hw hf
         generalize bbody (l : Int) k M = B at *
         generalize bsize (seps M) = sz at *
         have hs1 : ¬ (4092 : Int) < (sz : Int) := by omega
         go_wp2_with fail
         refine (HLY.out _ (HL.out.keptN G9.out) (HK.out.keptN G9.out)).mono ?_
         rintro en w10 ⟨G, rfl, hr10, hg10⟩
         have R10 := hid_intro hr10
         have G10 := hid_intro (grown_trans G9.out hg10)
         clear hr10 hg10
         go_wp2
         go_ret2
         exact ⟨⟨_, 4092, 4092, 0, B, rfl, R10.out.all 4092 4092 HBL.out.symm, HEE.out, Nat.le_refl _, Nat.le_refl _, Nat.le_refl _⟩, G10.out⟩
end Go.Proofs.YtnfelndfpmnkmaaGreatDoor
