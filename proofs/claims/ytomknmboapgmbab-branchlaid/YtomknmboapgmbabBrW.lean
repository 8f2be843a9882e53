import Derived.Test.YtomknmboapgmbabBrIn
namespace Go.Proofs.Ytomknmboapgmbab
open Go.RowKit

theorem Ow.blk {w : World} {g cap : Nat} {zs : List Int} (h : Ow w g cap zs) : ∃ cur, w.heap[g]? = some (.cells cur 5 (0, 0)) := by
  obtain ⟨cur, h1, _⟩ := h.ex
  exact ⟨cur, h1⟩
theorem ow_byt {w : World} {g cap : Nat} {zs ts : List Int} (h : Ow w g cap (zs ++ ts)) (n : Nat) (hn : n = zs.length) : Byt w (some ⟨g, 0, none⟩) n cap zs := h.part.byt n hn

theorem own_keptN {w w' : World} {base sz : Nat} {e : TypeId} {v : Value} {n : Nat} {xs : List Value} (h : w.ownsRow base e sz v n xs) (hg : w.grownBy w' none) : w'.ownsRow base e sz v n xs :=
  h.kept hg (by cases v.ownBlock with | none => exact .inl rfl | some g => exact .inr (by simp))

/-- Strings lent: each in a block of its own, two marks behind it. -/
structure Lp (w : World) (base : Nat) (gs : List (Nat × Nat)) (xs : List Value) (L : List (List Int)) : Prop where
  gl : gs.length = L.length
  len : xs.length = L.length
  el : ∀ j, j < L.length → xs[j]? = some (.slice (some ⟨(gs.getD j (0, 0)).1, 0, none⟩) (L.getD j []).length (gs.getD j (0, 0)).2) ∧ Ow w (gs.getD j (0, 0)).1 (gs.getD j (0, 0)).2 (L.getD j [] ++ [201, 202]) ∧ base ≤ (gs.getD j (0, 0)).1
  dif : ∀ i j, i < j → j < L.length → (gs.getD i (0, 0)).1 < (gs.getD j (0, 0)).1
theorem Lp.nil (w : World) (base : Nat) : Lp w base [] [] [] := ⟨rfl, rfl, fun j hj => by simp at hj, fun i j _ hj => by simp at hj⟩
theorem Lp.kept {w w' : World} {base : Nat} {gs : List (Nat × Nat)} {xs : List Value} {L : List (List Int)} {row : Option Nat} (h : Lp w base gs xs L) (hg : w.grownBy w' row) (hne : ∀ (g : Nat) (cur : Array Value), base ≤ g → w.heap[g]? = some (.cells cur 5 (0, 0)) → some g ≠ row) : Lp w' base gs xs L := by
  refine ⟨h.gl, h.len, fun j hj => ?_, h.dif⟩
  obtain ⟨h1, h2, h3⟩ := h.el j hj
  obtain ⟨cur, h4⟩ := h2.blk
  exact ⟨h1, h2.kept hg (hne _ cur h3 h4), h3⟩
theorem Lp.keptN {w w' : World} {base : Nat} {gs : List (Nat × Nat)} {xs : List Value} {L : List (List Int)} (h : Lp w base gs xs L) (hg : w.grownBy w' none) : Lp w' base gs xs L := h.kept hg (fun _ _ _ _ => by simp)
theorem Lp.snoc {w : World} {base : Nat} {gs : List (Nat × Nat)} {xs : List Value} {L : List (List Int)} (h : Lp w base gs xs L) {g c n : Nat} {x : List Int} (hx : Ow w g c (x ++ [201, 202])) (hn : x.length = n) (hb : base ≤ g) (hlt : ∀ j, j < L.length → (gs.getD j (0, 0)).1 < g) :
    Lp w base (gs ++ [(g, c)]) (xs ++ [.slice (some ⟨g, 0, none⟩) n c]) (L ++ [x]) := by
  have hl := h.len
  have hgl := h.gl
  refine ⟨by simp [hgl], by simp [hl], fun j hj => ?_, fun i j hij hj => ?_⟩
  · rw [List.length_append] at hj
    simp only [List.length_cons, List.length_nil] at hj
    by_cases e : j < L.length
    · obtain ⟨h1, h2, h3⟩ := h.el j e
      have eg : (L ++ [x]).getD j [] = L.getD j [] := by simp [List.getD, List.getElem?_append_left e]
      have ef : (gs ++ [(g, c)]).getD j (0, 0) = gs.getD j (0, 0) := by simp [List.getD, List.getElem?_append_left (show j < gs.length by omega)]
      rw [eg, ef]
      exact ⟨by rw [List.getElem?_append_left (by omega)]; exact h1, h2, h3⟩
    · obtain rfl : j = L.length := by omega
      have eg : (L ++ [x]).getD L.length [] = x := by simp [List.getD]
      have ef : (gs ++ [(g, c)]).getD L.length (0, 0) = (g, c) := by rw [← hgl]; simp [List.getD]
      rw [eg, ef, hn]
      exact ⟨by rw [List.getElem?_append_right (by omega), hl, Nat.sub_self]; rfl, hx, hb⟩
  · rw [List.length_append] at hj
    simp only [List.length_cons, List.length_nil] at hj
    have ei : (gs ++ [(g, c)]).getD i (0, 0) = gs.getD i (0, 0) := by simp [List.getD, List.getElem?_append_left (show i < gs.length by omega)]
    rw [ei]
    by_cases e : j < L.length
    · have ej : (gs ++ [(g, c)]).getD j (0, 0) = gs.getD j (0, 0) := by simp [List.getD, List.getElem?_append_left (show j < gs.length by omega)]
      rw [ej]; exact h.dif i j hij e
    · obtain rfl : j = L.length := by omega
      have ej : (gs ++ [(g, c)]).getD L.length (0, 0) = (g, c) := by rw [← hgl]; simp [List.getD]
      rw [ej]; exact hlt i hij

/-- A list lent: one more string behind all. -/
structure Ln (w : World) (base A cap h : Nat) (gs : List (Nat × Nat)) (xs : List Value) (L : List (List Int)) : Prop where
  own : w.ownsRow base 26 1 (.slice (some ⟨A, 0, none⟩) (L.length + 1) cap) (L.length + 1) (xs ++ [.slice (some ⟨h, 0, none⟩) 1 1])
  lp : Lp w base gs xs L
  last : Ow w h 1 [203]
  lb : base ≤ h
  sz : ∀ s ∈ L, s.length ≤ 1000000
theorem Ln.keptN {w w' : World} {base A cap h : Nat} {gs : List (Nat × Nat)} {xs : List Value} {L : List (List Int)} (k : Ln w base A cap h gs xs L) (hg : w.grownBy w' none) : Ln w' base A cap h gs xs L :=
  ⟨own_keptN k.own hg, k.lp.keptN hg, k.last.keptN hg, k.lb, k.sz⟩
theorem Ln.cap_le {w : World} {base A cap h : Nat} {gs : List (Nat × Nat)} {xs : List Value} {L : List (List Int)} (k : Ln w base A cap h gs xs L) : L.length + 1 ≤ cap ∧ cap ≤ 9223372036854775807 := by
  rcases k.own.2 with ⟨e, _⟩ | ⟨g, cap', cur, hv, _, _, hc, hm, _⟩
  · cases e
  · injection hv with _ _ e3
    subst e3
    exact ⟨hc, by unfold maxLen at hm; omega⟩
theorem Ln.cell {w : World} {base A cap h : Nat} {gs : List (Nat × Nat)} {xs : List Value} {L : List (List Int)} (k : Ln w base A cap h gs xs L) (i : Nat) (hi : i < L.length) : w.cell? ⟨A, i, none⟩ = some (.slice (some ⟨(gs.getD i (0, 0)).1, 0, none⟩) (L.getD i []).length (gs.getD i (0, 0)).2) := by
  have hl := k.lp.len
  rw [k.own.cellAt i (by omega), List.getElem?_append_left (by omega)]
  exact (k.lp.el i hi).1
theorem Ln.cellLast {w : World} {base A cap h : Nat} {gs : List (Nat × Nat)} {xs : List Value} {L : List (List Int)} (k : Ln w base A cap h gs xs L) : w.cell? ⟨A, L.length, none⟩ = some (.slice (some ⟨h, 0, none⟩) 1 1) := by
  have hl := k.lp.len
  rw [k.own.cellAt L.length (by omega), List.getElem?_append_right (by omega), hl, Nat.sub_self]; rfl
theorem Ln.lz {w : World} {base A cap h : Nat} {gs : List (Nat × Nat)} {xs : List Value} {L : List (List Int)} (k : Ln w base A cap h gs xs L) : Lz w (some ⟨A, 0, none⟩) L := by
  refine ⟨fun i hi => ?_⟩
  obtain ⟨_, h2, _⟩ := k.lp.el i hi
  have hle := h2.le
  have hmx := h2.max
  rw [List.length_append] at hle
  simp only [List.length_cons, List.length_nil] at hle
  exact ⟨A, 0, _, _, _, rfl, by rw [Nat.zero_add]; exact k.cell i hi, ow_byt h2 _ rfl, by omega, hmx⟩
/-- One byte of one string turned. -/
theorem Ln.set {w : World} {base A cap h : Nat} {gs : List (Nat × Nat)} {xs : List Value} {L : List (List Int)} (k : Ln w base A cap h gs xs L) (i : Nat) (hi : i < L.length) (j : Nat) (hj : j < (L.getD i []).length) (v : Int) :
    Lz (w.setCell ⟨(gs.getD i (0, 0)).1, j, none⟩ (.int .u8 v)) (some ⟨A, 0, none⟩) (L.set i ((L.getD i []).set j v)) := by
  have hg := grown_cell w (gs.getD i (0, 0)).1 j (.int .u8 v)
  obtain ⟨_, hi2, hi3⟩ := k.lp.el i hi
  obtain ⟨cur, hcur⟩ := hi2.blk
  have hA : some (gs.getD i (0, 0)).1 ≠ some A := own_ne k.own hcur (by decide)
  refine ⟨fun m hm => ?_⟩
  rw [List.length_set] at hm
  have hcell : (w.setCell ⟨(gs.getD i (0, 0)).1, j, none⟩ (.int .u8 v)).cell? ⟨A, 0 + m, none⟩ = some (.slice (some ⟨(gs.getD m (0, 0)).1, 0, none⟩) (L.getD m []).length (gs.getD m (0, 0)).2) := by
    rw [Nat.zero_add]
    exact hg.cell (k.cell m hm) (fun e => hA e.symm)
  obtain ⟨_, h2, _⟩ := k.lp.el m hm
  have hle := h2.le
  have hmx := h2.max
  rw [List.length_append] at hle
  simp only [List.length_cons, List.length_nil] at hle
  refine ⟨A, 0, _, _, _, rfl, hcell, ?_, by omega, hmx⟩
  by_cases e : m = i
  · subst e
    have eg : (L.set m ((L.getD m []).set j v)).getD m [] = (L.getD m []).set j v := by simp only [List.getD, List.getElem?_set_self hm, Option.getD_some]
    rw [eg]
    have h3 := h2.set j v (by rw [List.length_append]; omega)
    rw [List.set_append_left _ _ hj] at h3
    exact ow_byt h3 _ (by rw [List.length_set])
  · have eg : (L.set i ((L.getD i []).set j v)).getD m [] = L.getD m [] := by
      simp only [List.getD]
      rw [List.getElem?_set_ne (fun h => e h.symm)]
    rw [eg]
    refine ow_byt (h2.kept hg (fun e2 => ?_)) _ rfl
    have e3 := Option.some.inj e2
    rcases Nat.lt_or_gt_of_ne e with q | q
    · have := k.lp.dif m i q hi; omega
    · have := k.lp.dif i m q hm; omega

theorem grown_app5 {w wr w' : World} {o : Obj} {base n : Nat} {v : Value} {xs : List Value} {t : TypeId} {sz : Nat} (hg : w.grownBy wr none) (ho : wr.ownsRow base t sz v n xs) (hb : w.heap.size ≤ base) (h : (wr.alloc o).grownBy w' v.ownBlock) : w.grownBy w' none := by
  refine ⟨h.os.trans hg.os, h.tape.trans hg.tape, h.output.trans hg.output, ?_, fun q hq _ => ?_⟩
  · have := h.size; have := hg.size; simp at *; omega
  · have hq2 : q < wr.heap.size := Nat.lt_of_lt_of_le hq hg.size
    rw [h.block q (by simp; omega) (by intro e; have := (ho.lt q e.symm).1; omega), Below.heap_alloc wr _ q hq2]
    exact hg.block q hq (by simp)

end Go.Proofs.Ytomknmboapgmbab
