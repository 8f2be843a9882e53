import Derived.Test.YtoakngmagoilnaaQ16
import Derived.Test.YtoakngmagoilnaaQ17
import Derived.Test.YtoakngmagoilnaaQ13
import Derived.Lib.AppendZeros
import Derived.Deep.Cut
import Derived.Deep.CutRange
import Derived.Deep.DeepCutAuto
import Derived.Deep.CutBlock
import Derived.BigQuiet
import Derived.Deep.QuietTactic
import Derived.Test.YtoakngmagoilnaaQ14
import Derived.Test.YtoakngmagoilnaaQ15
namespace Go.Proofs.Ytoakngmagoilnaa
open Go.RowKit
structure Iw (w : World) (xs : List Value) (L : List It) : Prop where
 len : xs.length = L.length * 4
 el : ∀ j, j < L.length → ∃ ao n c bo m d, xs[j * 4]? = some (.slice ao n c) ∧ xs[j * 4 + 1]? = some (.slice bo m d) ∧ xs[j * 4 + 2]? = some (.int .i64 (L.getD j it0).size) ∧ xs[j * 4 + 3]? = some (.int .i64 (L.getD j it0).first) ∧
  Byt w ao n c (L.getD j it0).key ∧ n ≤ c ∧ c ≤ 9223372036854775807 ∧ Byt w bo m d (L.getD j it0).val ∧ m ≤ d ∧ d ≤ 9223372036854775807
theorem Iw.nil (w : World) : Iw w [] [] := ⟨rfl, fun j hj => by simp at hj⟩
theorem Iw.snoc {w : World} {xs : List Value} {L : List It} {ao : Option Addr} {n c : Nat} {bo : Option Addr} {m d : Nat} {x : It} (h : Iw w xs L) (h1 : Byt w ao n c x.key) (h2 : n ≤ c) (h3 : c ≤ 9223372036854775807) (h4 : Byt w bo m d x.val) (h5 : m ≤ d) (h6 : d ≤ 9223372036854775807) (s f : Int) (hs : x.size = s) (hf : x.first = f) :
  Iw w (xs ++ [.slice ao n c, .slice bo m d, .int .i64 s, .int .i64 f]) (L ++ [x]) := by
 have hl := h.len
 refine ⟨by simp [hl]; omega, fun j hj => ?_⟩
 rw [List.length_append] at hj
 simp only [List.length_cons, List.length_nil] at hj
 by_cases e : j < L.length
 ·obtain ⟨ao, n, c, bo, m, d, k1, k2, k3, k4, k5⟩ := h.el j e
  have eg : (L ++ [x]).getD j it0 = L.getD j it0 := by simp [List.getD, List.getElem?_append_left e]
  rw [eg]
  exact ⟨ao, n, c, bo, m, d, by rw [List.getElem?_append_left (by omega)]; exact k1, by rw [List.getElem?_append_left (by omega)]; exact k2, by rw [List.getElem?_append_left (by omega)]; exact k3, by rw [List.getElem?_append_left (by omega)]; exact k4, k5⟩
 ·obtain rfl : j = L.length := by omega
  have eg : (L ++ [x]).getD L.length it0 = x := by simp [List.getD]
  rw [eg, hs, hf]
  refine ⟨ao, n, c, bo, m, d, ?_, ?_, ?_, ?_, h1, h2, h3, h4, h5, h6⟩
  ·rw [List.getElem?_append_right (by omega), hl, Nat.sub_self]; rfl
  ·rw [List.getElem?_append_right (by omega), hl, Nat.add_sub_cancel_left]; rfl
  ·rw [List.getElem?_append_right (by omega), hl, Nat.add_sub_cancel_left]; rfl
  ·rw [List.getElem?_append_right (by omega), hl, Nat.add_sub_cancel_left]; rfl
theorem Iw.il {w wr : World} {base : Nat} {v : Value} {n : Nat} {xs : List Value} {L : List It} (h : Iw w xs L) (hg : w.grownBy wr none) (ho : wr.ownsRow base 28 4 v n xs) : ∃ a cap, v = .slice a n cap ∧ Il wr a L ∧ L.length = n := by
 have hl := h.len
 have hn : L.length = n := by have := ho.1; omega
 rcases ho.2 with ⟨rfl, rfl⟩ | ⟨g, cap, cur, rfl, _, _, hc, hm, _⟩
 ·obtain rfl : L = [] := List.length_eq_zero_iff.1 hn
  exact ⟨none, 0, rfl, Il.zero _ _, rfl⟩
 ·refine ⟨_, cap, rfl, ⟨fun i hi => ?_⟩, hn⟩
  obtain ⟨ao, n', c, bo, m, d, h1, h2, h3, h4, h5, h6, h7, h8, h9, h10⟩ := h.el i hi
  refine ⟨g, 0, ao, n', c, bo, m, d, rfl, ?_, ?_, ?_, ?_, h5.keptN hg, h6, h7, h8.keptN hg, h9, h10⟩
  ·rw [Nat.zero_add, ho.cellAt _ (by omega)]; exact h1
  ·rw [Nat.zero_add, ho.cellAt _ (by omega)]; exact h2
  ·rw [Nat.zero_add, ho.cellAt _ (by omega)]; exact h3
  ·rw [Nat.zero_add, ho.cellAt _ (by omega)]; exact h4
structure Sw (w : World) (xs : List Value) (L : List (List Int)) : Prop where
 len : xs.length = L.length
 el : ∀ j, j < L.length → ∃ ao n c, xs[j]? = some (.slice ao n c) ∧ Byt w ao n c (L.getD j []) ∧ n ≤ c ∧ c ≤ 9223372036854775807
theorem Sw.nil (w : World) : Sw w [] [] := ⟨rfl, fun j hj => by simp at hj⟩
theorem Sw.snoc {w : World} {xs : List Value} {L : List (List Int)} {ao : Option Addr} {n c : Nat} {x : List Int} (h : Sw w xs L) (h1 : Byt w ao n c x) (h2 : n ≤ c) (h3 : c ≤ 9223372036854775807) : Sw w (xs ++ [.slice ao n c]) (L ++ [x]) := by
 have hl := h.len
 refine ⟨by simp [hl], fun j hj => ?_⟩
 rw [List.length_append] at hj
 simp only [List.length_cons, List.length_nil] at hj
 by_cases e : j < L.length
 ·obtain ⟨ao, n, c, k1, k2⟩ := h.el j e
  have eg : (L ++ [x]).getD j [] = L.getD j [] := by simp [List.getD, List.getElem?_append_left e]
  rw [eg]
  exact ⟨ao, n, c, by rw [List.getElem?_append_left (by omega)]; exact k1, k2⟩
 ·obtain rfl : j = L.length := by omega
  have eg : (L ++ [x]).getD L.length [] = x := by simp [List.getD]
  rw [eg]
  exact ⟨ao, n, c, by rw [List.getElem?_append_right (by omega), hl, Nat.sub_self]; rfl, h1, h2, h3⟩
theorem Sw.lz {w w' : World} {base : Nat} {v : Value} {n : Nat} {xs : List Value} {L : List (List Int)} (h : Sw w xs L) (hg : w.grownBy w' none) (ho : w'.ownsRow base 26 1 v n xs) : ∃ a cap, v = .slice a n cap ∧ Lz w' a L ∧ L.length = n ∧ n ≤ cap ∧ cap ≤ 9223372036854775807 := by
 have hl := h.len
 have hn : L.length = n := by have := ho.1; omega
 rcases ho.2 with ⟨rfl, rfl⟩ | ⟨g, cap, cur, rfl, _, _, hc, hm, _⟩
 ·obtain rfl : L = [] := List.length_eq_zero_iff.1 hn
  exact ⟨none, 0, rfl, Lz.zero _ _, rfl, Nat.le_refl _, by omega⟩
 ·refine ⟨_, cap, rfl, ⟨fun i hi => ?_⟩, hn, hc, by unfold maxLen at hm; omega⟩
  obtain ⟨ao, n', c, h1, h2, h3, h4⟩ := h.el i hi
  refine ⟨g, 0, ao, n', c, rfl, ?_, h2.keptN hg, h3, h4⟩
  rw [Nat.zero_add, ho.cellAt _ (by omega)]; exact h1
theorem Iw.append {w : World} {xs ys : List Value} {A B : List It} (h : Iw w xs A) (k : Iw w ys B) : Iw w (xs ++ ys) (A ++ B) := by
 have hl := h.len
 refine ⟨by rw [List.length_append, List.length_append, h.len, k.len, Nat.add_mul], fun j hj => ?_⟩
 rw [List.length_append] at hj
 by_cases e : j < A.length
 ·obtain ⟨ao, n, c, bo, m, d, k1, k2, k3, k4, k5⟩ := h.el j e
  have eg : (A ++ B).getD j it0 = A.getD j it0 := by simp [List.getD, List.getElem?_append_left e]
  rw [eg]
  exact ⟨ao, n, c, bo, m, d, by rw [List.getElem?_append_left (by omega)]; exact k1, by rw [List.getElem?_append_left (by omega)]; exact k2, by rw [List.getElem?_append_left (by omega)]; exact k3, by rw [List.getElem?_append_left (by omega)]; exact k4, k5⟩
 ·obtain ⟨i, rfl⟩ : ∃ i, j = A.length + i := ⟨j - A.length, by omega⟩
  obtain ⟨ao, n, c, bo, m, d, k1, k2, k3, k4, k5⟩ := k.el i (by omega)
  have eg : (A ++ B).getD (A.length + i) it0 = B.getD i it0 := by simp [List.getD, List.getElem?_append_right]
  rw [eg]
  refine ⟨ao, n, c, bo, m, d, ?_, ?_, ?_, ?_, k5⟩
  ·rw [List.getElem?_append_right (by omega), hl, show (A.length + i) * 4 - A.length * 4 = i * 4 by omega]; exact k1
  ·rw [List.getElem?_append_right (by omega), hl, show (A.length + i) * 4 + 1 - A.length * 4 = i * 4 + 1 by omega]; exact k2
  ·rw [List.getElem?_append_right (by omega), hl, show (A.length + i) * 4 + 2 - A.length * 4 = i * 4 + 2 by omega]; exact k3
  ·rw [List.getElem?_append_right (by omega), hl, show (A.length + i) * 4 + 3 - A.length * 4 = i * 4 + 3 by omega]; exact k4
theorem Iw.keptN {w w' : World} {xs : List Value} {L : List It} (h : Iw w xs L) (hg : w.grownBy w' none) : Iw w' xs L := by
 refine ⟨h.len, fun j hj => ?_⟩
 obtain ⟨ao, n, c, bo, m, d, k1, k2, k3, k4, k5, k6, k7, k8, k9, k10⟩ := h.el j hj
 exact ⟨ao, n, c, bo, m, d, k1, k2, k3, k4, k5.keptN hg, k6, k7, k8.keptN hg, k9, k10⟩
theorem take_snoc9 {L : List It} {i : Nat} (hi : i < L.length) : L.take (i + 1) = L.take i ++ [L.getD i it0] := by
 rw [List.take_add_one, List.getElem?_eq_getElem hi]
 simp [List.getD, List.getElem?_eq_getElem hi]
theorem Il.cells {w : World} {ad : Addr} {L : List It} (h : Il w (some ad) L) : ∃ ys, (∀ j u, ys[j]? = some u → w.cell? (ad.add j) = some u) ∧ (∀ u ∈ ys, u.oneCell' = true) ∧ Iw w ys L := by
 have H : ∀ i, i ≤ L.length → ∃ ys, (∀ j u, ys[j]? = some u → w.cell? (ad.add j) = some u) ∧ (∀ u ∈ ys, u.oneCell' = true) ∧ Iw w ys (L.take i) := by
  intro i
  induction i with
  | zero => exact fun _ => ⟨[], fun j u hu => by simp at hu, fun u hu => by simp at hu, by simpa using Iw.nil w⟩
  | succ i ih =>
   intro hi
   obtain ⟨ys, h1, h2, h3⟩ := ih (by omega)
   obtain ⟨b, off, ao, n, c, bo, m, d, e, q2, q3, q4, q5, q6, q7, q8, q9, q10, q11⟩ := h.row i (by omega)
   simp only [Option.some.injEq] at e
   subst e
   have hl : ys.length = i * 4 := by
    have := h3.len
    rw [List.length_take] at this
    rw [this]
    congr 1
    omega
   refine ⟨ys ++ [.slice ao n c, .slice bo m d, .int .i64 (L.getD i it0).size, .int .i64 (L.getD i it0).first], fun j u hu => ?_, fun u hu => ?_, ?_⟩
   ·by_cases e : j < ys.length
    ·rw [List.getElem?_append_left e] at hu
     exact h1 j u hu
    ·rw [List.getElem?_append_right (by omega)] at hu
     obtain ⟨k, rfl⟩ : ∃ k, j = i * 4 + k := ⟨j - i * 4, by omega⟩
     rw [hl, Nat.add_sub_cancel_left] at hu
     rw [Addr.add_lit]
     match k, hu with
     | 0, hu => simp at hu; subst hu; rw [show off + (i * 4 + 0) = off + i * 4 by omega]; exact q2
     | 1, hu => simp at hu; subst hu; rw [show off + (i * 4 + 1) = off + i * 4 + 1 by omega]; exact q3
     | 2, hu => simp only [List.getElem?_cons_succ, List.getElem?_cons_zero, Option.some.injEq] at hu; subst hu; rw [show off + (i * 4 + 2) = off + i * 4 + 2 by omega]; exact q4
     | 3, hu => simp only [List.getElem?_cons_succ, List.getElem?_cons_zero, Option.some.injEq] at hu; subst hu; rw [show off + (i * 4 + 3) = off + i * 4 + 3 by omega]; exact q5
     | k + 4, hu => simp at hu
   ·rcases List.mem_append.1 hu with hu | hu
    ·exact h2 u hu
    ·simp only [List.mem_cons, List.not_mem_nil, or_false] at hu
     rcases hu with rfl | rfl | rfl | rfl <;> rfl
   ·rw [take_snoc9 (by omega)]
    exact h3.snoc q6 q7 q8 q9 q10 q11 _ _ rfl rfl
 obtain ⟨ys, h1, h2, h3⟩ := H L.length (Nat.le_refl _)
 rw [List.take_length] at h3
 exact ⟨ys, h1, h2, h3⟩
theorem wpList_append_il {w0 w : World} {ops : Array Oper} {rest : List Oper} {o : Oper} {a : Act} {Q : Exit → Act → World → Prop} (hgd : o.guard = none) (s x : Operand)
  (ho : o.op = .call { callee := .builtin .append, args := #[s, x], argTypes := #[22, 22] })
  (base : Nat) (v : Value) (n : Nat) (xs : List Value) (A : List It) (hs : a.eval s = v) (hown : w.ownsRow base 28 4 v n xs) (hA : Iw w0 xs A)
  (ao : Option Addr) (m c : Nat) (B : List It) (hx : a.eval x = .slice ao m c) (hb : Il w0 ao B) (hg : w0.grownBy w none) (hm : B.length = m) (hnil : ao = none → c = 0) (h63 : n + m ≤ 100000) (hbase : base ≤ w.heap.size)
  (h : ∀ v' w' xs', w'.ownsRow base 28 4 v' (n + m) xs' → Iw w0 xs' (A ++ B) → w.grownBy w' v.ownBlock → wpList Try.prog ops Q rest (a.put o.dst v') w') : wpList Try.prog ops Q (o :: rest) a w := by
 obtain ⟨i0, hi, hz0, hz1, hz2⟩ := info_parts info_item
 cases ao with
 | none =>
  have hc := hnil rfl
  have hB : B = [] := by
   cases B with
   | nil => rfl
   | cons y B =>
    obtain ⟨_, _, _, _, _, _, _, _, e, _⟩ := hb.row 0 (by simp)
    cases e
  subst hB
  have hm0 : m = 0 := by simpa using hm.symm
  subst hm0
  subst hc
  refine wpList_append_own_none hgd s x 22 ho base 28 i0 4 Try.underlying22 hi v n _ hs hown hx ?_
  exact h v w xs hown (by rw [List.append_nil]; exact hA) (World.grownBy.refl _ _)
 | some ad =>
  obtain ⟨ys, k1, k2, k3⟩ := (hb.keptN hg).cells
  obtain ⟨zs, j1, j2, j3⟩ := hb.cells
  have hz : ys = zs := by
   apply List.ext_getElem?
   intro j
   have hl1 := k3.len
   have hl2 := j3.len
   by_cases e : j < ys.length
   ·have e2 : j < zs.length := by omega
    have a1 := k1 j _ (List.getElem?_eq_getElem e)
    have a2 := hg.cell (j1 j _ (List.getElem?_eq_getElem e2)) (by simp)
    rw [List.getElem?_eq_getElem e, List.getElem?_eq_getElem e2]
    rw [a2] at a1
    exact a1.symm
   ·rw [List.getElem?_eq_none (by omega), List.getElem?_eq_none (by omega)]
  subst hz
  refine wpList_append_own w hgd s x 22 ho base 28 i0 (.agg #[.slice none 0 0, .slice none 0 0, .int .i64 0, .int .i64 0]) 4 64 Try.underlying22 hi hz0 hz1 hz2 rfl (by decide) v n _ hs hown ad m c ys hx (by rw [k3.len, hm]) k1 k2 (by unfold maxLen; omega) (by omega) hbase ?_
  intro v' w' h1 h2 _
  exact h v' w' _ h1 (hA.append j3) h2
theorem Sw.append {w : World} {xs ys : List Value} {A B : List (List Int)} (h : Sw w xs A) (k : Sw w ys B) : Sw w (xs ++ ys) (A ++ B) := by
 have hl := h.len
 refine ⟨by rw [List.length_append, List.length_append, h.len, k.len], fun j hj => ?_⟩
 rw [List.length_append] at hj
 by_cases e : j < A.length
 ·obtain ⟨ao, n, c, k1, k5⟩ := h.el j e
  have eg : (A ++ B).getD j [] = A.getD j [] := by simp [List.getD, List.getElem?_append_left e]
  rw [eg]
  exact ⟨ao, n, c, by rw [List.getElem?_append_left (by omega)]; exact k1, k5⟩
 ·obtain ⟨i, rfl⟩ : ∃ i, j = A.length + i := ⟨j - A.length, by omega⟩
  obtain ⟨ao, n, c, k1, k5⟩ := k.el i (by omega)
  have eg : (A ++ B).getD (A.length + i) [] = B.getD i [] := by simp [List.getD, List.getElem?_append_right]
  rw [eg]
  refine ⟨ao, n, c, ?_, k5⟩
  rw [List.getElem?_append_right (by omega), hl, show A.length + i - A.length = i by omega]; exact k1
theorem Sw.keptN {w w' : World} {xs : List Value} {L : List (List Int)} (h : Sw w xs L) (hg : w.grownBy w' none) : Sw w' xs L := by
 refine ⟨h.len, fun j hj => ?_⟩
 obtain ⟨ao, n, c, k1, k5, k6, k7⟩ := h.el j hj
 exact ⟨ao, n, c, k1, k5.keptN hg, k6, k7⟩
theorem ltake_snoc9 {L : List (List Int)} {i : Nat} (hi : i < L.length) : L.take (i + 1) = L.take i ++ [L.getD i []] := by
 rw [List.take_add_one, List.getElem?_eq_getElem hi]
 simp [List.getD, List.getElem?_eq_getElem hi]
theorem Lz.cells {w : World} {ad : Addr} {L : List (List Int)} (h : Lz w (some ad) L) : ∃ ys, (∀ j u, ys[j]? = some u → w.cell? (ad.add j) = some u) ∧ (∀ u ∈ ys, u.oneCell' = true) ∧ Sw w ys L := by
 have H : ∀ i, i ≤ L.length → ∃ ys, (∀ j u, ys[j]? = some u → w.cell? (ad.add j) = some u) ∧ (∀ u ∈ ys, u.oneCell' = true) ∧ Sw w ys (L.take i) := by
  intro i
  induction i with
  | zero => exact fun _ => ⟨[], fun j u hu => by simp at hu, fun u hu => by simp at hu, by simpa using Sw.nil w⟩
  | succ i ih =>
   intro hi
   obtain ⟨ys, h1, h2, h3⟩ := ih (by omega)
   obtain ⟨b, off, ao, n, c, e, q2, q3, q4, q5⟩ := h.row i (by omega)
   simp only [Option.some.injEq] at e
   subst e
   have hl : ys.length = i := by
    have := h3.len
    rw [List.length_take] at this
    omega
   refine ⟨ys ++ [.slice ao n c], fun j u hu => ?_, fun u hu => ?_, ?_⟩
   ·by_cases e : j < ys.length
    ·rw [List.getElem?_append_left e] at hu
     exact h1 j u hu
    ·rw [List.getElem?_append_right (by omega)] at hu
     obtain ⟨k, rfl⟩ : ∃ k, j = i + k := ⟨j - i, by omega⟩
     rw [hl, Nat.add_sub_cancel_left] at hu
     rw [Addr.add_lit]
     match k, hu with
     | 0, hu => simp at hu; subst hu; exact q2
     | k + 1, hu => simp at hu
   ·rcases List.mem_append.1 hu with hu | hu
    ·exact h2 u hu
    ·simp only [List.mem_cons, List.not_mem_nil, or_false] at hu
     subst hu
     rfl
   ·rw [ltake_snoc9 (by omega)]
    exact h3.snoc q3 q4 q5
 obtain ⟨ys, h1, h2, h3⟩ := H L.length (Nat.le_refl _)
 rw [List.take_length] at h3
 exact ⟨ys, h1, h2, h3⟩
theorem wpList_append_lz {w0 w : World} {ops : Array Oper} {rest : List Oper} {o : Oper} {a : Act} {Q : Exit → Act → World → Prop} (hgd : o.guard = none) (s x : Operand)
  (ho : o.op = .call { callee := .builtin .append, args := #[s, x], argTypes := #[23, 23] })
  (base : Nat) (v : Value) (n : Nat) (xs : List Value) (A : List (List Int)) (hs : a.eval s = v) (hown : w.ownsRow base 26 1 v n xs) (hA : Sw w0 xs A)
  (ao : Option Addr) (m c : Nat) (B : List (List Int)) (hx : a.eval x = .slice ao m c) (hb : Lz w0 ao B) (hg : w0.grownBy w none) (hm : B.length = m) (hnil : ao = none → c = 0) (h63 : n + m ≤ 100000) (hbase : base ≤ w.heap.size)
  (h : ∀ v' w' xs', w'.ownsRow base 26 1 v' (n + m) xs' → Sw w0 xs' (A ++ B) → w.grownBy w' v.ownBlock → wpList Try.prog ops Q rest (a.put o.dst v') w') : wpList Try.prog ops Q (o :: rest) a w := by
 obtain ⟨i0, hi, hz0, hz1, hz2⟩ := info_parts info_bytesS
 cases ao with
 | none =>
  have hc := hnil rfl
  have hB : B = [] := by
   cases B with
   | nil => rfl
   | cons y B =>
    obtain ⟨_, _, _, _, _, e, _⟩ := hb.row 0 (by simp)
    cases e
  subst hB
  have hm0 : m = 0 := by simpa using hm.symm
  subst hm0
  subst hc
  refine wpList_append_own_none hgd s x 23 ho base 26 i0 1 Try.underlying23 hi v n _ hs hown hx ?_
  exact h v w xs hown (by rw [List.append_nil]; exact hA) (World.grownBy.refl _ _)
 | some ad =>
  obtain ⟨ys, k1, k2, k3⟩ := (hb.keptN hg).cells
  obtain ⟨zs, j1, j2, j3⟩ := hb.cells
  have hz : ys = zs := by
   apply List.ext_getElem?
   intro j
   have hl1 := k3.len
   have hl2 := j3.len
   by_cases e : j < ys.length
   ·have e2 : j < zs.length := by omega
    have a1 := k1 j _ (List.getElem?_eq_getElem e)
    have a2 := hg.cell (j1 j _ (List.getElem?_eq_getElem e2)) (by simp)
    rw [List.getElem?_eq_getElem e, List.getElem?_eq_getElem e2]
    rw [a2] at a1
    exact a1.symm
   ·rw [List.getElem?_eq_none (by omega), List.getElem?_eq_none (by omega)]
  subst hz
  refine wpList_append_own w hgd s x 23 ho base 26 i0 (.slice none 0 0) 1 24 Try.underlying23 hi hz0 hz1 hz2 rfl (by decide) v n _ hs hown ad m c ys hx (by rw [k3.len, hm, Nat.mul_one]) k1 k2 (by unfold maxLen; omega) (by omega) hbase ?_
  intro v' w' h1 h2 _
  exact h v' w' _ h1 (hA.append j3) h2
theorem grown_own9 {w wr w' : World} {base n : Nat} {v : Value} {xs : List Value} {t : TypeId} {sz : Nat} (hg : w.grownBy wr none) (ho : wr.ownsRow base t sz v n xs) (hb : w.heap.size ≤ base) (h : wr.grownBy w' v.ownBlock) : w.grownBy w' none := by
 refine ⟨h.os.trans hg.os, h.tape.trans hg.tape, h.output.trans hg.output, Nat.le_trans hg.size h.size, fun q hq _ => ?_⟩
 have hq2 : q < wr.heap.size := Nat.lt_of_lt_of_le hq hg.size
 rw [h.block q hq2 (by intro e; have := (ho.lt q e.symm).1; omega)]
 exact hg.block q hq (by simp)
theorem zeros_len (cs : Array Value) : ∀ n, (Builtin.zeroCells cs n).size = n * cs.size := by
 intro n
 simp [Builtin.zeroCells]
set_option maxHeartbeats 4000000 in
set_option maxRecDepth 100000 in
theorem grow_it (n : Nat) (w : World) (hn : n ≤ 100000) :
  Calls Try.prog 46 #[.slice none 0 0, .int .i64 n] w fun en w' => ∃ v, en = .returned v ∧ w'.ownsRow w.heap.size 28 4 v 0 [] ∧ w.grownBy w' none := by
 by_cases h0 : n = 0
 ·subst h0
  go_enter Try.func46, Try.ntmps46
  go_wp2
  go_ret
  exact ⟨_, rfl, ⟨rfl, .inl ⟨rfl, rfl⟩⟩, World.grownBy.refl _ _⟩
 ·obtain ⟨i0, hi, hz0, hz1, hz2⟩ := info_parts info_item
  have hpos : 0 < n := by omega
  have hr : ∀ ty, (Builtin.append_ #[22, 3] ty #[.slice none 0 0, .int .i64 n]).run Try.prog w = _ := fun ty =>
   Go.Lib.run_append_nil_zeros w 22 3 ty 28 i0 _ .i64 .i64 Try.underlying22 Try.underlying3 hi hz0 n hpos (by omega) (by omega) (by rw [hz2]; omega)
  have hG := grownCap_ge w n 0 28
  have hM := grownCap_le_maxLen w n 0 28 (by unfold maxLen; omega)
  generalize grownCap w n 0 28 = G at hr hG hM
  have hM2 : (G : Int) ≤ 9223372036854775807 := by unfold maxLen at hM; omega
  have hsz : (Builtin.zeroCells (Value.agg #[.slice none 0 0, .slice none 0 0, .int .i64 0, .int .i64 0]).cells n ++ Builtin.zeroCells (Value.agg #[.slice none 0 0, .slice none 0 0, .int .i64 0, .int .i64 0]).cells (G - n)).size = G * 4 := by
   rw [Array.size_append, zeros_len, zeros_len]
   show n * 4 + (G - n) * 4 = G * 4
   omega
  generalize (Builtin.zeroCells (Value.agg #[.slice none 0 0, .slice none 0 0, .int .i64 0, .int .i64 0]).cells n ++ Builtin.zeroCells (Value.agg #[.slice none 0 0, .slice none 0 0, .int .i64 0, .int .i64 0]).cells (G - n)) = Z at hr hsz
  have HO : Hid ((w.drew.alloc (.cells Z 28)).ownsRow w.heap.size 28 4 (.slice (some ⟨w.heap.size, 0, none⟩) 0 G) 0 []) :=
   ⟨rfl, .inr ⟨w.heap.size, G, Z, rfl, Nat.le_refl _, heap_alloc_new w.drew _, by omega, hM, hsz, by simp⟩⟩
  have HG : Hid (w.grownBy (w.drew.alloc (.cells Z 28)) none) := grown_trans ((Qt.refl w).drew.grown none) (World.grownBy_alloc _ _ none)
  clear hM hsz
  go_enter Try.func46, Try.ntmps46
  go_wp2_with (at_builtin; refine Go.Lib.wpList_append_run _ rfl _ _ _ _ rfl _ _ rfl rfl _ _ (hr _) ?_)
  all_goals (go_ret; exact ⟨_, rfl, HO.out, HG.out⟩)
structure Ils (w : World) (q : Option Addr) (Ls : List (List It)) : Prop where
 row : ∀ j, j < Ls.length → ∃ B o a n c, q = some ⟨B, o, none⟩ ∧ w.cell? ⟨B, o + j, none⟩ = some (.slice a n c) ∧ Il w a (Ls.getD j []) ∧ (Ls.getD j []).length = n ∧ (a = none → c = 0)
theorem Ils.keptN {w w' : World} {q : Option Addr} {Ls : List (List It)} (h : Ils w q Ls) (hg : w.grownBy w' none) : Ils w' q Ls := by
 refine ⟨fun j hj => ?_⟩
 obtain ⟨B, o, a, n, c, h1, h2, h3, h4⟩ := h.row j hj
 exact ⟨B, o, a, n, c, h1, hg.cell h2 (by simp), h3.keptN hg, h4⟩
def tot {T : Type} (Ls : List (List T)) (j : Nat) : Nat := (Ls.take j).flatten.length
theorem flat_snoc {T : Type} (Ls : List (List T)) {j : Nat} (h : j < Ls.length) : (Ls.take (j + 1)).flatten = (Ls.take j).flatten ++ Ls.getD j [] := by
 rw [List.take_add_one, List.getElem?_eq_getElem h, List.flatten_append]
 simp [List.getD, List.getElem?_eq_getElem h]
theorem tot_snoc {T : Type} (Ls : List (List T)) {j : Nat} (h : j < Ls.length) : tot Ls (j + 1) = tot Ls j + (Ls.getD j []).length := by
 unfold tot
 rw [flat_snoc Ls h, List.length_append]
theorem tot_mono {T : Type} (Ls : List (List T)) (j : Nat) : tot Ls j ≤ Ls.flatten.length := by
 unfold tot
 conv => rhs; rw [← List.take_append_drop j Ls, List.flatten_append, List.length_append]
 omega
set_option maxHeartbeats 4000000 in
set_option maxRecDepth 100000 in
theorem concat_it (q : Option Addr) (m cp : Nat) (Ls : List (List It)) (w : World) (hl : Ils w q Ls) (hm : Ls.length = m) (hm2 : m ≤ 1000) (ht : Ls.flatten.length ≤ 100000) :
  Calls Try.prog 25 #[.slice q m cp] w fun en w' => (∃ a c, en = .returned (.slice a Ls.flatten.length c) ∧ Il w' a Ls.flatten ∧ Ls.flatten.length ≤ c ∧ c ≤ 9223372036854775807) ∧ w.grownBy w' none := by
 have HL := hid_intro hl
 have HT := hid_intro (fun j => Nat.le_trans (tot_mono Ls j) ht)
 have HS := hid_intro (fun (j : Nat) (h : j < m) => tot_snoc Ls (j := j) (by omega))
 have HF := hid_intro (fun (j : Nat) (h : j < m) => flat_snoc Ls (j := j) (by omega))
 have HE : Hid (tot Ls m = Ls.flatten.length ∧ (Ls.take m).flatten = Ls.flatten) := by
  unfold tot; rw [← hm, List.take_length]; exact ⟨rfl, rfl⟩
 clear hl
 go_enter Try.func25, Try.ntmps25
 go_wp2
 go_loopw [3, 5, 11] (fun sn _ si wr => ∃ i : Nat, i ≤ m ∧ si = .int .i64 i ∧ sn = .int .i64 ((tot Ls i : Nat) : Int) ∧ w = wr) (fun _ _ si _ => m - (intOf si).toNat)
 case atStart => exact ⟨0, Nat.zero_le _, rfl, rfl, rfl⟩
 case round =>
  obtain ⟨i, hi, rfl, rfl, rfl⟩ := hrel
  have b1 := HT.out i
  by_cases hlt : i < m
  ·obtain ⟨B, o, a, n, c, rfl, h2, h3, h4, h5⟩ := HL.out.row i (by omega)
   have hs := HS.out i hlt
   have b2 := HT.out (i + 1)
   rw [h4] at hs
   clear h3 h4 h5
   generalize tot Ls i = t at *
   have hs2 := hid_intro hs
   have b3 : t + n ≤ 100000 := by rw [← hs]; exact b2
   clear hs b2
   go_wp2
   go_roundw
   case rel => exact ⟨i + 1, by omega, by go_num, by rw [hs2.out]; go_num, trivial⟩
   case measure => simp [intOf]; omega
  ·have hin : i = m := by omega
   subst hin
   obtain ⟨N, hN⟩ : ∃ N, tot Ls i = N := ⟨_, rfl⟩
   have HN := hid_intro hN
   rw [hN] at b1 ⊢
   clear hN
   go_wp2_with fail
   refine (grow_it N w b1).mono ?_
   rintro en w1 ⟨v, rfl, ho1, hg1⟩
   have HO1 := hid_intro ho1
   have HG1 := hid_intro hg1
   clear ho1 hg1
   go_wp2
   go_loopw [6, 8, 27] (fun sv _ si wx => ∃ (j : Nat) (xs : List Value), j ≤ i ∧ si = .int .i64 j ∧ Iw w xs (Ls.take j).flatten ∧ wx.ownsRow w.heap.size 28 4 sv (tot Ls j) xs ∧ w.grownBy wx none) (fun _ _ si _ => i - (intOf si).toNat)
   case atStart => exact ⟨0, [], Nat.zero_le _, rfl, Iw.nil _, HO1.out, HG1.out⟩
   case round =>
    obtain ⟨j, xs, hj, rfl, hiw, hown, hg⟩ := hrel
    have HI := hid_intro hiw
    have HO := hid_intro hown
    have HG := hid_intro hg
    have hsz := hg.size
    clear hiw hown hg HO1 HG1
    by_cases hjt : j < i
    ·obtain ⟨B, o, a, n, c, rfl, h2, h3, h4, h5⟩ := HL.out.row j (by omega)
     have c1 := HG.out.cell h2 (by simp)
     have hs := HS.out j hjt
     have b2 := HT.out (j + 1)
     rw [h4] at hs
     have b3 : tot Ls j + n ≤ 100000 := by rw [← hs]; exact b2
     have HS2 := hid_intro hs
     have HF2 := hid_intro (HF.out j hjt)
     have H3 := hid_intro h3
     clear h2 h3 hs b2
     generalize Ls.getD j [] = X at *
     go_wp2_with (at_builtin; refine wpList_append_il (w0 := w) rfl _ _ rfl w.heap.size u6 (tot Ls j) xs (Ls.take j).flatten rfl HO.out HI.out a n c X rfl H3.out HG.out h4 h5 b3 hsz ?_)
     intro v2 w2 xs2 ho2 hi2 hg2
     have HO2 := hid_intro ho2
     have HI2 := hid_intro hi2
     have HG2 := hid_intro (grown_own9 HG.out HO.out (Nat.le_refl _) hg2)
     rw [← HS2.out] at HO2
     rw [← HF2.out] at HI2
     clear ho2 hi2 hg2 HO HI HG c1 h5
     go_wp2
     go_roundw
     case rel => exact ⟨j + 1, xs2, by omega, by go_num, HI2.out, HO2.out, HG2.out⟩
     case measure => simp [intOf]; omega
    ·have hji : j = i := by omega
     subst hji
     obtain ⟨a2, cap2, e1, e2, e3⟩ := HI.out.il HG.out HO.out
     have hcap : tot Ls j ≤ cap2 ∧ cap2 ≤ 9223372036854775807 := by
      rcases HO.out.2 with ⟨k1, k2⟩ | ⟨g, cap, cur, k1, _, _, k2, k3, _⟩
      ·rw [k1] at e1
       simp only [Value.slice.injEq] at e1
       omega
      ·rw [k1] at e1
       simp only [Value.slice.injEq] at e1
       unfold maxLen at k3
       omega
     have HM := hid_intro e2
     subst e1
     clear e2 HO HI HL
     go_wp2
     go_ret
     rw [HE.out.2] at HM
     have hE := HE.out.1
     exact ⟨⟨a2, cap2, by rw [← hE]; rfl, HM.out, by omega, hcap.2⟩, HG.out⟩
theorem flat2 {T : Type} (A B : List T) : [A, B].flatten = A ++ B := by simp
set_option maxHeartbeats 1000000 in
set_option maxRecDepth 100000 in
theorem joinLeaves_any (a : Option Addr) (n cap : Nat) (A : List It) (b : Option Addr) (m d : Nat) (B : List It) (w : World) (ha : Il w a A) (hn : A.length = n) (ha0 : a = none → cap = 0) (hb : Il w b B) (hm : B.length = m) (hb0 : b = none → d = 0)
  (hs : n + m ≤ 5000) (hk : ∀ x ∈ A ++ B, x.key.length ≤ 140737488351240) :
  Calls Try.prog 9 #[.slice a n cap, .slice b m d] w fun en w' => en = .returned (.bool (decide (size (A ++ B) ≤ 3000))) ∧ w.grownBy w' none := by
 have hdec : decide (size (A ++ B) ≤ 3000) = decide (((size (A ++ B) : Nat) : Int) ≤ 3000) := by congr 1; apply propext; omega
 rw [hdec]
 have HG := hid_intro (World.grownBy_alloc w (.cells #[.slice a n cap, .slice b m d] 22) none)
 have HL : Hid (Ils (w.alloc (.cells #[.slice a n cap, .slice b m d] 22)) (some ⟨w.heap.size, 0, none⟩) [A, B]) := by
  have hrow := heap_alloc_new w (.cells #[.slice a n cap, .slice b m d] 22)
  refine ⟨fun j hj => ?_⟩
  match j, hj with
  | 0, _ => exact ⟨_, 0, a, n, cap, rfl, by rw [cell_of_row _ w.heap.size _ _ _ (0, 0) hrow]; rfl, ha.keptN HG.out, hn, ha0⟩
  | 1, _ => exact ⟨_, 0, b, m, d, rfl, by rw [cell_of_row _ w.heap.size _ _ _ (0, 0) hrow]; rfl, hb.keptN HG.out, hm, hb0⟩
  | k + 2, h =>
   have h2 : k + 2 < 2 := h
   omega
 have hfl : ([A, B].flatten).length = n + m := by rw [flat2, List.length_append, hn, hm]
 have HC := hid_intro (concat_it (some ⟨w.heap.size, 0, none⟩) 2 2 [A, B] _ HL.out rfl (by omega) (by omega))
 rw [flat2] at hfl HC
 have HK := hid_intro hk
 rw [hfl] at HC
 clear ha hb hk hdec HL
 generalize A ++ B = C at *
 go_enter Try.func9, Try.ntmps9
 go_wp2_with fail
 refine HC.out.mono ?_
 rintro en w1 ⟨⟨a1, c1, rfl, hl1, h2, h3⟩, hg1⟩
 have H1 := hid_intro hl1
 have HG1 := hid_intro (grown_trans HG.out hg1)
 clear hl1 hg1 HC HG
 go_wp2_with fail
 refine (size_any a1 (n + m) c1 C _ H1.out hfl hs HK.out).mono ?_
 rintro en w2 ⟨rfl, hg2⟩
 have HG2 := hid_intro (grown_trans HG1.out hg2)
 clear hg2 HG1
 go_wp2
 go_ret
 exact ⟨rfl, HG2.out⟩
set_option maxHeartbeats 4000000 in
set_option maxRecDepth 100000 in
theorem grow_by (n : Nat) (w : World) (hn : n ≤ 100000) :
  Calls Try.prog 47 #[.slice none 0 0, .int .i64 n] w fun en w' => ∃ v, en = .returned v ∧ w'.ownsRow w.heap.size 26 1 v 0 [] ∧ w.grownBy w' none := by
 by_cases h0 : n = 0
 ·subst h0
  go_enter Try.func47, Try.ntmps47
  go_wp2
  go_ret
  exact ⟨_, rfl, ⟨rfl, .inl ⟨rfl, rfl⟩⟩, World.grownBy.refl _ _⟩
 ·obtain ⟨i0, hi, hz0, hz1, hz2⟩ := info_parts info_bytesS
  have hpos : 0 < n := by omega
  have hr : ∀ ty, (Builtin.append_ #[23, 3] ty #[.slice none 0 0, .int .i64 n]).run Try.prog w = _ := fun ty =>
   Go.Lib.run_append_nil_zeros w 23 3 ty 26 i0 _ .i64 .i64 Try.underlying23 Try.underlying3 hi hz0 n hpos (by omega) (by omega) (by rw [hz2]; omega)
  have hG := grownCap_ge w n 0 26
  have hM := grownCap_le_maxLen w n 0 26 (by unfold maxLen; omega)
  generalize grownCap w n 0 26 = G at hr hG hM
  have hM2 : (G : Int) ≤ 9223372036854775807 := by unfold maxLen at hM; omega
  have hsz : (Builtin.zeroCells (Value.slice none 0 0).cells n ++ Builtin.zeroCells (Value.slice none 0 0).cells (G - n)).size = G * 1 := by
   rw [Array.size_append, zeros_len, zeros_len]
   show n * 1 + (G - n) * 1 = G * 1
   omega
  generalize (Builtin.zeroCells (Value.slice none 0 0).cells n ++ Builtin.zeroCells (Value.slice none 0 0).cells (G - n)) = Z at hr hsz
  have HO : Hid ((w.drew.alloc (.cells Z 26)).ownsRow w.heap.size 26 1 (.slice (some ⟨w.heap.size, 0, none⟩) 0 G) 0 []) :=
   ⟨rfl, .inr ⟨w.heap.size, G, Z, rfl, Nat.le_refl _, heap_alloc_new w.drew _, by omega, hM, hsz, by simp⟩⟩
  have HG : Hid (w.grownBy (w.drew.alloc (.cells Z 26)) none) := grown_trans ((Qt.refl w).drew.grown none) (World.grownBy_alloc _ _ none)
  clear hM hsz
  go_enter Try.func47, Try.ntmps47
  go_wp2_with (at_builtin; refine Go.Lib.wpList_append_run _ rfl _ _ _ _ rfl _ _ rfl rfl _ _ (hr _) ?_)
  all_goals (go_ret; exact ⟨_, rfl, HO.out, HG.out⟩)
structure Lls (w : World) (q : Option Addr) (Ls : List (List (List Int))) : Prop where
 row : ∀ j, j < Ls.length → ∃ B o a n c, q = some ⟨B, o, none⟩ ∧ w.cell? ⟨B, o + j, none⟩ = some (.slice a n c) ∧ Lz w a (Ls.getD j []) ∧ (Ls.getD j []).length = n ∧ (a = none → c = 0)
theorem Lls.keptN {w w' : World} {q : Option Addr} {Ls : List (List (List Int))} (h : Lls w q Ls) (hg : w.grownBy w' none) : Lls w' q Ls := by
 refine ⟨fun j hj => ?_⟩
 obtain ⟨B, o, a, n, c, h1, h2, h3, h4⟩ := h.row j hj
 exact ⟨B, o, a, n, c, h1, hg.cell h2 (by simp), h3.keptN hg, h4⟩
set_option maxHeartbeats 4000000 in
set_option maxRecDepth 100000 in
theorem concat_by (q : Option Addr) (m cp : Nat) (Ls : List (List (List Int))) (w : World) (hl : Lls w q Ls) (hm : Ls.length = m) (hm2 : m ≤ 1000) (ht : Ls.flatten.length ≤ 100000) :
  Calls Try.prog 26 #[.slice q m cp] w fun en w' => (∃ a c, en = .returned (.slice a Ls.flatten.length c) ∧ Lz w' a Ls.flatten ∧ Ls.flatten.length ≤ c ∧ c ≤ 9223372036854775807) ∧ w.grownBy w' none := by
 have HL := hid_intro hl
 have HT := hid_intro (fun j => Nat.le_trans (tot_mono Ls j) ht)
 have HS := hid_intro (fun (j : Nat) (h : j < m) => tot_snoc Ls (j := j) (by omega))
 have HF := hid_intro (fun (j : Nat) (h : j < m) => flat_snoc Ls (j := j) (by omega))
 have HE : Hid (tot Ls m = Ls.flatten.length ∧ (Ls.take m).flatten = Ls.flatten) := by
  unfold tot; rw [← hm, List.take_length]; exact ⟨rfl, rfl⟩
 clear hl
 go_enter Try.func26, Try.ntmps26
 go_wp2
 go_loopw [3, 5, 11] (fun sn _ si wr => ∃ i : Nat, i ≤ m ∧ si = .int .i64 i ∧ sn = .int .i64 ((tot Ls i : Nat) : Int) ∧ w = wr) (fun _ _ si _ => m - (intOf si).toNat)
 case atStart => exact ⟨0, Nat.zero_le _, rfl, rfl, rfl⟩
 case round =>
  obtain ⟨i, hi, rfl, rfl, rfl⟩ := hrel
  have b1 := HT.out i
  by_cases hlt : i < m
  ·obtain ⟨B, o, a, n, c, rfl, h2, h3, h4, h5⟩ := HL.out.row i (by omega)
   have hs := HS.out i hlt
   have b2 := HT.out (i + 1)
   rw [h4] at hs
   clear h3 h4 h5
   generalize tot Ls i = t at *
   have hs2 := hid_intro hs
   have b3 : t + n ≤ 100000 := by rw [← hs]; exact b2
   clear hs b2
   go_wp2
   go_roundw
   case rel => exact ⟨i + 1, by omega, by go_num, by rw [hs2.out]; go_num, trivial⟩
   case measure => simp [intOf]; omega
  ·have hin : i = m := by omega
   subst hin
   obtain ⟨N, hN⟩ : ∃ N, tot Ls i = N := ⟨_, rfl⟩
   have HN := hid_intro hN
   rw [hN] at b1 ⊢
   clear hN
   go_wp2_with fail
   refine (grow_by N w b1).mono ?_
   rintro en w1 ⟨v, rfl, ho1, hg1⟩
   have HO1 := hid_intro ho1
   have HG1 := hid_intro hg1
   clear ho1 hg1
   go_wp2
   go_loopw [6, 8, 27] (fun sv _ si wx => ∃ (j : Nat) (xs : List Value), j ≤ i ∧ si = .int .i64 j ∧ Sw w xs (Ls.take j).flatten ∧ wx.ownsRow w.heap.size 26 1 sv (tot Ls j) xs ∧ w.grownBy wx none) (fun _ _ si _ => i - (intOf si).toNat)
   case atStart => exact ⟨0, [], Nat.zero_le _, rfl, Sw.nil _, HO1.out, HG1.out⟩
   case round =>
    obtain ⟨j, xs, hj, rfl, hiw, hown, hg⟩ := hrel
    have HI := hid_intro hiw
    have HO := hid_intro hown
    have HG := hid_intro hg
    have hsz := hg.size
    clear hiw hown hg HO1 HG1
    by_cases hjt : j < i
    ·obtain ⟨B, o, a, n, c, rfl, h2, h3, h4, h5⟩ := HL.out.row j (by omega)
     have c1 := HG.out.cell h2 (by simp)
     have hs := HS.out j hjt
     have b2 := HT.out (j + 1)
     rw [h4] at hs
     have b3 : tot Ls j + n ≤ 100000 := by rw [← hs]; exact b2
     have HS2 := hid_intro hs
     have HF2 := hid_intro (HF.out j hjt)
     have H3 := hid_intro h3
     clear h2 h3 hs b2
     generalize Ls.getD j [] = X at *
     go_wp2_with (at_builtin; refine wpList_append_lz (w0 := w) rfl _ _ rfl w.heap.size u6 (tot Ls j) xs (Ls.take j).flatten rfl HO.out HI.out a n c X rfl H3.out HG.out h4 h5 b3 hsz ?_)
     intro v2 w2 xs2 ho2 hi2 hg2
     have HO2 := hid_intro ho2
     have HI2 := hid_intro hi2
     have HG2 := hid_intro (grown_own9 HG.out HO.out (Nat.le_refl _) hg2)
     rw [← HS2.out] at HO2
     rw [← HF2.out] at HI2
     clear ho2 hi2 hg2 HO HI HG c1 h5
     go_wp2
     go_roundw
     case rel => exact ⟨j + 1, xs2, by omega, by go_num, HI2.out, HO2.out, HG2.out⟩
     case measure => simp [intOf]; omega
    ·have hji : j = i := by omega
     subst hji
     obtain ⟨a2, cap2, e1, e2, e3, e4, e5⟩ := HI.out.lz HG.out HO.out
     have hcap : tot Ls j ≤ cap2 ∧ cap2 ≤ 9223372036854775807 := by
      rcases HO.out.2 with ⟨k1, k2⟩ | ⟨g, cap, cur, k1, _, _, k2, k3, _⟩
      ·rw [k1] at e1
       simp only [Value.slice.injEq] at e1
       omega
      ·rw [k1] at e1
       simp only [Value.slice.injEq] at e1
       unfold maxLen at k3
       omega
     have HM := hid_intro e2
     subst e1
     clear e2 HO HI HL
     go_wp2
     go_ret
     rw [HE.out.2] at HM
     have hE := HE.out.1
     exact ⟨⟨a2, cap2, by rw [← hE]; rfl, HM.out, by omega, hcap.2⟩, HG.out⟩
theorem flat3 {T : Type} (A B C : List T) : [A, B, C].flatten = A ++ (B ++ C) := by simp
set_option maxHeartbeats 1000000 in
set_option maxRecDepth 100000 in
theorem joinBranches_any (a : Option Addr) (n cap : Nat) (A : List (List Int)) (so : Option Addr) (sn sc : Nat) (S : List Int) (b : Option Addr) (m d : Nat) (B : List (List Int)) (w : World) (ha : Lz w a A) (hn : A.length = n) (ha0 : a = none → cap = 0) (hS : Byt w so sn sc S) (hs1 : sn ≤ sc) (hs2 : sc ≤ 9223372036854775807) (hb : Lz w b B) (hm : B.length = m) (hb0 : b = none → d = 0)
  (hs : n + m ≤ 4900) (hk : ∀ x ∈ A ++ ([S] ++ B), x.length ≤ 140737488351240) :
  Calls Try.prog 10 #[.slice a n cap, .slice so sn sc, .slice b m d] w fun en w' => en = .returned (.bool (decide (bsize (A ++ ([S] ++ B)) ≤ 3000))) ∧ w.grownBy w' none := by
 have hdec : decide (bsize (A ++ ([S] ++ B)) ≤ 3000) = decide (((bsize (A ++ ([S] ++ B)) : Nat) : Int) ≤ 3000) := by congr 1; apply propext; omega
 rw [hdec]
 have HG0 := World.grownBy_alloc w (.cells #[.slice so sn sc] 26) none
 have h0 : (w.alloc (.cells #[.slice so sn sc] 26)).cell? ⟨w.heap.size, 0, none⟩ = some (.slice so sn sc) := by
  rw [cell_of_row _ w.heap.size 0 _ _ (0, 0) (heap_alloc_new w _)]; rfl
 have HZ : Lz (w.alloc (.cells #[.slice so sn sc] 26)) (some ⟨w.heap.size, 0, none⟩) [S] := by
  refine ⟨fun j hj => ?_⟩
  match j, hj with
  | 0, _ => exact ⟨_, 0, so, sn, sc, rfl, h0, hS.keptN HG0, hs1, hs2⟩
  | k + 1, h =>
   have h2 : k + 1 < 1 := h
   omega
 have ha' := ha.keptN HG0
 have hb' := hb.keptN HG0
 have hsz : (w.alloc (.cells #[.slice so sn sc] 26)).heap.size = w.heap.size + 1 := by simp
 have HG1 := World.grownBy_alloc (w.alloc (.cells #[.slice so sn sc] 26)) (.cells #[.slice a n cap, .slice (some ⟨w.heap.size, 0, none⟩) 1 1, .slice b m d] 23) none
 have hrow := heap_alloc_new (w.alloc (.cells #[.slice so sn sc] 26)) (.cells #[.slice a n cap, .slice (some ⟨w.heap.size, 0, none⟩) 1 1, .slice b m d] 23)
 have HG := hid_intro (grown_trans HG0 HG1)
 have HL : Hid (Lls ((w.alloc (.cells #[.slice so sn sc] 26)).alloc (.cells #[.slice a n cap, .slice (some ⟨w.heap.size, 0, none⟩) 1 1, .slice b m d] 23)) (some ⟨w.heap.size + 1, 0, none⟩) [A, [S], B]) := by
  rw [hsz] at hrow
  refine ⟨fun j hj => ?_⟩
  match j, hj with
  | 0, _ => exact ⟨_, 0, a, n, cap, rfl, by rw [cell_of_row _ (w.heap.size + 1) _ _ _ (0, 0) hrow]; rfl, ha'.keptN HG1, hn, ha0⟩
  | 1, _ => exact ⟨_, 0, _, 1, 1, rfl, by rw [cell_of_row _ (w.heap.size + 1) _ _ _ (0, 0) hrow]; rfl, HZ.keptN HG1, rfl, fun e => by cases e⟩
  | 2, _ => exact ⟨_, 0, b, m, d, rfl, by rw [cell_of_row _ (w.heap.size + 1) _ _ _ (0, 0) hrow]; rfl, hb'.keptN HG1, hm, hb0⟩
  | k + 3, h =>
   have h2 : k + 3 < 3 := h
   omega
 have hfl : ([A, [S], B].flatten).length = n + (1 + m) := by rw [flat3, List.length_append, List.length_append, hn, hm]; rfl
 have HC := hid_intro (concat_by (some ⟨w.heap.size + 1, 0, none⟩) 3 3 [A, [S], B] _ HL.out rfl (by omega) (by omega))
 rw [flat3] at hfl HC
 have HK := hid_intro hk
 rw [hfl] at HC
 obtain ⟨N, hN⟩ : ∃ N, n + (1 + m) = N := ⟨_, rfl⟩
 have hN5 : N ≤ 5000 := by omega
 rw [hN] at hfl HC
 clear ha hb hk hdec HL HG0 HG1 hrow hsz h0 HZ ha' hb' hN
 generalize A ++ ([S] ++ B) = C at *
 go_enter Try.func10, Try.ntmps10
 go_wp2_with fail
 refine HC.out.mono ?_
 rintro en w1 ⟨⟨a1, c1, rfl, hl1, h2, h3⟩, hg1⟩
 have H1 := hid_intro hl1
 have HG1 := hid_intro (grown_trans HG.out hg1)
 clear hl1 hg1 HC HG
 go_wp2_with fail
 refine (bsize_any a1 N c1 C _ H1.out hfl hN5 h2 h3 HK.out).mono ?_
 rintro en w2 ⟨rfl, hg2⟩
 have HG2 := hid_intro (grown_trans HG1.out hg2)
 clear hg2 HG1
 go_wp2
 go_ret
 exact ⟨rfl, HG2.out⟩
def pit (i : Nat) : It := ⟨[97 + (i : Int)], List.replicate 500 0, 500, 0⟩
def pl (n : Nat) : List It := (List.range n).map pit
theorem pl_snoc (n : Nat) : pl (n + 1) = pl n ++ [pit n] := by simp [pl, List.range_succ]
theorem pl_len (n : Nat) : (pl n).length = n := by simp [pl]
structure Pk (w : World) (V : Nat) (xs : List Value) (L : List It) : Prop where
 len : xs.length = L.length * 4
 el : ∀ j, j < L.length → ∃ g, xs[j * 4]? = some (.slice (some ⟨g, 0, none⟩) 1 1) ∧ xs[j * 4 + 1]? = some (.slice (some ⟨V, 0, none⟩) 500 500) ∧ xs[j * 4 + 2]? = some (.int .i64 500) ∧ xs[j * 4 + 3]? = some (.int .i64 0) ∧
  Rw w g (L.getD j it0).key ∧ (L.getD j it0).key.length = 1 ∧ (L.getD j it0).val = List.replicate 500 0 ∧ (L.getD j it0).size = 500 ∧ (L.getD j it0).first = 0
 v : Rw w V (List.replicate 500 0)
theorem Pk.nil {w : World} {V : Nat} (h : Rw w V (List.replicate 500 0)) : Pk w V [] [] := ⟨rfl, fun j hj => by simp at hj, h⟩
theorem Pk.kept {w w' : World} {V : Nat} {xs : List Value} {L : List It} {row : Option Nat} (h : Pk w V xs L) (hg : w.grownBy w' row) (hne : ∀ (g : Nat) (zs : List Int), Rw w g zs → some g ≠ row) : Pk w' V xs L := by
 refine ⟨h.len, fun j hj => ?_, h.v.kept hg (hne _ _ h.v)⟩
 obtain ⟨g, k1, k2, k3, k4, k5, k6⟩ := h.el j hj
 exact ⟨g, k1, k2, k3, k4, k5.kept hg (hne _ _ k5), k6⟩
theorem Pk.snoc {w : World} {V g : Nat} {xs : List Value} {L : List It} (h : Pk w V xs L) (i : Nat) (hr : Rw w g [97 + (i : Int)]) :
  Pk w V (xs ++ [.slice (some ⟨g, 0, none⟩) 1 1, .slice (some ⟨V, 0, none⟩) 500 500, .int .i64 500, .int .i64 0]) (L ++ [pit i]) := by
 have hl := h.len
 refine ⟨by simp [hl]; omega, fun j hj => ?_, h.v⟩
 rw [List.length_append] at hj
 simp only [List.length_cons, List.length_nil] at hj
 by_cases e : j < L.length
 ·obtain ⟨g, k1, k2, k3, k4, k5⟩ := h.el j e
  have eg : (L ++ [pit i]).getD j it0 = L.getD j it0 := by simp [List.getD, List.getElem?_append_left e]
  rw [eg]
  exact ⟨g, by rw [List.getElem?_append_left (by omega)]; exact k1, by rw [List.getElem?_append_left (by omega)]; exact k2, by rw [List.getElem?_append_left (by omega)]; exact k3, by rw [List.getElem?_append_left (by omega)]; exact k4, k5⟩
 ·obtain rfl : j = L.length := by omega
  have eg : (L ++ [pit i]).getD L.length it0 = pit i := by simp [List.getD]
  rw [eg]
  refine ⟨g, ?_, ?_, ?_, ?_, hr, rfl, rfl, rfl, rfl⟩
  ·rw [List.getElem?_append_right (by omega), hl, Nat.sub_self]; rfl
  ·rw [List.getElem?_append_right (by omega), hl, Nat.add_sub_cancel_left]; rfl
  ·rw [List.getElem?_append_right (by omega), hl, Nat.add_sub_cancel_left]; rfl
  ·rw [List.getElem?_append_right (by omega), hl, Nat.add_sub_cancel_left]; rfl
theorem Pk.iw {w : World} {V : Nat} {xs : List Value} {L : List It} (h : Pk w V xs L) : Iw w xs L := by
 refine ⟨h.len, fun j hj => ?_⟩
 obtain ⟨g, k1, k2, k3, k4, k5, k6, k7, k8, k9⟩ := h.el j hj
 refine ⟨_, _, _, _, _, _, k1, k2, by rw [k8]; exact k3, by rw [k9]; exact k4, k5.all 1 1 k6.symm, Nat.le_refl _, by omega, ?_, Nat.le_refl _, by omega⟩
 rw [k7]
 exact h.v.all 500 500 (by rw [List.length_replicate])
theorem rw_lit {w : World} {e : Nat} (z : Int) (he : e = w.heap.size) : Rw (w.alloc (.cells #[.int .u8 z] 5)) e [z] := by
 subst he
 exact heap_alloc_new w _
theorem four_at {w : World} {k : Nat} {a b c d : Value} {t : TypeId} (hk : k = w.heap.size) : ∀ j u, [a, b, c, d][j]? = some u → (w.alloc (.cells #[a, b, c, d] t)).cell? ((⟨k, 0, none⟩ : Addr).add j) = some u := by
 subst hk
 exact cell_four_new w a b c d t
set_option maxHeartbeats 4000000 in
set_option maxRecDepth 100000 in
theorem plain_any (n : Nat) (w : World) (hn : n ≤ 100) :
  Calls Try.prog 17 #[.int .i64 n] w fun en w' => (∃ a c, en = .returned (.slice a n c) ∧ Il w' a (pl n) ∧ n ≤ c ∧ c ≤ 9223372036854775807) ∧ w.grownBy w' none := by
 obtain ⟨i0, hi, hz0, hz1, hz2⟩ := info_parts info_item
 obtain ⟨ZZ, hmk, hZZ⟩ := make_zero 500 (by omega)
 have hmk' : ∀ W : World, (Instr.makeSlice 26 (.int .i64 500) (.int .i64 500)).run Try.prog W = .ok (.slice (some ⟨W.heap.size, 0, none⟩) 500 500) (W.alloc (.cells ZZ 5)) := hmk
 have HV : Hid (Rw (w.alloc (.cells ZZ 5)) w.heap.size (List.replicate 500 0)) := by
  show _ = _
  rw [hZZ]
  exact heap_alloc_new w _
 have HG0 := hid_intro (World.grownBy_alloc w (.cells ZZ 5) none)
 clear hmk hZZ
 go_enter Try.func17, Try.ntmps17
 go_wp2
 go_loopw [3, 5] (fun sl si wr => ∃ (i : Nat) (xs : List Value), i ≤ n ∧ si = .int .i64 i ∧ Pk wr w.heap.size xs (pl i) ∧ wr.ownsRow w.heap.size 28 4 sl i xs ∧ w.grownBy wr none) (fun _ si _ => n - (intOf si).toNat)
 case atStart => exact ⟨0, [], Nat.zero_le _, rfl, Pk.nil HV.out, ⟨rfl, .inl ⟨rfl, rfl⟩⟩, HG0.out⟩
 case round =>
  obtain ⟨i, xs, hi', rfl, hpk, hown, hg⟩ := hrel
  have HP := hid_intro hpk
  have HO := hid_intro hown
  have HG := hid_intro hg
  clear hpk hown hg HG0 HV
  by_cases hlt : i < n
  ·have e1 : ((97 : Int) + (i : Int)) % 256 = 97 + (i : Int) := by omega
   have hsz := HG.out.size
   obtain ⟨z, hz⟩ : ∃ z : Int, (97 : Int) + (i : Int) = z := ⟨_, rfl⟩
   have e2 : z % 256 = z := by omega
   have hz0' : 0 ≤ z := by omega
   have hz1' : z < 256 := by omega
   go_wp2_with (at_builtin; refine wpList_append_own _ rfl _ _ 22 rfl w.heap.size 28 i0 (.agg #[.slice none 0 0, .slice none 0 0, .int .i64 0, .int .i64 0]) 4 64 Try.underlying22 hi hz0 hz1 hz2 rfl (by decide) _ i xs rfl ((HO.out.alloc _).alloc _) ⟨wr.heap.size + 1, 0, none⟩ 1 1 [.slice (some ⟨wr.heap.size, 0, none⟩) 1 1, .slice (some ⟨w.heap.size, 0, none⟩) 500 500, .int .i64 500, .int .i64 0] rfl rfl (four_at (size_alloc _ _).symm) (by intro u hu; simp at hu; rcases hu with rfl | rfl | rfl | rfl <;> rfl) (by unfold maxLen; omega) (by omega) (by simp; omega) ?_)
   intro v2 w2 ho2 hg2 _
   have gA := World.grownBy_alloc wr (.cells #[.int .u8 z] 5) none
   have gB := World.grownBy_alloc (wr.alloc (.cells #[.int .u8 z] 5)) (.cells #[.slice (some ⟨wr.heap.size, 0, none⟩) 1 1, .slice (some ⟨w.heap.size, 0, none⟩) 500 500, .int .i64 500, .int .i64 0] 28) none
   have hOa := (HO.out.alloc (.cells #[.int .u8 z] 5)).alloc (.cells #[.slice (some ⟨wr.heap.size, 0, none⟩) 1 1, .slice (some ⟨w.heap.size, 0, none⟩) 500 500, .int .i64 500, .int .i64 0] 28)
   have hR := (rw_lit (w := wr) z rfl).keptN gB
   rw [← hz] at hR gB hOa gA hg2
   have hP := (((HP.out.kept gA (fun _ _ _ => by simp)).kept gB (fun _ _ _ => by simp)).snoc i hR).kept hg2 (fun g zs hq => own_ne hOa hq (by decide))
   rw [← pl_snoc] at hP
   have HP2 := hid_intro hP
   have HO2 := hid_intro ho2
   have HG2 := hid_intro (grown_own9 (grown_trans (grown_trans HG.out gA) gB) hOa (Nat.le_refl _) hg2)
   clear hP ho2 hg2 hOa hR gA gB HP HO HG
   go_wp2
   go_roundw
   case rel => exact ⟨i + 1, _, by omega, by go_num, HP2.out, HO2.out, HG2.out⟩
   case measure => simp [intOf]; omega
  ·have hin : i = n := by omega
   subst hin
   obtain ⟨a2, cap2, e1, e2, e3⟩ := HP.out.iw.il (World.grownBy.refl _ _) HO.out
   have hcap : i ≤ cap2 ∧ cap2 ≤ 9223372036854775807 := by
    rcases HO.out.2 with ⟨k1, k2⟩ | ⟨g, cap, cur, k1, _, _, k2, k3, _⟩
    ·rw [k1] at e1
     simp only [Value.slice.injEq] at e1
     omega
    ·rw [k1] at e1
     simp only [Value.slice.injEq] at e1
     unfold maxLen at k3
     omega
   have HM := hid_intro e2
   subst e1
   clear e2 HO HP
   go_wp2
   go_ret
   exact ⟨⟨a2, cap2, rfl, HM.out, hcap.1, hcap.2⟩, HG.out⟩
def pF (i : Nat) : Nat := size ((pl 9).take i)
def pG (i : Nat) : Nat := size ((pl 9).drop i)
theorem pM : mx pF pG 1 = 4052 ∧ mx pF pG 2 = 3546 ∧ mx pF pG 3 = 3040 ∧ mx pF pG 4 = 2534 ∧ mx pF pG 5 = 2534 ∧ mx pF pG 6 = 3040 ∧ mx pF pG 7 = 3546 ∧ mx pF pG 8 = 4052 := by
 refine ⟨?_, ?_, ?_, ?_, ?_, ?_, ?_, ?_⟩ <;> kernel_rfl
theorem plain_best : Best pF pG 8 4 := by
 obtain ⟨m1, m2, m3, m4, m5, m6, m7, m8⟩ := pM
 refine .inr ⟨by omega, by omega, by omega, fun i h1 h2 => ?_⟩
 match i, h1, h2 with
 | 1, _, _ => omega
 | 2, _, _ => omega
 | 3, _, _ => omega
 | 4, _, _ => omega
 | 5, _, _ => omega
 | 6, _, _ => omega
 | 7, _, _ => omega
 | 8, _, _ => omega
 | k + 9, _, h => omega
theorem two_size : size ((pl 9).take 2 ++ ((pl 9).drop 2).take 3) = 2534 := by kernel_rfl
theorem three_size : size ((pl 9).take 3 ++ ((pl 9).drop 3).take 3) = 3040 := by kernel_rfl
theorem one_best : Best (fun i => bsize ([[109]].take (i - 1))) (fun i => bsize ([[109]].drop i)) 1 1 := by
 have m1 : mx (fun i => bsize (([[109]] : List (List Int)).take (i - 1))) (fun i => bsize (([[109]] : List (List Int)).drop i)) 1 = 13 := by kernel_rfl
 refine .inr ⟨by omega, by omega, by omega, fun i h1 h2 => ?_⟩
 obtain rfl : i = 1 := by omega
 omega
theorem none_size : bsize ([] ++ ([[109]] ++ [])) = 25 := by kernel_rfl
theorem fits_no (w : World) : Calls Try.prog 18 #[.int .i64 4093] w fun en w' => en = .returned (.bool false) ∧ w' = w := cfits_any 4093 w
theorem fits_yes (w : World) : Calls Try.prog 18 #[.int .i64 4092] w fun en w' => en = .returned (.bool true) ∧ w' = w := cfits_any 4092 w
theorem pl_keys : ∀ x ∈ pl 9, x.key.length ≤ 140737488351240 := by
 intro x hx
 simp only [pl, List.mem_map] at hx
 obtain ⟨i, _, rfl⟩ := hx
 show 1 ≤ _
 omega
set_option maxHeartbeats 4000000 in
set_option maxRecDepth 100000 in
theorem first9_any (w : World) : Calls Try.prog 4 #[] w fun en w' => en = .returned (.bool true) ∧ w.grownBy w' none := by
 have v1 := fun (W : World) (C : Array Value) (n c : Nat) => conv_at W C n c _ rfl
 go_enter Try.func4, Try.ntmps4
 go_wp2_with fail
 refine (plain_any 9 w (by omega)).mono ?_
 rintro en w1 ⟨⟨a, c, rfl, hl, h9, hc⟩, hg⟩
 obtain ⟨b, off, rfl⟩ : ∃ b off, a = some ⟨b, off, none⟩ := by
  obtain ⟨b, off, _, _, _, _, _, _, e, _⟩ := hl.row 0 (by rw [pl_len]; omega)
  exact ⟨b, off, e⟩
 have HL := hid_intro hl
 have HG := hid_intro hg
 clear hl hg
 go_wp2_with fail
 refine (cutLeaf_any (some ⟨b, off, none⟩) 9 c (pl 9) w1 HL.out (pl_len 9) (by omega) h9 hc pl_keys).mono ?_
 rintro en w2 ⟨⟨r, rfl, hb⟩, hg2⟩
 obtain rfl : r = 4 := Best.uniq hb plain_best
 have HL2 := hid_intro (HL.out.keptN hg2)
 have HG2 := hid_intro (grown_trans HG.out hg2)
 clear hb hg2 HL HG
 have g1 : (2 : Int) ≤ (c : Int) := by omega
 have g2 : (5 : Int) ≤ (c : Int) := by omega
 have g3 : (3 : Int) ≤ (c : Int) := by omega
 have g4 : (6 : Int) ≤ (c : Int) := by omega
 have n2 : ¬ c = 2 := by omega
 have n3 : ¬ c = 3 := by omega
 have l1 : 2 < c := by omega
 have l2 : 3 < c := by omega
 have l3 : 5 ≤ c := by omega
 have l4 : 6 ≤ c := by omega
 have l5 : 2 ≤ c := by omega
 have l6 : 3 ≤ c := by omega
 have HJ2 := hid_intro (fun (W : World) (h : W.heap = w2.heap) => joinLeaves_any (some ⟨b, off, none⟩) 2 c ((pl 9).take 2) (some ⟨b, off + 8, none⟩) 3 (c - 2) (((pl 9).drop 2).take 3) W ((HL2.out.heap h).take 2) (by rw [List.length_take, pl_len]; rfl) (fun e => by cases e) (((HL2.out.heap h).drop 2).take 3) (by rw [List.length_take, List.length_drop, pl_len]; rfl) (fun e => by cases e) (by omega)
  (fun x hx => pl_keys x (by rcases List.mem_append.1 hx with hx | hx; exact List.mem_of_mem_take hx; exact List.mem_of_mem_drop (List.mem_of_mem_take hx))))
 rw [two_size] at HJ2
 have HJ3 := hid_intro (fun (W : World) (h : w2.grownBy W none) => joinLeaves_any (some ⟨b, off, none⟩) 3 c ((pl 9).take 3) (some ⟨b, off + 12, none⟩) 3 (c - 3) (((pl 9).drop 3).take 3) W ((HL2.out.keptN h).take 3) (by rw [List.length_take, pl_len]; rfl) (fun e => by cases e) (((HL2.out.keptN h).drop 3).take 3) (by rw [List.length_take, List.length_drop, pl_len]; rfl) (fun e => by cases e) (by omega)
  (fun x hx => pl_keys x (by rcases List.mem_append.1 hx with hx | hx; exact List.mem_of_mem_take hx; exact List.mem_of_mem_drop (List.mem_of_mem_take hx))))
 rw [three_size] at HJ3
 have d2 : decide (2534 ≤ 3000) = true := rfl
 have d3 : decide (3040 ≤ 3000) = false := rfl
 rw [d2] at HJ2
 rw [d3] at HJ3
 clear d2 d3 HL2
 go_upto_region 3 with fail
 go_cut [3] (fun s3 wx => s3 = .bool true ∧ w2.grownBy wx none)
 case first =>
  clear HJ3
  go_region_with (go_at_call 9; refine (HJ2.out w2.drew rfl).mono ?_; rintro en w3 ⟨rfl, hg3⟩)
  all_goals (go_wp2_with fail; go_meet; exact ⟨rfl, grown_trans ((Qt.refl _).drew.grown none) hg3⟩)
 case rest =>
  obtain ⟨rfl, hg3⟩ := hcut
  obtain ⟨w3, hw3⟩ : ∃ w3, w3 = wc := ⟨_, rfl⟩
  subst hw3
  have HG3 := hid_intro hg3
  have HJ4 := hid_intro (fun (W : World) (h : w3.grownBy W none) => HJ3.out W (grown_trans HG3.out h))
  have HG4 := hid_intro (grown_trans HG2.out HG3.out)
  clear HJ2 HJ3 hg3 HG2 HG3
  go_upto_region 4 with fail
  go_cut [4] (fun s3 wx => s3 = .bool false ∧ w3.grownBy wx none)
  case first =>
   go_region_with (go_at_call 9; refine (HJ4.out w3.drew ((Qt.refl _).drew.grown none)).mono ?_; rintro en w4 ⟨rfl, hg4⟩)
   all_goals (go_wp2_with fail; go_meet; exact ⟨rfl, grown_trans ((Qt.refl _).drew.grown none) hg4⟩)
  case rest =>
   obtain ⟨rfl, hg5⟩ := hcut
   have HG5 := hid_intro (grown_trans HG4.out hg5)
   clear HJ4 HG4 hg5 g1 g2 g3 g4 n2 n3 l1 l2 l3 l4 l5 l6 h9 hc
   obtain ⟨w5, hw5⟩ : ∃ w5, w5 = wc := ⟨_, rfl⟩
   subst hw5
   have B1 := Byt.litK w5 5 #[.int .u8 109] (1, 2) [109] 1 w5.heap.size rfl rfl rfl
   have HB : Hid (Lz ((w5.alloc (.cells #[.int .u8 109] 5 (1, 2))).alloc (.cells #[.slice (some ⟨w5.heap.size, 0, none⟩) 1 1] 26)) (some ⟨w5.heap.size + 1, 0, none⟩) [[109]]) := by
    refine Lz.lit _ 26 _ _ _ (size_alloc _ _).symm fun i hi => ?_
    match i, hi with
    | 0, _ => exact ⟨_, _, _, rfl, B1, Nat.le_refl _, by omega⟩
    | i + 1, h => exact absurd h (by simp)
   have HG6 := hid_intro (grown_trans HG5.out (grown_trans (World.grownBy_alloc w5 (.cells #[.int .u8 109] 5 (1, 2)) none) (World.grownBy_alloc (w5.alloc (.cells #[.int .u8 109] 5 (1, 2))) (.cells #[.slice (some ⟨w5.heap.size, 0, none⟩) 1 1] 26) none)))
   have HK : Hid (∀ x ∈ ([[109]] : List (List Int)), x.length ≤ 140737488351240) := by
    intro x hx
    simp at hx
    subst hx
    show 1 ≤ _
    omega
   have HCB := hid_intro (cutBranch_any (some ⟨w5.heap.size + 1, 0, none⟩) 1 1 [[109]] _ HB.out rfl (by omega) (by omega) (by omega) HK.out)
   clear HB B1 HG5
   go_wp2_with fail
   refine HCB.out.mono ?_
   rintro en w6 ⟨⟨r, rfl, hb⟩, hg6⟩
   obtain rfl : r = 1 := Best.uniq hb one_best
   have HG7 := hid_intro (grown_trans HG6.out hg6)
   clear hb hg6 HG6 HCB HK
   have B2 := Byt.litK w6 5 #[.int .u8 109] (1, 2) [109] 1 w6.heap.size rfl rfl rfl
   have HG8 := hid_intro (grown_trans HG7.out (World.grownBy_alloc w6 (.cells #[.int .u8 109] 5 (1, 2)) none))
   have HK : Hid (∀ x ∈ ([] ++ ([[109]] ++ []) : List (List Int)), x.length ≤ 140737488351240) := by
    intro x hx
    simp at hx
    subst hx
    show 1 ≤ _
    omega
   have HJB := hid_intro (joinBranches_any none 0 0 [] (some ⟨w6.heap.size, 0, none⟩) 1 1 [109] none 0 0 [] _ (Lz.zero _ _) rfl (fun _ => rfl) B2 (Nat.le_refl _) (by omega) (Lz.zero _ _) rfl (fun _ => rfl) (by omega) HK.out)
   rw [none_size] at HJB
   have d1 : decide (25 ≤ 3000) = true := rfl
   rw [d1] at HJB
   clear d1 B2 HK HG7
   go_wp2_with fail
   refine HJB.out.mono ?_
   rintro en w7 ⟨rfl, hg7⟩
   have HG9 := hid_intro (grown_trans HG8.out hg7)
   clear hg7 HG8 HJB
   go_wp2_with fail
   refine (fits_yes _).mono ?_
   rintro en w8 ⟨rfl, rfl⟩
   go_wp2_with fail
   refine (fits_no _).mono ?_
   rintro en w9 ⟨rfl, rfl⟩
   go_wp2
   go_ret
   exact ⟨rfl, HG9.out⟩
end Go.Proofs.Ytoakngmagoilnaa
