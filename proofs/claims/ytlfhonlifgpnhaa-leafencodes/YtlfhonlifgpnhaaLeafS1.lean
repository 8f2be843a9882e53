import Derived.Test.YtlfhonlifgpnhaaLeafR5
import Derived.Test.YtlfhonlifgpnhaaItemsIn
import Derived.Test.YtlfhonlifgpnhaaGrpI
import Derived.Test.YtlfhonlifgpnhaaLeafByteW
import Derived.Deep.RegionHeld3
import Derived.Deep.DrawnRows
import Derived.Deep.CutBlock
namespace Go.Proofs.Ytlfhonlifgpnhaa
open Go.RowKit

theorem own_keptN {w w' : World} {base sz : Nat} {e : TypeId} {v : Value} {n : Nat} {xs : List Value} (h : w.ownsRow base e sz v n xs) (hg : w.grownBy w' none) : w'.ownsRow base e sz v n xs :=
  h.kept hg (by cases v.ownBlock with | none => exact .inl rfl | some g => exact .inr (by simp))
theorem Ow.u8 {w : World} {g cap : Nat} {zs : List Int} (h : Ow w g cap zs) : U8 w g := by
  obtain ⟨cur, h1, _⟩ := h.ex
  exact ⟨cur, h1⟩

theorem grown_app5 {w wr w' : World} {o : Obj} {base n : Nat} {v : Value} {xs : List Value} {t : TypeId} {sz : Nat} (hg : w.grownBy wr none) (ho : wr.ownsRow base t sz v n xs) (hb : w.heap.size ≤ base) (h : (wr.alloc o).grownBy w' v.ownBlock) : w.grownBy w' none := by
  refine ⟨h.os.trans hg.os, h.tape.trans hg.tape, h.output.trans hg.output, ?_, fun q hq _ => ?_⟩
  · have := h.size; have := hg.size; simp at *; omega
  · have hq2 : q < wr.heap.size := Nat.lt_of_lt_of_le hq hg.size
    rw [h.block q (by simp; omega) (by intro e; have := (ho.lt q e.symm).1; omega), Below.heap_alloc wr _ q hq2]
    exact hg.block q hq (by simp)
theorem own_slice {w : World} {base n : Nat} {t : TypeId} {sz : Nat} {v : Value} {xs : List Value} (h : w.ownsRow base t sz v n xs) (hn : 0 < n) : ∃ A c, v = .slice (some ⟨A, 0, none⟩) n c ∧ n ≤ c ∧ c ≤ 9223372036854775807 := by
  rcases h.2 with ⟨_, rfl⟩ | ⟨g, cap, cur, rfl, _, _, hc, hm, _⟩
  · omega
  · exact ⟨g, cap, rfl, hc, by unfold maxLen at hm; omega⟩
theorem itake {L : List It} {i : Nat} (hi : i < L.length) : L.take (i + 1) = L.take i ++ [L.getD i it0] := by
  rw [List.take_add_one, List.getElem?_eq_getElem hi]
  simp [List.getD, List.getElem?_eq_getElem hi]

/-- Items of one's own: each key and each value at the beginning of a block of its own, marks behind it. -/
structure Lm (w : World) (base : Nat) (mk mv : List Int) (gk gv : Nat → Nat × Nat) (xs : List Value) (L : List It) : Prop where
  len : xs.length = L.length * 4
  el : ∀ j, j < L.length → xs[j * 4]? = some (.slice (some ⟨(gk j).1, 0, none⟩) (L.getD j it0).key.length (gk j).2) ∧ xs[j * 4 + 1]? = some (.slice (some ⟨(gv j).1, 0, none⟩) (L.getD j it0).val.length (gv j).2) ∧ xs[j * 4 + 2]? = some (.int .i64 (L.getD j it0).size) ∧ xs[j * 4 + 3]? = some (.int .i64 (L.getD j it0).first)
  ko : ∀ j, j < L.length → Ow w (gk j).1 (gk j).2 ((L.getD j it0).key ++ mk) ∧ Ow w (gv j).1 (gv j).2 ((L.getD j it0).val ++ mv)
  lo : ∀ j, j < L.length → base ≤ (gk j).1 ∧ base ≤ (gv j).1 ∧ (gk j).1 ≠ (gv j).1
  up : ∀ i j, i < j → j < L.length → (gk i).1 < (gk j).1 ∧ (gk i).1 < (gv j).1 ∧ (gv i).1 < (gk j).1 ∧ (gv i).1 < (gv j).1
theorem Lm.nil (w : World) (base : Nat) (mk mv : List Int) (gk gv : Nat → Nat × Nat) : Lm w base mk mv gk gv [] [] :=
  ⟨rfl, fun j hj => by simp at hj, fun j hj => by simp at hj, fun j hj => by simp at hj, fun i j _ hj => by simp at hj⟩
theorem Lm.kept {w w' : World} {base : Nat} {mk mv : List Int} {gk gv : Nat → Nat × Nat} {xs : List Value} {L : List It} {row : Option Nat} (h : Lm w base mk mv gk gv xs L) (hg : w.grownBy w' row) (hne : ∀ g, base ≤ g → U8 w g → some g ≠ row) : Lm w' base mk mv gk gv xs L :=
  ⟨h.len, h.el, fun j hj => ⟨(h.ko j hj).1.kept hg (hne _ (h.lo j hj).1 (h.ko j hj).1.u8), (h.ko j hj).2.kept hg (hne _ (h.lo j hj).2.1 (h.ko j hj).2.u8)⟩, h.lo, h.up⟩
theorem Lm.keptN {w w' : World} {base : Nat} {mk mv : List Int} {gk gv : Nat → Nat × Nat} {xs : List Value} {L : List It} (h : Lm w base mk mv gk gv xs L) (hg : w.grownBy w' none) : Lm w' base mk mv gk gv xs L := h.kept hg (fun _ _ _ => by simp)
theorem Lm.snoc {w : World} {base : Nat} {mk mv : List Int} {gk gv : Nat → Nat × Nat} {xs : List Value} {L : List It} (h : Lm w base mk mv gk gv xs L) {g1 c1 g2 c2 n m : Nat} {x : It} {s f : Int} (h1 : Ow w g1 c1 (x.key ++ mk)) (h2 : Ow w g2 c2 (x.val ++ mv)) (hn : x.key.length = n) (hm : x.val.length = m) (hs : x.size = s) (hf : x.first = f)
    (b1 : base ≤ g1) (b2 : base ≤ g2) (hne : g1 ≠ g2) (hlt : ∀ j, j < L.length → (gk j).1 < g1 ∧ (gk j).1 < g2 ∧ (gv j).1 < g1 ∧ (gv j).1 < g2) :
    Lm w base mk mv (fun j => if j = L.length then (g1, c1) else gk j) (fun j => if j = L.length then (g2, c2) else gv j) (xs ++ [.slice (some ⟨g1, 0, none⟩) n c1, .slice (some ⟨g2, 0, none⟩) m c2, .int .i64 s, .int .i64 f]) (L ++ [x]) := by
  have hl := h.len
  have cases2 : ∀ j, j < (L ++ [x]).length → j < L.length ∨ j = L.length := fun j hj => by rw [List.length_append] at hj; simp at hj; omega
  have old : ∀ j, j < L.length → (L ++ [x]).getD j it0 = L.getD j it0 := fun j hj => by simp [List.getD, List.getElem?_append_left hj]
  have new : (L ++ [x]).getD L.length it0 = x := by simp [List.getD]
  refine ⟨by simp [hl]; omega, fun j hj => ?_, fun j hj => ?_, fun j hj => ?_, fun i j hij hj => ?_⟩
  · rcases cases2 j hj with e | rfl
    · rw [old j e]
      have e2 : j ≠ L.length := by omega
      simp only [if_neg e2]
      obtain ⟨a1, a2, a3, a4⟩ := h.el j e
      exact ⟨by rw [List.getElem?_append_left (by omega)]; exact a1, by rw [List.getElem?_append_left (by omega)]; exact a2, by rw [List.getElem?_append_left (by omega)]; exact a3, by rw [List.getElem?_append_left (by omega)]; exact a4⟩
    · rw [new, hn, hm, hs, hf]
      simp only [if_pos]
      refine ⟨?_, ?_, ?_, ?_⟩
      · rw [List.getElem?_append_right (by omega), hl, Nat.sub_self]; rfl
      · rw [List.getElem?_append_right (by omega), hl, Nat.add_sub_cancel_left]; rfl
      · rw [List.getElem?_append_right (by omega), hl, Nat.add_sub_cancel_left]; rfl
      · rw [List.getElem?_append_right (by omega), hl, Nat.add_sub_cancel_left]; rfl
  · rcases cases2 j hj with e | rfl
    · rw [old j e]
      have e2 : j ≠ L.length := by omega
      simp only [if_neg e2]
      exact h.ko j e
    · rw [new]
      simp only [if_pos]
      exact ⟨h1, h2⟩
  · rcases cases2 j hj with e | rfl
    · have e2 : j ≠ L.length := by omega
      simp only [if_neg e2]
      exact h.lo j e
    · simp only [if_pos]
      exact ⟨b1, b2, hne⟩
  · rcases cases2 j hj with e | rfl
    · have e2 : j ≠ L.length := by omega
      have e3 : i ≠ L.length := by omega
      simp only [if_neg e2, if_neg e3]
      exact h.up i j hij e
    · have e3 : i ≠ L.length := by omega
      simp only [if_pos, if_neg e3]
      exact hlt i hij
theorem Lm.key_ne {w : World} {base : Nat} {mk mv : List Int} {gk gv : Nat → Nat × Nat} {xs : List Value} {L : List It} (h : Lm w base mk mv gk gv xs L) {i j : Nat} (hi : i < L.length) (hj : j < L.length) : (i ≠ j → (gk i).1 ≠ (gk j).1 ∧ (gv i).1 ≠ (gv j).1) ∧ (gk i).1 ≠ (gv j).1 := by
  rcases Nat.lt_trichotomy i j with e | rfl | e
  · have := h.up i j e hj
    exact ⟨fun _ => ⟨by omega, by omega⟩, by omega⟩
  · exact ⟨fun e => absurd rfl e, (h.lo i hi).2.2⟩
  · have := h.up j i e hi
    exact ⟨fun _ => ⟨by omega, by omega⟩, by omega⟩
/-- A key written over. -/
theorem Lm.setKey {w w' : World} {base : Nat} {mk mv : List Int} {gk gv : Nat → Nat × Nat} {xs : List Value} {L : List It} (h : Lm w base mk mv gk gv xs L) (i : Nat) (hi : i < L.length) (key : List Int) (hk : key.length = (L.getD i it0).key.length) (hg : w.grownBy w' (some (gk i).1)) (ho : Ow w' (gk i).1 (gk i).2 (key ++ mk)) :
    Lm w' base mk mv gk gv xs (L.set i ⟨key, (L.getD i it0).val, (L.getD i it0).size, (L.getD i it0).first⟩) := by
  have same : (L.set i ⟨key, (L.getD i it0).val, (L.getD i it0).size, (L.getD i it0).first⟩).getD i it0 = ⟨key, (L.getD i it0).val, (L.getD i it0).size, (L.getD i it0).first⟩ := by simp only [List.getD, List.getElem?_set_self hi, Option.getD_some]
  have other : ∀ j, j ≠ i → (L.set i ⟨key, (L.getD i it0).val, (L.getD i it0).size, (L.getD i it0).first⟩).getD j it0 = L.getD j it0 := fun j hj => by simp only [List.getD]; rw [List.getElem?_set_ne (fun e => hj e.symm)]
  refine ⟨by rw [List.length_set]; exact h.len, fun j hj => ?_, fun j hj => ?_, fun j hj => ?_, fun a b hab hb => ?_⟩
  · rw [List.length_set] at hj
    by_cases e : j = i
    · subst e; rw [same]; simp only; rw [hk]; exact h.el j hj
    · rw [other j e]; exact h.el j hj
  · rw [List.length_set] at hj
    by_cases e : j = i
    · subst e; rw [same]
      exact ⟨ho, (h.ko j hj).2.kept hg (fun e => (h.key_ne hj hj).2 (Option.some.inj e).symm)⟩
    · rw [other j e]
      exact ⟨(h.ko j hj).1.kept hg (fun e2 => ((h.key_ne hj hi).1 e).1 (Option.some.inj e2)), (h.ko j hj).2.kept hg (fun e2 => (h.key_ne hi hj).2 (Option.some.inj e2).symm)⟩
  · rw [List.length_set] at hj; exact h.lo j hj
  · rw [List.length_set] at hb; exact h.up a b hab hb
/-- A value written over. -/
theorem Lm.setVal {w w' : World} {base : Nat} {mk mv : List Int} {gk gv : Nat → Nat × Nat} {xs : List Value} {L : List It} (h : Lm w base mk mv gk gv xs L) (i : Nat) (hi : i < L.length) (val : List Int) (hk : val.length = (L.getD i it0).val.length) (hg : w.grownBy w' (some (gv i).1)) (ho : Ow w' (gv i).1 (gv i).2 (val ++ mv)) :
    Lm w' base mk mv gk gv xs (L.set i ⟨(L.getD i it0).key, val, (L.getD i it0).size, (L.getD i it0).first⟩) := by
  have same : (L.set i ⟨(L.getD i it0).key, val, (L.getD i it0).size, (L.getD i it0).first⟩).getD i it0 = ⟨(L.getD i it0).key, val, (L.getD i it0).size, (L.getD i it0).first⟩ := by simp only [List.getD, List.getElem?_set_self hi, Option.getD_some]
  have other : ∀ j, j ≠ i → (L.set i ⟨(L.getD i it0).key, val, (L.getD i it0).size, (L.getD i it0).first⟩).getD j it0 = L.getD j it0 := fun j hj => by simp only [List.getD]; rw [List.getElem?_set_ne (fun e => hj e.symm)]
  refine ⟨by rw [List.length_set]; exact h.len, fun j hj => ?_, fun j hj => ?_, fun j hj => ?_, fun a b hab hb => ?_⟩
  · rw [List.length_set] at hj
    by_cases e : j = i
    · subst e; rw [same]; simp only; rw [hk]; exact h.el j hj
    · rw [other j e]; exact h.el j hj
  · rw [List.length_set] at hj
    by_cases e : j = i
    · subst e; rw [same]
      exact ⟨(h.ko j hj).1.kept hg (fun e => (h.key_ne hj hj).2 (Option.some.inj e)), ho⟩
    · rw [other j e]
      exact ⟨(h.ko j hj).1.kept hg (fun e2 => (h.key_ne hj hi).2 (Option.some.inj e2)), (h.ko j hj).2.kept hg (fun e2 => ((h.key_ne hj hi).1 e).2 (Option.some.inj e2))⟩
  · rw [List.length_set] at hj; exact h.lo j hj
  · rw [List.length_set] at hb; exact h.up a b hab hb
theorem ow_part {w : World} {g cap : Nat} {zs ts : List Int} (h : Ow w g cap (zs ++ ts)) (n : Nat) (hn : n = zs.length) : Byt w (some ⟨g, 0, none⟩) n cap zs := h.part.byt n hn
/-- The four cells of an item. -/
theorem Lm.cells {w : World} {base b2 : Nat} {mk mv : List Int} {gk gv : Nat → Nat × Nat} {xs ys : List Value} {L : List It} {A N cap : Nat} (h : Lm w base mk mv gk gv xs L) (ho : w.ownsRow b2 48 4 (.slice (some ⟨A, 0, none⟩) N cap) N (xs ++ ys)) (j : Nat) (hj : j < L.length) :
    w.cell? ⟨A, j * 4, none⟩ = some (.slice (some ⟨(gk j).1, 0, none⟩) (L.getD j it0).key.length (gk j).2) ∧ w.cell? ⟨A, j * 4 + 1, none⟩ = some (.slice (some ⟨(gv j).1, 0, none⟩) (L.getD j it0).val.length (gv j).2) ∧
    w.cell? ⟨A, j * 4 + 2, none⟩ = some (.int .i64 (L.getD j it0).size) ∧ w.cell? ⟨A, j * 4 + 3, none⟩ = some (.int .i64 (L.getD j it0).first) := by
  have hl := h.len
  have hlt := ho.1
  rw [List.length_append] at hlt
  obtain ⟨a1, a2, a3, a4⟩ := h.el j hj
  refine ⟨?_, ?_, ?_, ?_⟩
  · rw [ho.cellAt _ (by omega), List.getElem?_append_left (by omega)]; exact a1
  · rw [ho.cellAt _ (by omega), List.getElem?_append_left (by omega)]; exact a2
  · rw [ho.cellAt _ (by omega), List.getElem?_append_left (by omega)]; exact a3
  · rw [ho.cellAt _ (by omega), List.getElem?_append_left (by omega)]; exact a4
theorem Lm.il {w : World} {base b2 : Nat} {mk mv : List Int} {gk gv : Nat → Nat × Nat} {xs ys : List Value} {L : List It} {A N cap : Nat} (h : Lm w base mk mv gk gv xs L) (ho : w.ownsRow b2 48 4 (.slice (some ⟨A, 0, none⟩) N cap) N (xs ++ ys)) : Il w (some ⟨A, 0, none⟩) L := by
  refine ⟨fun j hj => ?_⟩
  obtain ⟨a1, a2, a3, a4⟩ := h.cells ho j hj
  obtain ⟨k1, k2⟩ := h.ko j hj
  have l1 := k1.le
  have l2 := k2.le
  have m1 := k1.max
  have m2 := k2.max
  rw [List.length_append] at l1 l2
  refine ⟨A, 0, _, _, _, _, _, _, rfl, by rw [Nat.zero_add]; exact a1, by rw [Nat.zero_add]; exact a2, by rw [Nat.zero_add]; exact a3, by rw [Nat.zero_add]; exact a4, ow_part k1 _ rfl, by omega, by omega, ow_part k2 _ rfl, by omega, by omega⟩
end Go.Proofs.Ytlfhonlifgpnhaa
