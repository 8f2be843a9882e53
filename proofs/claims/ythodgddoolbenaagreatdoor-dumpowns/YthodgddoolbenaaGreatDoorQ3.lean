import Derived.Test.YthodgddoolbenaaGreatDoorQ2
import Derived.ArgAppend
namespace Go.Proofs.YthodgddoolbenaaGreatDoor
open Go.RowKit
structure Kdk where
 q : Nat
 W : Nat
 et : TypeId
 lt : TypeId
 f : Int → Nat → Nat → Value
structure Lst where
 v : Value
 g : Nat
 o : Nat
 n : Nat
 c : Nat
 N : Nat
 C : Nat
structure Lst.Ok (W : Nat) (s : Lst) : Prop where
 le : s.n ≤ s.c
 hN : s.N = s.n * W
 hC : s.C = s.c * W
 max : s.n ≤ 1099511627776
 cmax : s.c ≤ 9223372036854775807
 val : ∃ ao, s.v = .slice ao s.n s.c ∧ (0 < s.c → ao = some ⟨s.g, s.o, none⟩)
theorem Lst.Ok.leN {W : Nat} {s : Lst} (h : s.Ok W) : s.N ≤ s.C := by rw [h.hN, h.hC]; exact Nat.mul_le_mul_right _ h.le
theorem Lst.Ok.room {W : Nat} {s : Lst} (h : s.Ok W) (hr : s.n < s.c) : s.N + W ≤ s.C := by
 rw [h.hN, h.hC, ← Nat.succ_mul]; exact Nat.mul_le_mul_right _ hr
theorem Lst.Ok.cell {W : Nat} {s : Lst} (h : s.Ok W) {j x : Nat} (hj : j < s.n) (hx : x < W) : j * W + x < s.N := by
 rw [h.hN]
 have : (j + 1) * W ≤ s.n * W := Nat.mul_le_mul_right _ hj
 rw [Nat.succ_mul] at this
 omega
def Lst.There (s : Lst) (w : World) : Prop := ∀ j, j < s.C → (∃ u, w.cell? ⟨s.g, s.o + j, none⟩ = some u) ∧ w.frozen? ⟨s.g, s.o + j, none⟩ = false
def Lst.Shows (s : Lst) (w : World) (f : Nat → Value) : Prop := ∀ j, j < s.N → w.cell? ⟨s.g, s.o + j, none⟩ = some (f j)
def Lst.Apart (s t : Lst) : Prop := ∀ i j, i < s.C → j < t.C → (⟨s.g, s.o + i, none⟩ : Addr) ≠ ⟨t.g, t.o + j, none⟩
theorem Lst.Apart.symm {s t : Lst} (h : s.Apart t) : t.Apart s := fun i j hi hj e => h j i hj hi e.symm
theorem off_ne {B i j : Nat} (h : i ≠ j) : (⟨B, i, none⟩ : Addr) ≠ ⟨B, j, none⟩ := fun e => h (by injection e)
theorem Lst.There.kept {s : Lst} {w w' : World} {row : Option Nat} (h : s.There w) (hg : w.grownBy w' row) (hne : some s.g ≠ row) : s.There w' := by
 intro j hj
 obtain ⟨⟨u, hu⟩, hf⟩ := h j hj
 have hl : s.g < w.heap.size := World.block_lt_of_cell? w _ hu
 exact ⟨⟨u, hg.cell hu hne⟩, (World.frozen?_of_block (hg.block s.g hl hne)).trans hf⟩
theorem Lst.Shows.kept {s : Lst} {w w' : World} {f : Nat → Value} {row : Option Nat} (h : s.Shows w f) (hg : w.grownBy w' row) (hne : some s.g ≠ row) : s.Shows w' f :=
 fun j hj => hg.cell (h j hj) hne
theorem Lst.There.set {s : Lst} {w : World} (h : s.There w) (a : Addr) (v : Value) : s.There (w.setCell a v) := by
 intro j hj
 obtain ⟨⟨u, hu⟩, hf⟩ := h j hj
 refine ⟨?_, by simpa using hf⟩
 by_cases e : a = ⟨s.g, s.o + j, none⟩
 ·subst e; exact ⟨v, World.cell?_setCell_same _ _ _ hu⟩
 ·exact ⟨u, by rw [World.cell?_setCell_other _ _ _ _ e]; exact hu⟩
theorem Lst.Shows.far {s : Lst} {w : World} {f : Nat → Value} (h : s.Shows w f) (a : Addr) (v : Value) (ha : ∀ j, j < s.N → a ≠ ⟨s.g, s.o + j, none⟩) : s.Shows (w.setCell a v) f := by
 intro j hj
 rw [World.cell?_setCell_other _ _ _ _ (ha j hj)]; exact h j hj
structure Kro (w : World) (v : Value) (r c : Nat) (xs : List Value) : Prop where
 val : ∃ ao, v = .slice ao xs.length c ∧ (0 < xs.length → ao = some ⟨r, 0, none⟩)
 cells : ∀ i x, xs[i]? = some x → w.cell? ⟨r, i, none⟩ = some x
theorem Kro.kept {w w' : World} {v : Value} {r c : Nat} {xs : List Value} {row : Option Nat} (h : Kro w v r c xs) (hg : w.grownBy w' row) (hne : some r ≠ row) : Kro w' v r c xs :=
 ⟨h.val, fun i x hx => hg.cell (h.cells i x hx) hne⟩
theorem Kro.set {w : World} {v : Value} {r c : Nat} {xs : List Value} (h : Kro w v r c xs) (a : Addr) (u : Value) (hne : a.block ≠ r) : Kro (w.setCell a u) v r c xs :=
 ⟨h.val, fun i x hx => by rw [World.cell?_setCell_other _ _ _ _ (fun e => hne (by rw [e]))]; exact h.cells i x hx⟩
structure Kc (K : Kdk) (w : World) (B : Nat) (ps : Int) (vb : Value) (r c : Nat) (L : List Lst) : Prop where
 pass : w.cell? ⟨B, 1, none⟩ = some (.int .i64 ps)
 lists : w.cell? ⟨B, K.q, none⟩ = some vb
 row : Kro w vb r c (L.map Lst.v)
 ok : ∀ s ∈ L, s.Ok K.W ∧ s.There w ∧ s.g ≠ B ∧ s.g ≠ r
 apart : L.Pairwise Lst.Apart
 many : L.length ≤ 1000000
theorem Kc.set {K : Kdk} {w : World} {B : Nat} {ps : Int} {vb : Value} {r c : Nat} {L : List Lst} (h : Kc K w B ps vb r c L) (a : Addr) (u : Value) (hB : a.block ≠ B) (hr : a.block ≠ r) : Kc K (w.setCell a u) B ps vb r c L := by
 refine ⟨?_, ?_, h.row.set _ _ hr, fun t ht => ?_, h.apart, h.many⟩
 ·rw [World.cell?_setCell_other _ _ _ _ (fun e => hB (by rw [e]))]; exact h.pass
 ·rw [World.cell?_setCell_other _ _ _ _ (fun e => hB (by rw [e]))]; exact h.lists
 ·obtain ⟨a1, a2, a3, a4⟩ := h.ok t ht
  exact ⟨a1, a2.set _ _, a3, a4⟩
theorem Kc.kept {K : Kdk} {w w' : World} {B : Nat} {ps : Int} {vb : Value} {r c : Nat} {L : List Lst} {row : Option Nat} (h : Kc K w B ps vb r c L) (hg : w.grownBy w' row) (h1 : some B ≠ row) (h2 : some r ≠ row) (h3 : ∀ s ∈ L, some s.g ≠ row) : Kc K w' B ps vb r c L :=
 ⟨hg.cell h.pass h1, hg.cell h.lists h1, h.row.kept hg h2, fun s hs => ⟨(h.ok s hs).1, (h.ok s hs).2.1.kept hg (h3 s hs), (h.ok s hs).2.2⟩, h.apart, h.many⟩
theorem Kc.setB {K : Kdk} {w : World} {B : Nat} {ps : Int} {vb : Value} {r c : Nat} {L : List Lst} (h : Kc K w B ps vb r c L) (i : Nat) (u : Value) (hi : i ≠ 1) (hq : i ≠ K.q) (hr : r ≠ B) : Kc K (w.setCell ⟨B, i, none⟩ u) B ps vb r c L := by
 refine ⟨?_, ?_, h.row.set _ _ (by simpa using (Ne.symm hr)), fun t ht => ?_, h.apart, h.many⟩
 ·rw [World.cell?_setCell_other _ _ _ _ (off_ne hi)]; exact h.pass
 ·rw [World.cell?_setCell_other _ _ _ _ (off_ne hq)]; exact h.lists
 ·obtain ⟨a1, a2, a3, a4⟩ := h.ok t ht
  exact ⟨a1, a2.set _ _, a3, a4⟩
theorem Kc.pass1 {K : Kdk} {w : World} {B : Nat} {ps : Int} {vb : Value} {r c : Nat} {L : List Lst} (h : Kc K w B ps vb r c L) (p : Int) (hr : r ≠ B) (hq : K.q ≠ 1) : Kc K (w.setCell ⟨B, 1, none⟩ (.int .i64 p)) B p vb r c L := by
 refine ⟨World.cell?_setCell_same _ _ _ h.pass, ?_, h.row.set _ _ (by simpa using (Ne.symm hr)), fun t ht => ?_, h.apart, h.many⟩
 ·rw [World.cell?_setCell_other _ _ _ _ (off_ne (Ne.symm hq))]; exact h.lists
 ·obtain ⟨a1, a2, a3, a4⟩ := h.ok t ht
  exact ⟨a1, a2.set _ _, a3, a4⟩
theorem ls_pair {L : List Lst} (h : L.Pairwise Lst.Apart) {i k : Nat} {s t : Lst} (hi : L[i]? = some s) (hk : L[k]? = some t) (hne : i ≠ k) : s.Apart t := by
 obtain ⟨li, ei⟩ := List.getElem?_eq_some_iff.1 hi
 obtain ⟨lk, ek⟩ := List.getElem?_eq_some_iff.1 hk
 rw [List.pairwise_iff_getElem] at h
 rcases Nat.lt_or_ge i k with hlt | hge
 ·have := h i k li lk hlt
  rwa [ei, ek] at this
 ·have := h k i lk li (by omega)
  rw [ei, ek] at this
  exact this.symm
structure Kwr (K : Kdk) (I : World → Prop) (w : World) (B : Nat) (ps : Int) (vb : Value) (r c : Nat) (L : List Lst) (id0 i j : Nat) : Prop where
 inv : I w
 bc : Kc K w B ps vb r c L
 done : ∀ k s, k < i → L[k]? = some s → s.Shows w (K.f ps (id0 + k + 1))
 part : ∀ s, L[i]? = some s → ∀ q, q < j → w.cell? ⟨s.g, s.o + q, none⟩ = some (K.f ps (id0 + i + 1) q)
theorem Kwr.step {K : Kdk} {I : World → Prop} {w : World} {B : Nat} {ps : Int} {vb : Value} {r c : Nat} {L : List Lst} {id0 i j : Nat} (h : Kwr K I w B ps vb r c L id0 i j) (hI : ∀ w s j v, s ∈ L → j < s.C → I w → I (w.setCell ⟨s.g, s.o + j, none⟩ v))
  {s : Lst} (hs : L[i]? = some s) (hj : j < s.N) (o : Nat) (ho : o = s.o + j) (v : Value) (hv : v = K.f ps (id0 + i + 1) j) : Kwr K I (w.setCell ⟨s.g, o, none⟩ v) B ps vb r c L id0 i (j + 1) := by
 subst ho hv
 have hm : s ∈ L := List.mem_of_getElem? hs
 have hok := h.bc.ok s hm
 have hle := hok.1.leN
 refine ⟨hI w s j _ hm (by omega) h.inv, h.bc.set _ _ hok.2.2.1 hok.2.2.2, fun k t hk ht => ?_, fun t ht q hq => ?_⟩
 ·refine (h.done k t hk ht).far _ _ fun q hq => ?_
  have h2 := (h.bc.ok t (List.mem_of_getElem? ht)).1.leN
  exact ls_pair h.bc.apart hs ht (by omega) j q (by omega) (by omega)
 ·have e : t = s := by rw [hs] at ht; exact (Option.some.inj ht).symm
  subst e
  by_cases e : q = j
  ·subst e
   obtain ⟨u, hu⟩ := (hok.2.1 q (by omega)).1
   exact World.cell?_setCell_same _ _ _ hu
  ·rw [World.cell?_setCell_other _ _ _ _ (by intro e'; injection e' with _ e2; omega)]
   exact h.part t hs q (by omega)
theorem Kwr.qt {K : Kdk} {I : World → Prop} {w w' : World} {B : Nat} {ps : Int} {vb : Value} {r c : Nat} {L : List Lst} {id0 i j : Nat} (h : Kwr K I w B ps vb r c L id0 i j) (hI : ∀ w w', w.grownBy w' none → I w → I w') (hg : w.grownBy w' none) : Kwr K I w' B ps vb r c L id0 i j :=
 ⟨hI w w' hg h.inv, h.bc.kept hg (by simp) (by simp) (by simp), fun k s hk hs => (h.done k s hk hs).kept hg (by simp), fun s hs q hlt => hg.cell (h.part s hs q hlt) (by simp)⟩
theorem Kwr.next {K : Kdk} {I : World → Prop} {w : World} {B : Nat} {ps : Int} {vb : Value} {r c : Nat} {L : List Lst} {id0 i : Nat} {s : Lst} (hs : L[i]? = some s) (h : Kwr K I w B ps vb r c L id0 i s.N) : Kwr K I w B ps vb r c L id0 (i + 1) 0 :=
 ⟨h.inv, h.bc, fun k t hk ht => by
  by_cases e : k = i
  ·subst e
   have e : t = s := by rw [hs] at ht; exact (Option.some.inj ht).symm
   subst e
   exact fun q hq => h.part t hs q hq
  ·exact h.done k t (by omega) ht, fun t ht q hq => by omega⟩
structure Kg (K : Kdk) (w : World) (B : Nat) (ps : Int) (vg : Value) (r c : Nat) (M : List Lst) (id0 : Nat) : Prop where
 lists : w.cell? ⟨B, K.q + 2, none⟩ = some vg
 row : Kro w vg r c (M.map Lst.v)
 ok : ∀ s ∈ M, s.Ok K.W
 marks : ∀ (k : Nat) (s : Lst), M[k]? = some s → s.Shows w (K.f ps (id0 + k + 1))
theorem kg_none {K : Kdk} {w : World} {B : Nat} {ps : Int} {id0 : Nat} (h : w.cell? ⟨B, K.q + 2, none⟩ = some (.slice none 0 0)) : Kg K w B ps (.slice none 0 0) 0 0 [] id0 :=
 ⟨h, ⟨⟨none, rfl, fun h => by simp at h⟩, fun i x hx => by simp at hx⟩, fun s hs => by simp at hs, fun k s hs => by simp at hs⟩
theorem Kg.keptN {K : Kdk} {w w' : World} {B : Nat} {ps : Int} {vg : Value} {r c : Nat} {M : List Lst} {id0 : Nat} (h : Kg K w B ps vg r c M id0) (hg : w.grownBy w' none) : Kg K w' B ps vg r c M id0 :=
 ⟨hg.cell h.lists (by simp), h.row.kept hg (by simp), h.ok, fun k s hk => (h.marks k s hk).kept hg (by simp)⟩
theorem kset_grown (w : World) (B i : Nat) (v : Value) : w.grownBy (w.setCell ⟨B, i, none⟩ v) (some B) :=
 ⟨rfl, rfl, rfl, by simp, fun k _ hk => heap_setCell_other w ⟨B, i, none⟩ k v (fun e => hk (by simp [e]))⟩
end Go.Proofs.YthodgddoolbenaaGreatDoor
