import Derived.Test.YtmbbflfknldaoaaGreatDoorQ14
import Derived.Test.YtmbbflfknldaoaaGreatDoorQ18
import Derived.Test.YtmbbflfknldaoaaGreatDoorQ38
namespace Go.Proofs.YtmbbflfknldaoaaGreatDoor
open Go.RowKit
structure Oi (w : World) (g cap : Nat) (zs : List Int) : Prop where
 ex : ∃ cur : Array Value, w.heap[g]? = some (.cells cur 3 (0, 0)) ∧ cur.size = cap ∧ ∀ j, j < zs.length → cur[j]? = some (.int .i64 (zs.getD j 0))
 le : zs.length ≤ cap
 max : cap ≤ 9223372036854775807
theorem Oi.of_owns {w : World} {base g n cap : Nat} {zs : List Int} (h : w.ownsRow base 3 1 (.slice (some ⟨g, 0, none⟩) n cap) n (zs.map (Value.int .i64))) : Oi w g cap zs ∧ zs.length = n ∧ base ≤ g ∧ g < w.heap.size := by
 have hl : zs.length = n := by have := h.1; simpa using this
 have hlt := h.lt g rfl
 rcases h.2 with ⟨e, _⟩ | ⟨g', cap', cur, hv, hb, hg, hc, hm, hs, ht⟩
 ·cases e
 ·injection hv with e1 _ e3
  simp only [Option.some.injEq, Addr.mk.injEq] at e1
  obtain ⟨rfl, _⟩ := e1
  subst e3
  refine ⟨⟨⟨cur, hg, by simpa using hs, fun j hj => ?_⟩, by omega, by unfold maxLen at hm; omega⟩, hl, hlt⟩
  have e : (cur.toList.take (n * 1))[j]? = (zs.map (Value.int .i64))[j]? := by rw [ht]
  rw [List.getElem?_take, if_pos (by omega), Array.getElem?_toList] at e
  rw [e]
  simp [List.getD, List.getElem?_eq_getElem hj]
theorem Oi.cell {w : World} {g cap : Nat} {zs : List Int} (h : Oi w g cap zs) {j : Nat} (hj : j < zs.length) : w.cell? ⟨g, j, none⟩ = some (.int .i64 (zs.getD j 0)) := by
 obtain ⟨cur, h1, _, h3⟩ := h.ex
 rw [cell_of_row w g j _ _ _ h1]; exact h3 j hj
theorem Oi.frozen {w : World} {g cap : Nat} {zs : List Int} (h : Oi w g cap zs) (j : Nat) : w.frozen? ⟨g, j, none⟩ = false := by
 obtain ⟨cur, h1, _, _⟩ := h.ex
 exact frozen_of_row w g j _ _ h1
theorem Oi.lt {w : World} {g cap : Nat} {zs : List Int} (h : Oi w g cap zs) : g < w.heap.size := by
 obtain ⟨cur, h1, _, _⟩ := h.ex
 exact (Array.getElem?_eq_some_iff.1 h1).1
theorem Oi.same {w w' : World} {g cap : Nat} {zs : List Int} (h : Oi w g cap zs) (e : w'.heap[g]? = w.heap[g]?) : Oi w' g cap zs := by
 obtain ⟨cur, h1, h2, h3⟩ := h.ex
 exact ⟨⟨cur, e.trans h1, h2, h3⟩, h.le, h.max⟩
theorem Oi.kept {w w' : World} {g cap : Nat} {zs : List Int} {row : Option Nat} (h : Oi w g cap zs) (hg : w.grownBy w' row) (hne : some g ≠ row) : Oi w' g cap zs := h.same (hg.block g h.lt hne)
theorem Oi.keptN {w w' : World} {g cap : Nat} {zs : List Int} (h : Oi w g cap zs) (hg : w.grownBy w' none) : Oi w' g cap zs := h.kept hg (by simp)
theorem Oi.qt {w w' : World} {g cap : Nat} {zs : List Int} (h : Oi w g cap zs) (q : Qt w w') : Oi w' g cap zs := h.same (by rw [q.heap])
theorem Oi.part {w : World} {g cap : Nat} {xs ys : List Int} (h : Oi w g cap (xs ++ ys)) : Oi w g cap xs := by
 obtain ⟨cur, h1, h2, h3⟩ := h.ex
 have := h.le
 simp at this
 refine ⟨⟨cur, h1, h2, fun j hj => ?_⟩, by omega, h.max⟩
 rw [h3 j (by simp; omega)]
 simp [List.getD, List.getElem?_append_left hj]
theorem Oi.set {w : World} {g cap : Nat} {zs : List Int} (h : Oi w g cap zs) (i : Nat) (v : Int) (_hi : i < zs.length) : Oi (w.setCell ⟨g, i, none⟩ (.int .i64 v)) g cap (zs.set i v) := by
 obtain ⟨cur, h1, h2, h3⟩ := h.ex
 refine ⟨⟨cur.setIfInBounds i (.int .i64 v), heap_setCell_same w g i cur _ _ h1, by simpa using h2, fun j hj => ?_⟩, by simpa using h.le, h.max⟩
 have hj' : j < zs.length := by simpa using hj
 have hjc : j < cur.size := by have := h.le; omega
 by_cases e : i = j
 ·subst e
  simp [List.getD, hj', hjc]
 ·rw [Array.getElem?_setIfInBounds_ne e, h3 j hj']
  simp [List.getD, e]
theorem Oi.nt {w : World} {g cap : Nat} {xs : List Int} (h : Oi w g cap xs) : Nt w (some ⟨g, 0, none⟩) xs :=
 ⟨fun i hi => ⟨g, 0, rfl, by rw [Nat.zero_add]; exact h.cell hi⟩⟩
structure Pe (w : World) (base : Nat) (cs : Nat → Value) (t : TypeId) (bo : Option Addr) (m H H' : Nat) : Prop where
 at' : 0 < m → ∃ g o, bo = some ⟨g, o, none⟩ ∧ H ≤ g ∧ g < H' ∧ Fre base cs g ∧ ∃ cur, w.heap[g]? = some (.cells cur t (0, 0)) ∧ o + m ≤ cur.size
theorem Pe.kee {w w' : World} {base : Nat} {cs cs' : Nat → Value} {t : TypeId} {bo : Option Addr} {m H H' : Nat} (h : Pe w base cs t bo m H H') (k : Kee w w' base cs cs') : Pe w' base cs' t bo m H H' := by
 refine ⟨fun h0 => ?_⟩
 obtain ⟨g, o, h1, h2, h3, h4, cur, h5, h6⟩ := h.at' h0
 have hl := (Array.getElem?_eq_some_iff.1 h5).1
 exact ⟨g, o, h1, h2, h3, (k.block g hl h4).2, cur, (k.block g hl h4).1.trans h5, h6⟩
theorem Pe.n {w w' : World} {base : Nat} {cs : Nat → Value} {t : TypeId} {bo : Option Addr} {m H H' : Nat} (h : Pe w base cs t bo m H H') (hg : w.grownBy w' none) : Pe w' base cs t bo m H H' := h.kee (Kfr.of (B := 0) hg).toKee
theorem Tb.n {w w' : World} {base : Nat} {cs : Nat → Value} {ao : Option Addr} {n c : Nat} {zs : List Int} (h : Tb w base cs ao n c zs) (hg : w.grownBy w' none) : Tb w' base cs ao n c zs := h.kee (Kfr.of (B := 0) hg).toKee
theorem Tn.n {w w' : World} {base : Nat} {cs : Nat → Value} {a : Option Addr} {Z : List Int} (h : Tn w base cs a Z) (hg : w.grownBy w' none) : Tn w' base cs a Z := h.kee (Kfr.of (B := 0) hg).toKee
theorem cell_size {w : World} {g o m : Nat} {cur : Array Value} {t : TypeId} {zs : List Int} (h : w.heap[g]? = some (.cells cur t (0, 0))) (hb : Byt w (some ⟨g, o, none⟩) m m zs) : o + m ≤ cur.size ∨ m = 0 := by
 rcases Nat.eq_zero_or_pos m with h0 | h0
 ·exact Or.inr h0
 ·left
  have hl := hb.len
  have hc := hb.cells _ rfl (m - 1) (.int .u8 (zs.getD (m - 1) 0)) (by rw [List.getElem?_map, List.getElem?_eq_getElem (by omega)]; simp [List.getD, List.getElem?_eq_getElem (show m - 1 < zs.length by omega)])
  rw [Addr.add_lit, cell_of_row w g _ _ _ _ h] at hc
  have := (Array.getElem?_eq_some_iff.1 hc).1
  omega
structure Cs (w0 : World) (B base V cV J cJ : Nat) (zs xs : List Int) (w : World) (cs : Nat → Value) (L : Nat → List Lst) (H : Nat) : Prop where
 k : ∃ ys, Kst kdS SameS w B base cs L ys
 v : Ow w V cV (zs ++ marks)
 j : Oi w J cJ (xs ++ [7, 9])
 g : w0.grownBy w none
 lim : ∀ i, ∀ t ∈ L i, t.C = 0 ∨ t.g < H
 no : ∀ i, i ≠ 0 → i ≠ 1 → i ≠ 3 → L i = []
structure Cc (w0 : World) (B base V J : Nat) : Prop where
 b : w0.heap.size ≤ B ∧ B < base
 v : V < base ∧ V ≠ B ∧ w0.heap.size ≤ V
 j : J < base ∧ J ≠ B ∧ J ≠ V ∧ w0.heap.size ≤ J
theorem Cs.n {w0 : World} {B base V cV J cJ : Nat} {zs xs : List Int} {w w' : World} {cs : Nat → Value} {L : Nat → List Lst} {H : Nat} (h : Cs w0 B base V cV J cJ zs xs w cs L H) (hg : w.grownBy w' none) : Cs w0 B base V cV J cJ zs xs w' cs L H := by
 obtain ⟨ys, hk⟩ := h.k
 exact ⟨⟨ys, hk.keptN kds_ok hg⟩, h.v.keptN hg, h.j.keptN hg, grown_trans h.g hg, h.lim, h.no⟩
theorem Cs.f {w0 : World} {B base V cV J cJ : Nat} {zs xs : List Int} {w w' : World} {cs cs' : Nat → Value} {L L' : Nat → List Lst} {H H' : Nat} (hc : Cc w0 B base V J) (h : Cs w0 B base V cV J cJ zs xs w cs L H) (hf : Kfr w w' B base cs cs') (hk : ∃ ys, Kst kdS SameS w' B base cs' L' ys) (hlim : ∀ i, ∀ t ∈ L' i, t.C = 0 ∨ t.g < H') (hno : ∀ i, i ≠ 0 → i ≠ 1 → i ≠ 3 → L' i = []) : Cs w0 B base V cV J cJ zs xs w' cs' L' H' :=
 ⟨hk, h.v.same (hf.low V h.v.lt hc.v.1 hc.v.2.1), h.j.same (hf.low J h.j.lt hc.j.1 hc.j.2.1), hf.grown h.g hc.b.1 (by have := hc.b; omega), hlim, hno⟩
theorem Cs.new {w0 : World} {B base V cV J cJ : Nat} {zs xs : List Int} {w : World} {cs : Nat → Value} {L : Nat → List Lst} {H : Nat} (h : Cs w0 B base V cV J cJ zs xs w cs L H) {d : Nat} (hd : w.heap.size ≤ d) : Fre base cs d := by
 obtain ⟨ys, hk⟩ := h.k
 exact hk.t.new hd
theorem Cs.base {w0 : World} {B base V cV J cJ : Nat} {zs xs : List Int} {w : World} {cs : Nat → Value} {L : Nat → List Lst} {H : Nat} (h : Cs w0 B base V cV J cJ zs xs w cs L H) : base ≤ w.heap.size := by
 obtain ⟨ys, hk⟩ := h.k
 exact hk.t.bB.2
theorem Cs.top {w0 : World} {B base V cV J cJ : Nat} {zs xs : List Int} {w : World} {cs : Nat → Value} {L : Nat → List Lst} {H : Nat} (h : Cs w0 B base V cV J cJ zs xs w cs L H) : Cs w0 B base V cV J cJ zs xs w cs L w.heap.size := by
 refine ⟨h.k, h.v, h.j, h.g, fun i t ht => Or.inr ?_, h.no⟩
 obtain ⟨ys, hk⟩ := h.k
 rcases Nat.lt_or_ge i 13 with hi | hi
 ·exact hk.lt hi ht
 ·rw [h.no i (by omega) (by omega) (by omega)] at ht; simp at ht
theorem Cs.more {w0 : World} {B base V cV J cJ : Nat} {zs xs : List Int} {w : World} {cs : Nat → Value} {L : Nat → List Lst} {H H' : Nat} (h : Cs w0 B base V cV J cJ zs xs w cs L H) (hH : H ≤ H') : Cs w0 B base V cV J cJ zs xs w cs L H' :=
 ⟨h.k, h.v, h.j, h.g, fun i t ht => by rcases h.lim i t ht with a | a; exact Or.inl a; exact Or.inr (by omega), h.no⟩
theorem apart_new {t s : Lst} {H : Nat} (h : t.C = 0 ∨ t.g < H) (hs : H ≤ s.g) : t.Apart s := fun i j hi hj e => by
 rcases h with h | h
 ·omega
 ·injection e with e1; omega
theorem lim_snoc {L : Nat → List Lst} {H H' j : Nat} {s : Lst} (h : ∀ i, ∀ t ∈ L i, t.C = 0 ∨ t.g < H) (hH : H ≤ H') (hs : s.C = 0 ∨ s.g < H') : ∀ i, ∀ t ∈ lsn L j [s] i, t.C = 0 ∨ t.g < H' := fun i t ht => by
 unfold lsn at ht
 split at ht
 ·rcases List.mem_append.1 ht with h1 | h1
  ·rcases h _ t h1 with a | a
   ·exact Or.inl a
   ·exact Or.inr (by omega)
  ·rw [List.mem_singleton.1 h1]; exact hs
 ·rcases h _ t ht with a | a
  ·exact Or.inl a
  ·exact Or.inr (by omega)
theorem set_app {zs ms : List Int} {i : Nat} {v : Int} (h : i < zs.length) : (zs ++ ms).set i v = zs.set i v ++ ms := by rw [List.set_append_left _ _ h]
theorem Cs.setV {w0 : World} {B base V cV J cJ : Nat} {zs xs : List Int} {w : World} {cs : Nat → Value} {L : Nat → List Lst} {H : Nat} (hc : Cc w0 B base V J) (h : Cs w0 B base V cV J cJ zs xs w cs L H) (i : Nat) (v : Int) (hi : i < zs.length) : Cs w0 B base V cV J cJ (zs.set i v) xs (w.setCell ⟨V, i, none⟩ (.int .u8 v)) cs L H := by
 obtain ⟨ys, hk⟩ := h.k
 have hg := kset_grown w V i (.int .u8 v)
 refine ⟨⟨ys, hk.row kds_ok hg (fun j e => by obtain rfl := Option.some.inj e; exact ⟨hc.v.1, hc.v.2.1⟩)⟩, ?_, h.j.kept hg (fun e => hc.j.2.2.1 (Option.some.inj e)), grown_new h.g hg hc.v.2.2, h.lim, h.no⟩
 have := h.v.set i v (by rw [List.length_append]; omega)
 rw [set_app hi] at this
 exact this
theorem Cs.setJ {w0 : World} {B base V cV J cJ : Nat} {zs xs : List Int} {w : World} {cs : Nat → Value} {L : Nat → List Lst} {H : Nat} (hc : Cc w0 B base V J) (h : Cs w0 B base V cV J cJ zs xs w cs L H) (i : Nat) (v : Int) (hi : i < xs.length) : Cs w0 B base V cV J cJ zs (xs.set i v) (w.setCell ⟨J, i, none⟩ (.int .i64 v)) cs L H := by
 obtain ⟨ys, hk⟩ := h.k
 have hg := kset_grown w J i (.int .i64 v)
 refine ⟨⟨ys, hk.row kds_ok hg (fun j e => by obtain rfl := Option.some.inj e; exact ⟨hc.j.1, hc.j.2.1⟩)⟩, h.v.kept hg (fun e => hc.j.2.2.1 (Option.some.inj e).symm), ?_, grown_new h.g hg hc.j.2.2.2, h.lim, h.no⟩
 have := h.j.set i v (by rw [List.length_append]; omega)
 rw [set_app hi] at this
 exact this
theorem Cs.take {w0 : World} {B base V cV J cJ : Nat} {zs xs : List Int} {w : World} {cs : Nat → Value} {L : Nat → List Lst} {H : Nat} (h : Cs w0 B base V cV J cJ zs xs w cs L H) (k : Nat) (hk : k ≤ zs.length) : Byt w (some ⟨V, 0, none⟩) k cV (zs.take k) := by
 have e : zs ++ marks = zs.take k ++ (zs.drop k ++ marks) := by rw [← List.append_assoc, List.take_append_drop]
 have h1 := h.v
 rw [e] at h1
 exact h1.part.byt k (by rw [List.length_take]; omega)
theorem keep_b {w0 : World} {B base V cV J cJ : Nat} {zs xs : List Int} {w : World} {cs : Nat → Value} {L : Nat → List Lst} {H H' : Nat} (hc : Cc w0 B base V J) (h : Cs w0 B base V cV J cJ zs xs w cs L H) (ao : Option Addr) (m : Nat) (bs : List Int) (hb : Tb w base cs ao m m bs) (hp : Pe w base cs 5 ao m H H') (hm : m ≤ 100000) (hH : H ≤ H') (hL : (L 0).length ≤ 1000) :
  Calls Tryz.prog 17 #[.pointer (some ⟨B, 0, none⟩), .slice ao m m] w fun en w' => en = .returned (.tuple #[]) ∧ ∃ cs' s, Cs w0 B base V cV J cJ zs xs w' cs' (lsn L 0 [s]) H' ∧ Kfr w w' B base cs cs' := by
 obtain ⟨ys, hk⟩ := h.k
 refine (kst_bytes kds_ok hk rfl rfl ao m m bs hb (by omega) (by omega)).mono ?_
 rintro en w' ⟨rfl, cs', y, k1, k2, k3⟩
 have hno : ∀ s : Lst, ∀ i, i ≠ 0 → i ≠ 1 → i ≠ 3 → lsn L 0 [s] i = [] := fun s i h2 h3 h4 => by rw [lsn_far _ _ h2]; exact h.no i h2 h3 h4
 rcases Nat.eq_zero_or_pos m with h0 | h0
 ·subst h0
  obtain ⟨s, _, k4, hs⟩ := k3 rfl rfl
  exact ⟨rfl, cs', s, h.f hc k1 ⟨_, hs⟩ (lim_snoc h.lim hH (Or.inl k4)) (hno s), k1⟩
 ·obtain ⟨g, o, rfl, h2, h3, h4, cur, h5, h6⟩ := hp.at' h0
  have hr : Rdy w base cs 1 5 ⟨.slice (some ⟨g, o, none⟩) m m, g, o, m, m, m, m⟩ := ⟨⟨Nat.le_refl _, by simp, by simp, by show m ≤ _; omega, by show m ≤ _; omega, _, rfl, fun _ => rfl⟩, fun j hj => ⟨⟨_, (cell_of_row w g (o + j) _ _ _ h5).trans (Array.getElem?_eq_getElem (show o + j < cur.size by have : j < m := hj; omega))⟩, frozen_of_row w g (o + j) _ _ h5⟩, by show m ≤ _; omega, ⟨cur, _, h5⟩, h4⟩
  exact ⟨rfl, cs', _, h.f hc k1 ⟨_, k2 _ rfl rfl rfl hr (fun t ht => apart_new (h.lim 0 t ht) h2)⟩ (lim_snoc h.lim hH (Or.inr h3)) (hno _), k1⟩
theorem keep_i {w0 : World} {B base V cV J cJ : Nat} {zs xs : List Int} {w : World} {cs : Nat → Value} {L : Nat → List Lst} {H H' : Nat} (hc : Cc w0 B base V J) (h : Cs w0 B base V cV J cJ zs xs w cs L H) (ao : Option Addr) (m : Nat) (bs : List Int) (hb : Tn w base cs ao bs) (hbl : bs.length = m) (hp : Pe w base cs 3 ao m H H') (hm : m ≤ 100000) (hH : H ≤ H') (hL : (L 1).length ≤ 1000) :
  Calls Tryz.prog 20 #[.pointer (some ⟨B, 0, none⟩), .slice ao m m] w fun en w' => en = .returned (.tuple #[]) ∧ ∃ cs' s, Cs w0 B base V cV J cJ zs xs w' cs' (lsn L 1 [s]) H' ∧ Kfr w w' B base cs cs' := by
 obtain ⟨ys, hk⟩ := h.k
 refine (kst_ints kds_ok hk rfl rfl ao m m bs hb hbl hm (by omega)).mono ?_
 rintro en w' ⟨rfl, cs', y, k1, k2, k3⟩
 have hno : ∀ s : Lst, ∀ i, i ≠ 0 → i ≠ 1 → i ≠ 3 → lsn L 1 [s] i = [] := fun s i h2 h3 h4 => by rw [lsn_far _ _ h3]; exact h.no i h2 h3 h4
 rcases Nat.eq_zero_or_pos m with h0 | h0
 ·subst h0
  obtain ⟨s, _, k4, hs⟩ := k3 rfl rfl
  exact ⟨rfl, cs', s, h.f hc k1 ⟨_, hs⟩ (lim_snoc h.lim hH (Or.inl k4)) (hno s), k1⟩
 ·obtain ⟨g, o, rfl, h2, h3, h4, cur, h5, h6⟩ := hp.at' h0
  have hr : Rdy w base cs 1 3 ⟨.slice (some ⟨g, o, none⟩) m m, g, o, m, m, m, m⟩ := ⟨⟨Nat.le_refl _, by simp, by simp, by show m ≤ _; omega, by show m ≤ _; omega, _, rfl, fun _ => rfl⟩, fun j hj => ⟨⟨_, (cell_of_row w g (o + j) _ _ _ h5).trans (Array.getElem?_eq_getElem (show o + j < cur.size by have : j < m := hj; omega))⟩, frozen_of_row w g (o + j) _ _ h5⟩, by show m ≤ _; omega, ⟨cur, _, h5⟩, h4⟩
  exact ⟨rfl, cs', _, h.f hc k1 ⟨_, k2 _ rfl rfl rfl hr (fun t ht => apart_new (h.lim 1 t ht) h2)⟩ (lim_snoc h.lim hH (Or.inr h3)) (hno _), k1⟩
def pls (gf : Nat → Nat) (zs : List Int) (n : Nat) : List Lst := (List.range n).map fun j => ⟨.slice (some ⟨gf j, 0, none⟩) (pc zs j).length (pc zs j).length, gf j, 0, (pc zs j).length, (pc zs j).length, (pc zs j).length, (pc zs j).length⟩
theorem pls_get {gf : Nat → Nat} {zs : List Int} {n j : Nat} (h : j < n) : (pls gf zs n)[j]? = some ⟨.slice (some ⟨gf j, 0, none⟩) (pc zs j).length (pc zs j).length, gf j, 0, (pc zs j).length, (pc zs j).length, (pc zs j).length, (pc zs j).length⟩ := by simp [pls, h]
theorem pls_mem {gf : Nat → Nat} {zs : List Int} {n : Nat} {s : Lst} (h : s ∈ pls gf zs n) : ∃ j, j < n ∧ s = ⟨.slice (some ⟨gf j, 0, none⟩) (pc zs j).length (pc zs j).length, gf j, 0, (pc zs j).length, (pc zs j).length, (pc zs j).length, (pc zs j).length⟩ := by
 obtain ⟨j, hj, rfl⟩ := List.mem_map.1 h
 exact ⟨j, List.mem_range.1 hj, rfl⟩
theorem keep_p {w0 : World} {B base V cV J cJ : Nat} {zs xs : List Int} {w : World} {cs : Nat → Value} {L : Nat → List Lst} {H P n : Nat} (hc : Cc w0 B base V J) (h : Cs w0 B base V cV J cJ zs xs w cs L H) (hbt : Bt zs) (hp : Pq w P n n H zs) (hPH : H ≤ P) (hf : ∀ d, H ≤ d → d < w.heap.size → Fre base cs d) (hn : n ≤ 65) (hL : (L 0).length ≤ 1000) (hL3 : (L 3).length ≤ 1000) :
  Calls Tryz.prog 10 #[.pointer (some ⟨B, 0, none⟩), .slice (some ⟨P, 0, none⟩) n n] w fun en w' => en = .returned (.tuple #[]) ∧ ∃ cs' D s, D.length = n ∧ Cs w0 B base V cV J cJ zs xs w' cs' (lsn (lsn L 0 D) 3 [s]) w.heap.size ∧ Kfr w w' B base cs cs' := by
 obtain ⟨ys, hk⟩ := h.k
 have hPl := hp.lt
 obtain ⟨cur, gf, h1, h2, h3, h4⟩ := hp.ex
 have hcell : ∀ j, j < n → w.cell? ⟨P, j, none⟩ = some (.slice (some ⟨gf j, 0, none⟩) (pc zs j).length (pc zs j).length) := fun j hj => (cell_of_row w P j _ _ _ h1).trans (h3 j hj).1
 have hpl : ∀ j, (pc zs j).length ≤ 4085 := fun j => by rw [pc_len]; omega
 have htl : Tl w base cs (some ⟨P, 0, none⟩) (pcs zs n) := ⟨fun i hi => by
  rw [pcs_len] at hi
  obtain ⟨k1, k2, k3, k4⟩ := h3 i hi
  have := hpl i
  exact ⟨P, 0, _, _, _, rfl, by rw [Nat.zero_add]; exact hcell i hi, ⟨by rw [pcs_get zs n i hi]; exact k4.all _ _ rfl, fun ad e _ => by obtain rfl := Option.some.inj e; exact hf _ k2 k4.lt⟩, Nat.le_refl _, by omega, hf P hPH hPl⟩⟩
 have hno : ∀ (D : List Lst) (s : Lst), ∀ i, i ≠ 0 → i ≠ 1 → i ≠ 3 → lsn (lsn L 0 D) 3 [s] i = [] := fun D s i h2 h3 h4 => by rw [lsn_far _ _ h4, lsn_far _ _ h2]; exact h.no i h2 h3 h4
 have hHw : H ≤ w.heap.size := by omega
 have hlim : ∀ s : Lst, (s.C = 0 ∨ s.g < w.heap.size) → ∀ i, ∀ t ∈ lsn (lsn L 0 (pls gf zs n)) 3 [s] i, t.C = 0 ∨ t.g < w.heap.size := fun s hs => lim_snoc (H := w.heap.size) (fun i t ht => by
  unfold lsn at ht
  split at ht
  ·rcases List.mem_append.1 ht with h5 | h5
   ·rcases h.lim _ t h5 with a | a
    ·exact Or.inl a
    ·exact Or.inr (by omega)
   ·obtain ⟨j, hj, rfl⟩ := pls_mem h5
    exact Or.inr (h3 j hj).2.2.2.lt
  ·rcases h.lim _ t ht with a | a
   ·exact Or.inl a
   ·exact Or.inr (by omega)) (Nat.le_refl _) hs
 refine (kst_lists kds_ok hk rfl rfl (fun _ _ _ => .nilIface) rfl rfl (some ⟨P, 0, none⟩) n n (pcs zs n) (pls gf zs n) htl (fun z hz => by
  unfold pcs at hz
  obtain ⟨i, _, rfl⟩ := List.mem_map.1 hz
  exact pc_bt hbt i) (pcs_len zs n) (by omega) (fun z hz => by
  unfold pcs at hz
  obtain ⟨i, _, rfl⟩ := List.mem_map.1 hz
  have := hpl i
  omega) (by simp [pls]) (fun i hi => ⟨P, 0, _, rfl, pls_get hi, by rw [Nat.zero_add]; exact hcell i hi⟩) (fun s hs => ?_) ?_ (fun t ht s hs => ?_) (by omega) (by omega)).mono ?_
 ·obtain ⟨j, hj, rfl⟩ := pls_mem hs
  obtain ⟨k1, k2, k3, k4⟩ := h3 j hj
  have := hpl j
  have hsz : (((pc zs j).map (Value.int .u8)).toArray).size = (pc zs j).length := by simp
  exact ⟨⟨Nat.le_refl _, by simp, by simp, by show (pc zs j).length ≤ _; omega, by show (pc zs j).length ≤ _; omega, _, rfl, fun _ => rfl⟩, fun i hi => ⟨⟨_, by rw [Nat.zero_add]; exact (cell_of_row w (gf j) i _ _ _ k4).trans (Array.getElem?_eq_getElem (show i < _ by rw [hsz]; exact hi))⟩, by rw [Nat.zero_add]; exact frozen_of_row w (gf j) i _ _ k4⟩, by show (pc zs j).length ≤ _; omega, ⟨_, _, k4⟩, hf _ k2 k4.lt⟩
 ·rw [List.pairwise_iff_getElem]
  intro i j hi hj hij
  simp only [pls, List.getElem_map, List.getElem_range]
  simp only [pls, List.length_map, List.length_range] at hi hj
  have := h4 i j hij hj
  intro a b _ _ e
  injection e with e1
  simp only at e1
  omega
 ·obtain ⟨j, hj, rfl⟩ := pls_mem hs
  exact apart_new (h.lim 0 t ht) (h3 j hj).2.1
 ·rintro en w' ⟨rfl, cs', YY, y, k1, k2, k3⟩
  rcases Nat.eq_zero_or_pos n with h0 | h0
  ·subst h0
   obtain ⟨s, _, k4, hs⟩ := k3 rfl rfl
   exact ⟨rfl, cs', pls gf zs 0, s, by simp [pls], h.f hc k1 ⟨_, hs⟩ (hlim s (Or.inl k4)) (hno _ s), k1⟩
  ·have hr : Rdy w base cs 1 22 ⟨.slice (some ⟨P, 0, none⟩) n n, P, 0, n, n, n, n⟩ := ⟨⟨Nat.le_refl _, by simp, by simp, by show n ≤ _; omega, by show n ≤ _; omega, _, rfl, fun _ => rfl⟩, fun j hj => ⟨⟨_, by rw [Nat.zero_add]; exact (cell_of_row w P j _ _ _ h1).trans (Array.getElem?_eq_getElem (show j < cur.size by have : j < n := hj; omega))⟩, by rw [Nat.zero_add]; exact frozen_of_row w P j _ _ h1⟩, by show n ≤ _; omega, ⟨cur, _, h1⟩, hf P hPH hPl⟩
   exact ⟨rfl, cs', pls gf zs n, _, by simp [pls], h.f hc k1 ⟨_, k2 _ rfl rfl rfl hr (fun t ht => apart_new (h.lim 3 t (by rw [lsn_far _ _ (by omega)] at ht; exact ht)) hPH)⟩ (hlim _ (Or.inr hPl)) (hno _ _), k1⟩
theorem oD_le (x : Int) (zs : List Int) (h : zs.length ≤ 4085) : (oD x zs).length ≤ 4092 := by
 by_cases e : eD x zs.length = 0
 ·rw [oD_yes e, dB_len h]; omega
 ·rw [oD_no e]; simp
theorem oL_le (x : Int) (xs : List Int) (h : xs.length ≤ 1021) : (oL x xs).length ≤ 4092 := by
 by_cases e : eL x xs = 0
 ·rw [oL_yes e, lB_len h]; omega
 ·rw [oL_no e]; simp
theorem pe_rw {w w' : World} {base : Nat} {cs : Nat → Value} {bo : Option Addr} {m : Nat} {A : List Int} (hb : Byt w' bo m m A) (hn : 0 < m → ∃ g, bo = some ⟨g, 0, none⟩ ∧ w.heap.size ≤ g ∧ Rw w' g A) (hf : ∀ d, w.heap.size ≤ d → Fre base cs d) : Tb w' base cs bo m m A ∧ Pe w' base cs 5 bo m w.heap.size w'.heap.size := by
 refine ⟨⟨hb, fun ad e h0 => ?_⟩, ⟨fun h0 => ?_⟩⟩
 ·obtain ⟨g, e1, e2, _⟩ := hn h0
  rw [e1] at e
  obtain rfl := Option.some.inj e
  exact hf _ e2
 ·obtain ⟨g, e1, e2, e3⟩ := hn h0
  exact ⟨g, 0, e1, e2, e3.lt, hf _ e2, _, e3, by have := hb.len; simp; omega⟩
theorem pe_data {w w' : World} {base : Nat} {cs : Nat → Value} {bo : Option Addr} {m : Nat} {A : List Int} (hb : Byt w' bo m m A) (hn : 0 < m → bo = some ⟨w.heap.size, 7, none⟩ ∧ ∃ cur, w'.heap[w.heap.size]? = some (.cells cur 5 (0, 0))) (hf : ∀ d, w.heap.size ≤ d → Fre base cs d) : Tb w' base cs bo m m A ∧ Pe w' base cs 5 bo m w.heap.size w'.heap.size := by
 refine ⟨⟨hb, fun ad e h0 => ?_⟩, ⟨fun h0 => ?_⟩⟩
 ·obtain ⟨e1, _⟩ := hn h0
  rw [e1] at e
  obtain rfl := Option.some.inj e
  exact hf _ (Nat.le_refl _)
 ·obtain ⟨rfl, cur, e3⟩ := hn h0
  refine ⟨w.heap.size, 7, rfl, Nat.le_refl _, (Array.getElem?_eq_some_iff.1 e3).1, hf _ (Nat.le_refl _), cur, e3, ?_⟩
  rcases cell_size e3 hb with h | h
  ·exact h
  ·omega
theorem pe_ints {w w' : World} {base : Nat} {cs : Nat → Value} {bo : Option Addr} {m : Nat} {A : List Int} (hb : Nt w' bo A) (hl : A.length = m) (hn : bo ≠ none → ∃ g, bo = some ⟨g, 0, none⟩ ∧ w.heap.size ≤ g ∧ Ri w' g A) (hf : ∀ d, w.heap.size ≤ d → Fre base cs d) : Tn w' base cs bo A ∧ Pe w' base cs 3 bo m w.heap.size w'.heap.size := by
 refine ⟨⟨fun i hi => ?_⟩, ⟨fun h0 => ?_⟩⟩
 ·obtain ⟨b, off, e1, e2⟩ := hb.row i hi
  obtain ⟨g, e3, e4, _⟩ := hn (by rw [e1]; simp)
  refine ⟨b, off, e1, e2, ?_⟩
  rw [e1] at e3
  injection e3 with e3
  injection e3 with e5
  rw [e5]; exact hf _ e4
 ·obtain ⟨b, off, e1, _⟩ := hb.row 0 (by omega)
  obtain ⟨g, e3, e4, e5⟩ := hn (by rw [e1]; simp)
  exact ⟨g, 0, e3, e4, e5.lt, hf _ e4, _, e5, by simp; omega⟩
structure Wx (w : World) (base : Nat) (cs : Nat → Value) (X cX : Nat) (bs : List Int) : Prop where
 o : Ow w X cX bs
 f : Fre base cs X
theorem Wx.kee {w w' : World} {base : Nat} {cs cs' : Nat → Value} {X cX : Nat} {bs : List Int} (h : Wx w base cs X cX bs) (k : Kee w w' base cs cs') : Wx w' base cs' X cX bs :=
 ⟨h.o.same (k.block X h.o.lt h.f).1, (k.block X h.o.lt h.f).2⟩
theorem Wx.n {w w' : World} {base : Nat} {cs : Nat → Value} {X cX : Nat} {bs : List Int} (h : Wx w base cs X cX bs) (hg : w.grownBy w' none) : Wx w' base cs X cX bs := h.kee (Kfr.of (B := 0) hg).toKee
end Go.Proofs.YtmbbflfknldaoaaGreatDoor
