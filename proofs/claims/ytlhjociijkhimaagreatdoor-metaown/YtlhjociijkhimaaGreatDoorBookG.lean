import Derived.Test.YtlhjociijkhimaaGreatDoorBookF
import Derived.Deep.RegionLawGrows
namespace Go.Proofs.YtlhjociijkhimaaGreatDoor
open Go.RowKit

/-- The lists, and what they were grown to: list k by tn k places, in its own room or in a new block (at base or behind it). -/
structure Gn (I : World → Prop) (w : World) (B : Nat) (ps : Int) (vb vw vg : Value) (r c base : Nat) (L M : List Sl) (tn : Nat → Nat) : Prop where
  inv : I w
  box : Box w B 0 ps vb vw vg
  bc : Bc w B ps vb r c L
  own : w.ownsRow base 41 1 vg M.length (M.map Sl.v)
  old : ∀ s ∈ L, s.g < base
  rB : r < base ∧ B < base ∧ base ≤ w.heap.size ∧ M.length ≤ L.length
  each : ∀ (k : Nat) (m : Sl), M[k]? = some m → m.Ok ∧ m.There w ∧ some m.g ≠ vg.ownBlock ∧ ∃ s, L[k]? = some s ∧ m.n = s.n + tn k ∧ ((base ≤ m.g ∧ m.g < w.heap.size) ∨ (m.g = s.g ∧ m.o = s.o ∧ m.c = s.c))
  dif : ∀ (k l : Nat) (m m' : Sl), M[k]? = some m → M[l]? = some m' → k ≠ l → base ≤ m.g → m.g ≠ m'.g
  lm : ∀ (k : Nat) (s : Sl), L[k]? = some s → s.Shows w (mark ps (0 + k + 1))
  mm : ∀ (k : Nat) (m : Sl), M[k]? = some m → m.Shows w (mark ps (0 + k + 1))

theorem Gn.gB {I : World → Prop} {w : World} {B : Nat} {ps : Int} {vb vw vg : Value} {r c base : Nat} {L M : List Sl} {tn : Nat → Nat} (h : Gn I w B ps vb vw vg r c base L M tn) {k : Nat} {m : Sl} (hm : M[k]? = some m) : m.g ≠ B ∧ m.g ≠ r := by
  obtain ⟨_, _, _, s, hs, _, hc⟩ := h.each k m hm
  have h1 := h.rB
  rcases hc with ⟨h2, _⟩ | ⟨h2, _, _⟩
  · omega
  · have := (h.bc.ok s (List.mem_of_getElem? hs)).2.2
    rw [h2]; exact this

theorem Gn.vgB {I : World → Prop} {w : World} {B : Nat} {ps : Int} {vb vw vg : Value} {r c base : Nat} {L M : List Sl} {tn : Nat → Nat} (h : Gn I w B ps vb vw vg r c base L M tn) : ∀ i, vg.ownBlock = some i → base ≤ i ∧ i < w.heap.size := fun i e => h.own.lt i e

theorem Bc.kept {w w' : World} {B : Nat} {ps : Int} {vb : Value} {r c : Nat} {L : List Sl} {row : Option Nat} (h : Bc w B ps vb r c L) (hg : w.grownBy w' row) (h1 : some B ≠ row) (h2 : some r ≠ row) (h3 : ∀ s ∈ L, some s.g ≠ row) : Bc w' B ps vb r c L :=
  ⟨hg.cell h.pass h1, hg.cell h.lists h1, h.row.kept hg h2, fun s hs => ⟨(h.ok s hs).1, (h.ok s hs).2.1.kept hg (h3 s hs), (h.ok s hs).2.2⟩, h.apart, h.many⟩

/-- Behind memory that is none of the lists' nor the row's: new blocks, or cell 4 of the book. -/
theorem Bc.setB {w : World} {B : Nat} {ps : Int} {vb : Value} {r c : Nat} {L : List Sl} (h : Bc w B ps vb r c L) (i : Nat) (u : Value) (hi : 4 ≤ i) (hr : r ≠ B) : Bc (w.setCell ⟨B, i, none⟩ u) B ps vb r c L := by
  refine ⟨?_, ?_, h.row.set _ _ (by simpa using (Ne.symm hr)), fun t ht => ?_, h.apart, h.many⟩
  · rw [World.cell?_setCell_other _ _ _ _ (ne_off (by omega))]; exact h.pass
  · rw [World.cell?_setCell_other _ _ _ _ (ne_off (by omega))]; exact h.lists
  · obtain ⟨a1, a2, a3, a4⟩ := h.ok t ht
    exact ⟨a1, a2.set _ _, a3, a4⟩

/-- One entry more in the grown row: the list itself. -/
theorem Gn.enter {I : World → Prop} {w w1 : World} {B : Nat} {ps : Int} {vb vw vg vg' : Value} {r c base : Nat} {L M : List Sl} {tn : Nat → Nat} (h : Gn I w B ps vb vw vg r c base L M tn) (o : Obj) {s : Sl} (hs : L[M.length]? = some s) (ht : tn M.length = 0)
    (hIg : ∀ w w' row, I w → w.grownBy w' row → (∀ i, row = some i → i = B ∨ base ≤ i) → I w')
    (hg : (w.alloc o).grownBy w1 vg.ownBlock) (hown : w1.ownsRow base 41 1 vg' (M.length + 1) (M.map Sl.v ++ [s.v])) (hat : vg'.ownBlock = vg.ownBlock ∨ ∃ i, vg'.ownBlock = some i ∧ w.heap.size < i) (hrB : r ≠ B) :
    Gn I (w1.setCell ⟨B, 4, none⟩ vg') B ps vb vw vg' r c base L (M ++ [s]) tn := by
  have hrb := h.rB
  have hvg := h.vgB
  have hal : w.grownBy (w.alloc o) none := World.grownBy_alloc _ _ none
  have hset := grown_set w1 B 4 vg'
  have nvB : some B ≠ vg.ownBlock := fun e => by have := hvg B e.symm; omega
  have nvr : some r ≠ vg.ownBlock := fun e => by have := hvg r e.symm; omega
  have nvs : ∀ t ∈ L, some t.g ≠ vg.ownBlock := fun t ht e => by have := hvg _ e.symm; have := h.old t ht; omega
  have hsz : w.heap.size < w1.heap.size := by have := hg.size; simp at this; omega
  have hvB : vg'.ownBlock ≠ some B := fun e => by
    rcases hat with h1 | ⟨i, h1, h2⟩
    · exact nvB (by rw [← h1, e])
    · rw [h1] at e; have := Option.some.inj e; omega
  have hsL : s ∈ L := List.mem_of_getElem? hs
  have hso := h.bc.ok s hsL
  have hsB : ∀ t ∈ L, t.g ≠ B := fun t ht => (h.bc.ok t ht).2.2.1
  have hbc := ((h.bc.kept hal (by simp) (by simp) (by simp)).kept hg nvB nvr nvs)
  have hget : ∀ (k : Nat) (m : Sl), (M ++ [s])[k]? = some m → (M[k]? = some m ∧ k < M.length) ∨ (k = M.length ∧ m = s) := by
    intro k m hm
    rcases Nat.lt_or_ge k M.length with hk | hk
    · rw [List.getElem?_append_left hk] at hm; exact Or.inl ⟨hm, hk⟩
    · rw [List.getElem?_append_right hk] at hm
      right
      have : k - M.length = 0 := by
        rcases Nat.eq_zero_or_pos (k - M.length) with h0 | h0
        · exact h0
        · rw [List.getElem?_eq_none (by simp; omega)] at hm; cases hm
      rw [this] at hm
      simp at hm
      exact ⟨by omega, hm.symm⟩
  have hnew : ∀ (m : Sl), m.g < w.heap.size → some m.g ≠ vg.ownBlock → some m.g ≠ vg'.ownBlock := by
    intro m h1 h2 e
    rcases hat with h3 | ⟨i, h3, h4⟩
    · exact h2 (by rw [e, h3])
    · rw [h3] at e; have := Option.some.inj e; omega
  refine ⟨?_, ?_, hbc.setB 4 _ (by omega) hrB, ?_, h.old, ?_, ?_, ?_, ?_, ?_⟩
  · exact hIg _ _ (some B) (hIg _ _ vg.ownBlock (hIg _ _ none h.inv hal (by simp)) hg (fun i e => Or.inr (hvg i e).1)) hset (fun i e => Or.inl (Option.some.inj e).symm)
  · exact ((h.box.kept hal (by simp)).kept hg nvB).set4 vg'
  · have := hown.kept hset (Or.inr hvB)
    rwa [List.length_append, List.map_append]
  · have := hset.size
    refine ⟨hrb.1, hrb.2.1, by omega, ?_⟩
    have := (List.getElem?_eq_some_iff.1 hs).1
    simp; omega
  · intro k m hm
    rcases hget k m hm with ⟨hk, hlt⟩ | ⟨rfl, rfl⟩
    · obtain ⟨a1, a2, a3, t, a4, a5, a6⟩ := h.each k m hk
      have hB := (h.gB hk).1
      have hlt' : m.g < w.heap.size := by
        rcases a6 with a6 | a6
        · exact a6.2
        · have := h.old t (List.mem_of_getElem? a4); omega
      refine ⟨a1, (((a2.kept hal (by simp)).kept hg a3).set _ _), hnew m hlt' a3, t, a4, a5, ?_⟩
      rcases a6 with a6 | a6
      · left; have := hset.size; omega
      · exact Or.inr a6
    · have hlt' : m.g < w.heap.size := by have := h.old m hsL; omega
      exact ⟨hso.1, (((hso.2.1.kept hal (by simp)).kept hg (nvs m hsL)).set _ _), hnew m hlt' (nvs m hsL), m, hs, by omega, Or.inr ⟨rfl, rfl, rfl⟩⟩
  · intro k l m m' hm hm' hkl hb
    rcases hget k m hm with ⟨hk, _⟩ | ⟨rfl, rfl⟩
    · rcases hget l m' hm' with ⟨hl, _⟩ | ⟨rfl, rfl⟩
      · exact h.dif k l m m' hk hl hkl hb
      · have := h.old m' hsL; omega
    · have := h.old m hsL; omega
  · intro k t hkt
    exact ((((h.lm k t hkt).kept hal (by simp)).kept hg (nvs t (List.mem_of_getElem? hkt))).kept hset (by have := hsB t (List.mem_of_getElem? hkt); simp; exact this))
  · intro k m hm
    rcases hget k m hm with ⟨hk, _⟩ | ⟨rfl, rfl⟩
    · exact ((((h.mm k m hk).kept hal (by simp)).kept hg (h.each k m hk).2.2.1).kept hset (by have := (h.gB hk).1; simp; exact this))
    · exact ((((h.lm M.length m hs).kept hal (by simp)).kept hg (nvs m hsL)).kept hset (by have := hsB m hsL; simp; exact this))

theorem Gn.more {I : World → Prop} {w w' : World} {B : Nat} {ps : Int} {vb vw vg : Value} {r c base : Nat} {L M : List Sl} {tn : Nat → Nat} (h : Gn I w B ps vb vw vg r c base L M tn)
    (hIg : ∀ w w' row, I w → w.grownBy w' row → (∀ i, row = some i → i = B ∨ base ≤ i) → I w') (hg : w.grownBy w' none) : Gn I w' B ps vb vw vg r c base L M tn := by
  have hrb := h.rB
  have hsz := hg.size
  refine ⟨hIg _ _ none h.inv hg (by simp), h.box.kept hg (by simp), h.bc.kept hg (by simp) (by simp) (by simp), h.own.kept hg (by cases vg.ownBlock <;> simp), h.old, ⟨hrb.1, hrb.2.1, by omega, hrb.2.2.2⟩, fun k m hm => ?_, h.dif, fun k t hk => (h.lm k t hk).kept hg (by simp), fun k m hm => (h.mm k m hm).kept hg (by simp)⟩
  obtain ⟨a1, a2, a3, t, a4, a5, a6⟩ := h.each k m hm
  refine ⟨a1, a2.kept hg (by simp), a3, t, a4, a5, ?_⟩
  rcases a6 with a6 | a6
  · left; omega
  · exact Or.inr a6

/-- What is known of a list that has just been grown by one, ahead of its being laid into the row. -/
structure Mf (w : World) (vg : Value) (base : Nat) (L M : List Sl) (tn : Nat → Nat) (ps : Int) (i : Nat) (m' : Sl) : Prop where
  ok : m'.Ok
  there : m'.There w
  shows : m'.Shows w (mark ps (0 + i + 1))
  nv : some m'.g ≠ vg.ownBlock
  reg : ∃ s, L[i]? = some s ∧ m'.n = s.n + (tn i + 1) ∧ ((base ≤ m'.g ∧ m'.g < w.heap.size) ∨ (m'.g = s.g ∧ m'.o = s.o ∧ m'.c = s.c))
  dif1 : ∀ (l : Nat) (m2 : Sl), M[l]? = some m2 → l ≠ i → base ≤ m'.g → m'.g ≠ m2.g
  dif2 : ∀ (l : Nat) (m2 : Sl), M[l]? = some m2 → l ≠ i → base ≤ m2.g → m2.g ≠ m'.g

theorem Gn.put {I : World → Prop} {w : World} {B : Nat} {ps : Int} {vb vw : Value} {rg cg r c base : Nat} {L M : List Sl} {tn : Nat → Nat} {i : Nat} {m' : Sl}
    (h : Gn I w B ps vb vw (.slice (some ⟨rg, 0, none⟩) M.length cg) r c base L M tn) (hf : Mf w (.slice (some ⟨rg, 0, none⟩) M.length cg) base L M tn ps i m') (hi : i < M.length)
    (hIg : ∀ w w' row, I w → w.grownBy w' row → (∀ i, row = some i → i = B ∨ base ≤ i) → I w') :
    Gn I (w.setCell ⟨rg, i, none⟩ m'.v) B ps vb vw (.slice (some ⟨rg, 0, none⟩) M.length cg) r c base L (M.set i m') (fun k => if k = i then tn k + 1 else tn k) := by
  obtain ⟨ho, hg⟩ := h.own.stored i m'.v
  have hrb := h.rB
  have hrg := (h.vgB rg rfl).1
  have hs : ∀ t ∈ L, some t.g ≠ some rg := fun t ht e => by have := h.old t ht; have := Option.some.inj e; omega
  have hget : ∀ (k : Nat) (m : Sl), (M.set i m')[k]? = some m → (k = i ∧ m = m') ∨ (k ≠ i ∧ M[k]? = some m) := by
    intro k m hm
    by_cases e : k = i
    · subst e
      rw [List.getElem?_set_self hi] at hm
      exact Or.inl ⟨rfl, (Option.some.inj hm).symm⟩
    · rw [List.getElem?_set_ne (fun e' => e e'.symm)] at hm
      exact Or.inr ⟨e, hm⟩
  refine ⟨hIg _ _ _ h.inv hg (fun j e => Or.inr (by rw [← Option.some.inj e]; exact hrg)), h.box.kept hg (by simp; omega), h.bc.kept hg (by simp; omega) (by simp; omega) hs, ?_, h.old, ⟨hrb.1, hrb.2.1, by have := hg.size; omega, by simpa using hrb.2.2.2⟩, fun k m hm => ?_, fun k l m m2 hm hm2 hkl hb => ?_, fun k t hk => (h.lm k t hk).kept hg (hs t (List.mem_of_getElem? hk)), fun k m hm => ?_⟩
  · rw [List.length_set, List.map_set]; exact ho
  · rcases hget k m hm with ⟨rfl, rfl⟩ | ⟨hk, hm⟩
    · obtain ⟨t, a4, a5, a6⟩ := hf.reg
      refine ⟨hf.ok, hf.there.kept hg hf.nv, hf.nv, t, a4, by simp [a5], ?_⟩
      rcases a6 with a6 | a6
      · left; have := hg.size; omega
      · exact Or.inr a6
    · obtain ⟨a1, a2, a3, t, a4, a5, a6⟩ := h.each k m hm
      refine ⟨a1, a2.kept hg a3, a3, t, a4, by simp [hk, a5], ?_⟩
      rcases a6 with a6 | a6
      · left; have := hg.size; omega
      · exact Or.inr a6
  · rcases hget k m hm with ⟨rfl, rfl⟩ | ⟨hk, hm1⟩
    · rcases hget l m2 hm2 with ⟨rfl, _⟩ | ⟨hl, hm3⟩
      · omega
      · exact hf.dif1 l m2 hm3 hl hb
    · rcases hget l m2 hm2 with ⟨rfl, rfl⟩ | ⟨hl, hm3⟩
      · exact hf.dif2 k m hm1 hk hb
      · exact h.dif k l m m2 hm1 hm3 hkl hb
  · rcases hget k m hm with ⟨rfl, rfl⟩ | ⟨hk, hm⟩
    · exact hf.shows.kept hg hf.nv
    · exact (h.mm k m hm).kept hg (h.each k m hm).2.2.1

theorem owns_le {w : World} {base g n c : Nat} {xs : List Value} (h : w.ownsRow base 5 1 (.slice (some ⟨g, 0, none⟩) n c) n xs) : n ≤ c ∧ c ≤ 9223372036854775807 := by
  rcases h.2 with ⟨h', _⟩ | ⟨g', cap', cur, h', _, _, hnc, hcm, _⟩
  · simp at h'
  · simp only [Value.slice.injEq, Option.some.injEq, Addr.mk.injEq, and_true, true_and] at h'
    obtain ⟨_, rfl⟩ := h'
    unfold maxLen at hcm
    exact ⟨hnc, by omega⟩

theorem owns_there {w : World} {base g n c : Nat} {xs : List Value} (h : w.ownsRow base 5 1 (.slice (some ⟨g, 0, none⟩) n c) n xs) (j : Nat) (hj : j < c) : ∃ u, w.cell? ⟨g, j, none⟩ = some u := by
  rcases h.2 with ⟨h', _⟩ | ⟨g', cap', cur, h', _, hgg, _, _, hcs, _⟩
  · simp at h'
  · simp only [Value.slice.injEq, Option.some.injEq, Addr.mk.injEq, and_true, true_and] at h'
    obtain ⟨rfl, rfl⟩ := h'
    exact ⟨cur[j]'(by omega), by rw [cell_of_row w g j _ _ _ hgg]; simp⟩

/-- The list grows in its own room. -/
theorem Gn.room {I : World → Prop} {w : World} {B : Nat} {ps : Int} {vb vw vg : Value} {r c base : Nat} {L M : List Sl} {tn : Nat → Nat} {i : Nat} {m : Sl} (h : Gn I w B ps vb vw vg r c base L M tn) (hm : M[i]? = some m) (hroom : m.n < m.c) (hbd : m.n + 1 ≤ 1099511627776)
    (hIg : ∀ w w' row, I w → w.grownBy w' row → (∀ i, row = some i → i = B ∨ base ≤ i) → I w') (hIs : ∀ w s j v, s ∈ L → j < s.c → I w → I (w.setCell ⟨s.g, s.o + j, none⟩ v)) :
    Gn I (w.setCell ⟨m.g, m.o + m.n, none⟩ (.int .u8 (mark ps (0 + i + 1) m.n))) B ps vb vw vg r c base L M tn ∧
    Mf (w.setCell ⟨m.g, m.o + m.n, none⟩ (.int .u8 (mark ps (0 + i + 1) m.n))) vg base L M tn ps i ⟨.slice (some ⟨m.g, m.o, none⟩) (m.n + 1) m.c, m.g, m.o, m.n + 1, m.c⟩ := by
  obtain ⟨a1, a2, a3, s, a4, a5, a6⟩ := h.each i m hm
  have hrb := h.rB
  have hsL := List.mem_of_getElem? a4
  obtain ⟨gB, gr⟩ := h.gB hm
  have hg : w.grownBy (w.setCell ⟨m.g, m.o + m.n, none⟩ (.int .u8 (mark ps (0 + i + 1) m.n))) (some m.g) := grown_set _ _ _ _
  obtain ⟨⟨u0, hu0⟩, _⟩ := a2 m.n hroom
  have hmx := a1.cmax
  -- the place is none that another list shows
  have farL : ∀ (k : Nat) (t : Sl), L[k]? = some t → ∀ j, j < t.n → (⟨m.g, m.o + m.n, none⟩ : Addr) ≠ ⟨t.g, t.o + j, none⟩ := by
    intro k t hk j hj e
    have hto := (h.bc.ok t (List.mem_of_getElem? hk)).1
    have htle := hto.le
    have htold := h.old t (List.mem_of_getElem? hk)
    injection e with e1 e2
    rcases a6 with a6 | ⟨b1, b2, b3⟩
    · omega
    · by_cases hki : k = i
      · subst hki
        have : t = s := by rw [a4] at hk; exact (Option.some.inj hk).symm
        subst this
        omega
      · have := pair_at h.bc.apart a4 hk (by omega) m.n j (by omega) (by omega)
        exact this (by rw [← b1, ← b2, e1, e2])
  have farM : ∀ (k : Nat) (m2 : Sl), M[k]? = some m2 → k ≠ i → ∀ j, j < m2.n → (⟨m.g, m.o + m.n, none⟩ : Addr) ≠ ⟨m2.g, m2.o + j, none⟩ := by
    intro k m2 hk hki j hj e
    obtain ⟨c1, c2, c3, t, c4, c5, c6⟩ := h.each k m2 hk
    have hle := c1.le
    injection e with e1 e2
    rcases a6 with a6 | ⟨b1, b2, b3⟩
    · exact h.dif i k m m2 hm hk (by omega) a6.1 e1
    · rcases c6 with c6 | ⟨d1, d2, d3⟩
      · exact h.dif k i m2 m hk hm hki c6.1 e1.symm
      · have := pair_at h.bc.apart a4 c4 (by omega) m.n j (by omega) (by omega)
        exact this (by rw [← b1, ← b2, ← d1, ← d2, e1, e2])
  have farI : ∀ j, j < m.n → (⟨m.g, m.o + m.n, none⟩ : Addr) ≠ ⟨m.g, m.o + j, none⟩ := fun j hj => ne_off (by omega)
  refine ⟨⟨?_, h.box.far _ _ gB, ?_, ?_, h.old, ⟨hrb.1, hrb.2.1, by have := hg.size; omega, hrb.2.2.2⟩, fun k m2 hk => ?_, h.dif, fun k t hk => (h.lm k t hk).far _ _ (farL k t hk), fun k m2 hk => ?_⟩, ?_⟩
  · rcases a6 with a6 | ⟨b1, b2, b3⟩
    · exact hIg _ _ _ h.inv hg (fun j e => Or.inr (by rw [← Option.some.inj e]; exact a6.1))
    · have := hIs w s m.n (.int .u8 (mark ps (0 + i + 1) m.n)) hsL (by omega) h.inv
      rw [b1, b2]; exact this
  · refine ⟨?_, ?_, h.bc.row.set _ _ gr, fun t ht => ?_, h.bc.apart, h.bc.many⟩
    · rw [World.cell?_setCell_other _ _ _ _ (fun e => gB (by injection e))]; exact h.bc.pass
    · rw [World.cell?_setCell_other _ _ _ _ (fun e => gB (by injection e))]; exact h.bc.lists
    · obtain ⟨d1, d2, d3⟩ := h.bc.ok t ht
      exact ⟨d1, d2.set _ _, d3⟩
  · exact h.own.kept hg (by cases hv : vg.ownBlock with
      | none => exact Or.inl rfl
      | some j => exact Or.inr (fun e => a3 (by rw [hv]; exact e.symm)))
  · obtain ⟨c1, c2, c3, t, c4, c5, c6⟩ := h.each k m2 hk
    refine ⟨c1, c2.set _ _, c3, t, c4, c5, ?_⟩
    rcases c6 with c6 | c6
    · left; have := hg.size; omega
    · exact Or.inr c6
  · by_cases hki : k = i
    · subst hki
      have : m2 = m := by rw [hm] at hk; exact (Option.some.inj hk).symm
      subst this
      exact (h.mm k m2 hk).far _ _ farI
    · exact (h.mm k m2 hk).far _ _ (farM k m2 hk hki)
  · refine ⟨⟨by simp; omega, hbd, hmx, _, rfl, fun _ => rfl⟩, a2.set _ _, fun j hj => ?_, a3, ⟨s, a4, by simp [a5]; omega, ?_⟩, fun l m2 hl hli hb => h.dif i l m m2 hm hl (by omega) hb, fun l m2 hl hli hb => h.dif l i m2 m hl hm hli hb⟩
    · by_cases e : j = m.n
      · subst e; exact World.cell?_setCell_same _ _ _ hu0
      · have hj' : j < m.n + 1 := hj
        show (w.setCell _ _).cell? ⟨m.g, m.o + j, none⟩ = _
        rw [World.cell?_setCell_other _ _ _ _ (farI j (by omega))]
        exact h.mm i m hm j (by omega)
    · rcases a6 with a6 | a6
      · left; have := hg.size; exact ⟨a6.1, by simp; omega⟩
      · exact Or.inr a6

/-- The list grows into a new block. -/
theorem Gn.full {I : World → Prop} {w w1 : World} {B : Nat} {ps : Int} {vb vw vg : Value} {r c base : Nat} {L M : List Sl} {tn : Nat → Nat} {i : Nat} {m : Sl} (h : Gn I w B ps vb vw vg r c base L M tn) (hm : M[i]? = some m) {g cap H : Nat}
    (hIg : ∀ w w' row, I w → w.grownBy w' row → (∀ i, row = some i → i = B ∨ base ≤ i) → I w') (hg : w.grownBy w1 none) (hH : w.heap.size ≤ H) (hbd : m.n + 1 ≤ 1099511627776)
    (hown : w1.ownsRow H 5 1 (.slice (some ⟨g, 0, none⟩) (m.n + 1) cap) (m.n + 1) (((List.range m.n).map fun j => Value.int .u8 (mark ps (0 + i + 1) j)) ++ [.int .u8 (mark ps (0 + i + 1) m.n)])) :
    Gn I w1 B ps vb vw vg r c base L M tn ∧ Mf w1 vg base L M tn ps i ⟨.slice (some ⟨g, 0, none⟩) (m.n + 1) cap, g, 0, m.n + 1, cap⟩ := by
  obtain ⟨a1, a2, a3, s, a4, a5, a6⟩ := h.each i m hm
  have hrb := h.rB
  have hlt := hown.lt g rfl
  obtain ⟨hcap, hmx⟩ := owns_le hown
  have hgl : ∀ (k : Nat) (m2 : Sl), M[k]? = some m2 → m2.g < w.heap.size := by
    intro k m2 hk
    obtain ⟨_, _, _, t, c4, _, c6⟩ := h.each k m2 hk
    rcases c6 with c6 | c6
    · exact c6.2
    · have := h.old t (List.mem_of_getElem? c4); omega
  refine ⟨h.more hIg hg, ⟨⟨hcap, hbd, hmx, _, rfl, fun _ => rfl⟩, fun j hj => ?_, fun j hj => ?_, fun e => ?_, ⟨s, a4, by simp [a5]; omega, Or.inl ⟨by simp; omega, hlt.2⟩⟩, fun l m2 hl hli hb e => ?_, fun l m2 hl hli hb e => ?_⟩⟩
  · show (∃ u, w1.cell? ⟨g, 0 + j, none⟩ = some u) ∧ w1.frozen? ⟨g, 0 + j, none⟩ = false
    rw [Nat.zero_add]
    exact ⟨owns_there hown j hj, hown.frozenAt j⟩
  · show w1.cell? ⟨g, 0 + j, none⟩ = _
    have hj' : j < m.n + 1 := hj
    rw [Nat.zero_add, hown.cellAt j (by omega)]
    by_cases e : j = m.n
    · subst e
      rw [List.getElem?_append_right (by simp)]; simp
    · rw [List.getElem?_append_left (by simp; omega), List.getElem?_map, List.getElem?_range (by omega)]; rfl
  · have e' : some g = vg.ownBlock := e
    have := (h.vgB g e'.symm).2
    omega
  · have e' : g = m2.g := e
    have := hgl l m2 hl; omega
  · have e' : m2.g = g := e
    have := hgl l m2 hl; omega
end Go.Proofs.YtlhjociijkhimaaGreatDoor
