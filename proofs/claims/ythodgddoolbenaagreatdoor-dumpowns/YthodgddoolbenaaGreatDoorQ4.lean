import Derived.Test.YthodgddoolbenaaGreatDoorQ3
import Derived.Laws.IdiomCopy
namespace Go.Proofs.YthodgddoolbenaaGreatDoor
open Go.RowKit
structure Gs (K : Kdk) (Q : Nat → Prop) (H0 : Nat) (I : World → Prop) (w : World) (B : Nat) (ps : Int) (vb vg : Value) (r c base id0 : Nat) (L M : List Lst) (tn : Nat → Nat) : Prop where
 inv : I w
 bc : Kc K w B ps vb r c L
 gl : w.cell? ⟨B, K.q + 2, none⟩ = some vg
 gz : w.frozen? ⟨B, K.q + 2, none⟩ = false
 own : w.ownsRow base K.lt 1 vg M.length (M.map Lst.v)
 old : ∀ s ∈ L, s.g < base
 rB : r < base ∧ B < base ∧ base ≤ w.heap.size ∧ M.length ≤ L.length ∧ H0 ≤ w.heap.size
 qn : ∀ i, H0 ≤ i → Q i
 qv : ∀ i, vg.ownBlock = some i → Q i
 qm : ∀ (k : Nat) (m : Lst), M[k]? = some m → base ≤ m.g → Q m.g
 each : ∀ (k : Nat) (m : Lst), M[k]? = some m → m.Ok K.W ∧ m.There w ∧ some m.g ≠ vg.ownBlock ∧ ∃ s, L[k]? = some s ∧ m.n = s.n + tn k ∧ ((base ≤ m.g ∧ m.g < w.heap.size) ∨ (m.g = s.g ∧ m.o = s.o ∧ m.c = s.c))
 dif : ∀ (k l : Nat) (m m' : Lst), M[k]? = some m → M[l]? = some m' → k ≠ l → base ≤ m.g → m.g ≠ m'.g
 lm : ∀ (k : Nat) (s : Lst), L[k]? = some s → s.Shows w (K.f ps (id0 + k + 1))
 mm : ∀ (k : Nat) (m : Lst), M[k]? = some m → m.Shows w (K.f ps (id0 + k + 1))
theorem Gs.gB {K : Kdk} {Q : Nat → Prop} {H0 : Nat} {I : World → Prop} {w : World} {B : Nat} {ps : Int} {vb : Value} {vg : Value} {r : Nat} {c : Nat} {base : Nat} {id0 : Nat} {L : List Lst} {M : List Lst} {tn : Nat → Nat} (h : Gs K Q H0 I w B ps vb vg r c base id0 L M tn) {k : Nat} {m : Lst} (hm : M[k]? = some m) : m.g ≠ B ∧ m.g ≠ r := by
 obtain ⟨_, _, _, s, hs, _, hc⟩ := h.each k m hm
 have h1 := h.rB
 rcases hc with ⟨h2, _⟩ | ⟨h2, _, _⟩
 ·omega
 ·have := (h.bc.ok s (List.mem_of_getElem? hs)).2.2
  rw [h2]; exact this
theorem Gs.vgB {K : Kdk} {Q : Nat → Prop} {H0 : Nat} {I : World → Prop} {w : World} {B : Nat} {ps : Int} {vb : Value} {vg : Value} {r : Nat} {c : Nat} {base : Nat} {id0 : Nat} {L : List Lst} {M : List Lst} {tn : Nat → Nat} (h : Gs K Q H0 I w B ps vb vg r c base id0 L M tn) : ∀ i, vg.ownBlock = some i → base ≤ i ∧ i < w.heap.size := fun i e => h.own.lt i e
theorem Gs.mC {K : Kdk} {Q : Nat → Prop} {H0 : Nat} {I : World → Prop} {w : World} {B : Nat} {ps : Int} {vb : Value} {vg : Value} {r : Nat} {c : Nat} {base : Nat} {id0 : Nat} {L : List Lst} {M : List Lst} {tn : Nat → Nat} (h : Gs K Q H0 I w B ps vb vg r c base id0 L M tn) {k : Nat} {m s : Lst} (hm : M[k]? = some m) (hs : L[k]? = some s) (hc : m.c = s.c) : m.C = s.C := by
 rw [(h.each k m hm).1.hC, (h.bc.ok s (List.mem_of_getElem? hs)).1.hC, hc]
theorem Gs.enter {K : Kdk} {Q : Nat → Prop} {H0 : Nat} {I : World → Prop} {w : World} {w1 : World} {B : Nat} {ps : Int} {vb : Value} {vg : Value} {vg' : Value} {r : Nat} {c : Nat} {base : Nat} {id0 : Nat} {L : List Lst} {M : List Lst} {tn : Nat → Nat} (h : Gs K Q H0 I w B ps vb vg r c base id0 L M tn) (o : Obj) {s : Lst} (hs : L[M.length]? = some s) (ht : tn M.length = 0)
  (hIg : ∀ w w' row, I w → w.grownBy w' row → (∀ i, row = some i → Q i) → I w') (hIb : ∀ w v, I w → I (w.setCell ⟨B, K.q + 2, none⟩ v)) (hq : K.q + 2 ≠ 1)
  (hg : (w.alloc o).grownBy w1 vg.ownBlock) (hown : w1.ownsRow base K.lt 1 vg' (M.length + 1) (M.map Lst.v ++ [s.v])) (hat : vg'.ownBlock = vg.ownBlock ∨ ∃ i, vg'.ownBlock = some i ∧ w.heap.size < i) (hrB : r ≠ B) :
  Gs K Q H0 I (w1.setCell ⟨B, K.q + 2, none⟩ vg') B ps vb vg' r c base id0 L (M ++ [s]) tn := by
 have hrb := h.rB
 have hvg := h.vgB
 have hal : w.grownBy (w.alloc o) none := World.grownBy_alloc _ _ none
 have hset := kset_grown w1 B (K.q + 2) vg'
 have nvB : some B ≠ vg.ownBlock := fun e => by have := hvg B e.symm; omega
 have nvr : some r ≠ vg.ownBlock := fun e => by have := hvg r e.symm; omega
 have nvs : ∀ t ∈ L, some t.g ≠ vg.ownBlock := fun t ht e => by have := hvg _ e.symm; have := h.old t ht; omega
 have hsz : w.heap.size < w1.heap.size := by have := hg.size; simp at this; omega
 have hvB : vg'.ownBlock ≠ some B := fun e => by
  rcases hat with h1 | ⟨i, h1, h2⟩
  ·exact nvB (by rw [← h1, e])
  ·rw [h1] at e; have := Option.some.inj e; omega
 have hsL : s ∈ L := List.mem_of_getElem? hs
 have hso := h.bc.ok s hsL
 have hsB : ∀ t ∈ L, t.g ≠ B := fun t ht => (h.bc.ok t ht).2.2.1
 have hbc := ((h.bc.kept hal (by simp) (by simp) (by simp)).kept hg nvB nvr nvs)
 have hget : ∀ (k : Nat) (m : Lst), (M ++ [s])[k]? = some m → (M[k]? = some m ∧ k < M.length) ∨ (k = M.length ∧ m = s) := by
  intro k m hm
  rcases Nat.lt_or_ge k M.length with hk | hk
  ·rw [List.getElem?_append_left hk] at hm; exact Or.inl ⟨hm, hk⟩
  ·rw [List.getElem?_append_right hk] at hm
   right
   have : k - M.length = 0 := by
    rcases Nat.eq_zero_or_pos (k - M.length) with h0 | h0
    ·exact h0
    ·rw [List.getElem?_eq_none (by simp; omega)] at hm; cases hm
   rw [this] at hm
   simp at hm
   exact ⟨by omega, hm.symm⟩
 have hnew : ∀ (m : Lst), m.g < w.heap.size → some m.g ≠ vg.ownBlock → some m.g ≠ vg'.ownBlock := by
  intro m h1 h2 e
  rcases hat with h3 | ⟨i, h3, h4⟩
  ·exact h2 (by rw [e, h3])
  ·rw [h3] at e; have := Option.some.inj e; omega
 have hgl1 : w1.cell? ⟨B, K.q + 2, none⟩ = some vg := hg.cell (hal.cell h.gl (by simp)) nvB
 refine ⟨?_, hbc.setB _ _ hq (by omega) hrB, World.cell?_setCell_same _ _ _ hgl1, ?_, ?_, h.old, ?_, h.qn, ?_, ?_, ?_, ?_, ?_, ?_⟩
 ·exact hIb _ _ (hIg _ _ vg.ownBlock (hIg _ _ none h.inv hal (by simp)) hg (fun i e => h.qv i e))
 ·have hB1 : B < w.heap.size := by omega
  have e1 : w1.frozen? ⟨B, K.q + 2, none⟩ = (w.alloc o).frozen? ⟨B, K.q + 2, none⟩ := World.frozen?_of_block (hg.block B (by simp; omega) nvB)
  have e2 : (w.alloc o).frozen? ⟨B, K.q + 2, none⟩ = w.frozen? ⟨B, K.q + 2, none⟩ := World.frozen?_of_block (hal.block B hB1 (by simp))
  have := h.gz
  simp
  rw [e1, e2, this]
 ·have := hown.kept hset (Or.inr hvB)
  rwa [List.length_append, List.map_append]
 ·have := hset.size
  refine ⟨hrb.1, hrb.2.1, by omega, ?_, by omega⟩
  have := (List.getElem?_eq_some_iff.1 hs).1
  simp; omega
 ·intro i e
  rcases hat with h1 | ⟨j, h1, h2⟩
  ·exact h.qv i (by rw [← h1, e])
  ·rw [h1] at e
   have := Option.some.inj e
   exact h.qn i (by omega)
 ·intro k m hm hb
  rcases hget k m hm with ⟨hk, _⟩ | ⟨_, rfl⟩
  ·exact h.qm k m hk hb
  ·have := h.old m hsL; omega
 ·intro k m hm
  rcases hget k m hm with ⟨hk, hlt⟩ | ⟨rfl, rfl⟩
  ·obtain ⟨a1, a2, a3, t, a4, a5, a6⟩ := h.each k m hk
   have hlt' : m.g < w.heap.size := by
    rcases a6 with a6 | a6
    ·exact a6.2
    ·have := h.old t (List.mem_of_getElem? a4); omega
   refine ⟨a1, (((a2.kept hal (by simp)).kept hg a3).set _ _), hnew m hlt' a3, t, a4, a5, ?_⟩
   rcases a6 with a6 | a6
   ·left; have := hset.size; omega
   ·exact Or.inr a6
  ·have hlt' : m.g < w.heap.size := by have := h.old m hsL; omega
   exact ⟨hso.1, (((hso.2.1.kept hal (by simp)).kept hg (nvs m hsL)).set _ _), hnew m hlt' (nvs m hsL), m, hs, by omega, Or.inr ⟨rfl, rfl, rfl⟩⟩
 ·intro k l m m' hm hm' hkl hb
  rcases hget k m hm with ⟨hk, _⟩ | ⟨rfl, rfl⟩
  ·rcases hget l m' hm' with ⟨hl, _⟩ | ⟨rfl, rfl⟩
   ·exact h.dif k l m m' hk hl hkl hb
   ·have := h.old m' hsL; omega
  ·have := h.old m hsL; omega
 ·intro k t hkt
  exact ((((h.lm k t hkt).kept hal (by simp)).kept hg (nvs t (List.mem_of_getElem? hkt))).kept hset (by have := hsB t (List.mem_of_getElem? hkt); simp; exact this))
 ·intro k m hm
  rcases hget k m hm with ⟨hk, _⟩ | ⟨rfl, rfl⟩
  ·exact ((((h.mm k m hk).kept hal (by simp)).kept hg (h.each k m hk).2.2.1).kept hset (by have := (h.gB hk).1; simp; exact this))
  ·exact ((((h.lm M.length m hs).kept hal (by simp)).kept hg (nvs m hsL)).kept hset (by have := hsB m hsL; simp; exact this))
theorem Gs.more {K : Kdk} {Q : Nat → Prop} {H0 : Nat} {I : World → Prop} {w : World} {w' : World} {B : Nat} {ps : Int} {vb : Value} {vg : Value} {r : Nat} {c : Nat} {base : Nat} {id0 : Nat} {L : List Lst} {M : List Lst} {tn : Nat → Nat} (h : Gs K Q H0 I w B ps vb vg r c base id0 L M tn)
  (hIg : ∀ w w' row, I w → w.grownBy w' row → (∀ i, row = some i → Q i) → I w') (hg : w.grownBy w' none) : Gs K Q H0 I w' B ps vb vg r c base id0 L M tn := by
 have hrb := h.rB
 have hsz := hg.size
 refine ⟨hIg _ _ none h.inv hg (by simp), h.bc.kept hg (by simp) (by simp) (by simp), hg.cell h.gl (by simp), (World.frozen?_of_block (hg.block B (by omega) (by simp))).trans h.gz, h.own.kept hg (by cases vg.ownBlock <;> simp), h.old, ⟨hrb.1, hrb.2.1, by omega, hrb.2.2.2.1, by omega⟩, h.qn, h.qv, h.qm, fun k m hm => ?_, h.dif, fun k t hk => (h.lm k t hk).kept hg (by simp), fun k m hm => (h.mm k m hm).kept hg (by simp)⟩
 obtain ⟨a1, a2, a3, t, a4, a5, a6⟩ := h.each k m hm
 refine ⟨a1, a2.kept hg (by simp), a3, t, a4, a5, ?_⟩
 rcases a6 with a6 | a6
 ·left; omega
 ·exact Or.inr a6
structure Kf (K : Kdk) (Q : Nat → Prop) (w : World) (vg : Value) (base id0 : Nat) (L M : List Lst) (tn : Nat → Nat) (ps : Int) (i : Nat) (m' : Lst) : Prop where
 ok : m'.Ok K.W
 there : m'.There w
 shows : m'.Shows w (K.f ps (id0 + i + 1))
 nv : some m'.g ≠ vg.ownBlock
 qm : base ≤ m'.g → Q m'.g
 reg : ∃ s, L[i]? = some s ∧ m'.n = s.n + (tn i + 1) ∧ ((base ≤ m'.g ∧ m'.g < w.heap.size) ∨ (m'.g = s.g ∧ m'.o = s.o ∧ m'.c = s.c))
 dif1 : ∀ (l : Nat) (m2 : Lst), M[l]? = some m2 → l ≠ i → base ≤ m'.g → m'.g ≠ m2.g
 dif2 : ∀ (l : Nat) (m2 : Lst), M[l]? = some m2 → l ≠ i → base ≤ m2.g → m2.g ≠ m'.g
theorem Gs.put {K : Kdk} {Q : Nat → Prop} {H0 : Nat} {I : World → Prop} {w : World} {B : Nat} {ps : Int} {vb : Value} {r : Nat} {c : Nat} {base : Nat} {id0 : Nat} {L : List Lst} {M : List Lst} {tn : Nat → Nat} {rg cg i : Nat} {m' : Lst} (h : Gs K Q H0 I w B ps vb (.slice (some ⟨rg, 0, none⟩) M.length cg) r c base id0 L M tn) (hf : Kf K Q w (.slice (some ⟨rg, 0, none⟩) M.length cg) base id0 L M tn ps i m') (hi : i < M.length)
  (hIg : ∀ w w' row, I w → w.grownBy w' row → (∀ i, row = some i → Q i) → I w') :
  Gs K Q H0 I (w.setCell ⟨rg, i, none⟩ m'.v) B ps vb (.slice (some ⟨rg, 0, none⟩) M.length cg) r c base id0 L (M.set i m') (fun k => if k = i then tn k + 1 else tn k) := by
 obtain ⟨ho, hg⟩ := h.own.stored i m'.v
 have hrb := h.rB
 have hrg := (h.vgB rg rfl).1
 have hs : ∀ t ∈ L, some t.g ≠ some rg := fun t ht e => by have := h.old t ht; have := Option.some.inj e; omega
 have hget : ∀ (k : Nat) (m : Lst), (M.set i m')[k]? = some m → (k = i ∧ m = m') ∨ (k ≠ i ∧ M[k]? = some m) := by
  intro k m hm
  by_cases e : k = i
  ·subst e
   rw [List.getElem?_set_self hi] at hm
   exact Or.inl ⟨rfl, (Option.some.inj hm).symm⟩
  ·rw [List.getElem?_set_ne (fun e' => e e'.symm)] at hm
   exact Or.inr ⟨e, hm⟩
 refine ⟨hIg _ _ _ h.inv hg (fun j e => h.qv j e), h.bc.kept hg (by simp; omega) (by simp; omega) hs, hg.cell h.gl (by simp; omega), (World.frozen?_of_block (hg.block B (by omega) (by simp; omega))).trans h.gz, ?_, h.old, ⟨hrb.1, hrb.2.1, by have := hg.size; omega, by simpa using hrb.2.2.2.1, by have := hg.size; omega⟩, h.qn, h.qv, fun k m hm hb => ?_, fun k m hm => ?_, fun k l m m2 hm hm2 hkl hb => ?_, fun k t hk => (h.lm k t hk).kept hg (hs t (List.mem_of_getElem? hk)), fun k m hm => ?_⟩
 ·rw [List.length_set, List.map_set]; exact ho
 ·rcases hget k m hm with ⟨_, rfl⟩ | ⟨_, hm⟩
  ·exact hf.qm hb
  ·exact h.qm k m hm hb
 ·rcases hget k m hm with ⟨rfl, rfl⟩ | ⟨hk, hm⟩
  ·obtain ⟨t, a4, a5, a6⟩ := hf.reg
   refine ⟨hf.ok, hf.there.kept hg hf.nv, hf.nv, t, a4, by simp [a5], ?_⟩
   rcases a6 with a6 | a6
   ·left; have := hg.size; omega
   ·exact Or.inr a6
  ·obtain ⟨a1, a2, a3, t, a4, a5, a6⟩ := h.each k m hm
   refine ⟨a1, a2.kept hg a3, a3, t, a4, by simp [hk, a5], ?_⟩
   rcases a6 with a6 | a6
   ·left; have := hg.size; omega
   ·exact Or.inr a6
 ·rcases hget k m hm with ⟨rfl, rfl⟩ | ⟨hk, hm1⟩
  ·rcases hget l m2 hm2 with ⟨rfl, _⟩ | ⟨hl, hm3⟩
   ·omega
   ·exact hf.dif1 l m2 hm3 hl hb
  ·rcases hget l m2 hm2 with ⟨rfl, rfl⟩ | ⟨hl, hm3⟩
   ·exact hf.dif2 k m hm1 hk hb
   ·exact h.dif k l m m2 hm1 hm3 hkl hb
 ·rcases hget k m hm with ⟨rfl, rfl⟩ | ⟨hk, hm⟩
  ·exact hf.shows.kept hg hf.nv
  ·exact (h.mm k m hm).kept hg (h.each k m hm).2.2.1
theorem kset_inv {I : World → Prop} {g o C : Nat} (hI : ∀ w j v, j < C → I w → I (w.setCell ⟨g, o + j, none⟩ v)) : ∀ (vs : List Value) (p : Nat) (w : World), p + vs.length ≤ C → I w → I (w.setCells g (o + p) vs)
 | [], _, _, _, h => h
 | v :: vs, p, w, hp, h => by
  simp only [List.length_cons] at hp
  have := kset_inv hI vs (p + 1) (w.setCell ⟨g, o + p, none⟩ v) (by omega) (hI w p v (by omega) h)
  exact this
theorem ksets_grown (w : World) (g o : Nat) (vs : List Value) : w.grownBy (w.setCells g o vs) (some g) := by
 have : ∀ (vs : List Value) (o : Nat) (w : World), w.grownBy (w.setCells g o vs) (some g) := by
  intro vs
  induction vs with
  | nil => intro o w; exact ⟨rfl, rfl, rfl, Nat.le_refl _, fun _ _ _ => rfl⟩
  | cons v vs ih => intro o w; exact grown_trans (kset_grown w g o v) (ih (o + 1) _)
 exact this vs o w
theorem Gs.room {K : Kdk} {Q : Nat → Prop} {H0 : Nat} {I : World → Prop} {w : World} {B : Nat} {ps : Int} {vb : Value} {vg : Value} {r : Nat} {c : Nat} {base : Nat} {id0 : Nat} {L : List Lst} {M : List Lst} {tn : Nat → Nat} {i : Nat} {m : Lst} (h : Gs K Q H0 I w B ps vb vg r c base id0 L M tn) (hm : M[i]? = some m) (hroom : m.n < m.c) (hbd : m.n + 1 ≤ 1099511627776) (vs : List Value) (hvl : vs.length = K.W) (hvs : ∀ (x : Nat) (v : Value), vs[x]? = some v → v = K.f ps (id0 + i + 1) (m.N + x)) (p : Nat) (hp : p = m.o + m.N)
  (hIg : ∀ w w' row, I w → w.grownBy w' row → (∀ i, row = some i → Q i) → I w') (hIs : ∀ w s j v, s ∈ L → j < s.C → I w → I (w.setCell ⟨s.g, s.o + j, none⟩ v)) :
  Gs K Q H0 I (w.setCells m.g p vs) B ps vb vg r c base id0 L M tn ∧
  Kf K Q (w.setCells m.g p vs) vg base id0 L M tn ps i ⟨.slice (some ⟨m.g, m.o, none⟩) (m.n + 1) m.c, m.g, m.o, m.n + 1, m.c, m.N + K.W, m.C⟩ := by
 subst hp
 obtain ⟨a1, a2, a3, s, a4, a5, a6⟩ := h.each i m hm
 have hrb := h.rB
 have hsL := List.mem_of_getElem? a4
 obtain ⟨gB, gr⟩ := h.gB hm
 have hg := ksets_grown w m.g (m.o + m.N) vs
 have hmx := a1.cmax
 have hNW := a1.room hroom
 have cellF : ∀ a : Addr, (a.block = m.g → a.spot = none → a.off < m.o + m.N ∨ m.o + m.N + K.W ≤ a.off) → (w.setCells m.g (m.o + m.N) vs).cell? a = w.cell? a := fun a ha => World.cell?_setCells_out m.g vs _ w a (by rw [hvl]; exact ha)
 have thr : ∀ s : Lst, s.There w → s.There (w.setCells m.g (m.o + m.N) vs) := fun s hs j hj => by
  obtain ⟨⟨u, hu⟩, hf⟩ := hs j hj
  refine ⟨?_, by rw [World.frozen?_setCells]; exact hf⟩
  by_cases e : s.g = m.g ∧ m.o + m.N ≤ s.o + j ∧ s.o + j < m.o + m.N + K.W
  ·have := World.cell?_setCells_in m.g vs (m.o + m.N) w (fun j hj => by
    obtain ⟨⟨u, hu⟩, _⟩ := a2 (m.N + j) (by omega)
    rw [Nat.add_assoc, hu]; rfl) (s.o + j - (m.o + m.N)) (by omega)
   rw [show m.o + m.N + (s.o + j - (m.o + m.N)) = s.o + j by omega] at this
   exact ⟨_, by rw [e.1]; exact this⟩
  ·refine ⟨u, ?_⟩
   rw [cellF _ (by intro e1 _; simp only at e1 ⊢; omega)]
   exact hu
 have farL : ∀ (k : Nat) (t : Lst), L[k]? = some t → ∀ j, j < t.N → (t.g = m.g → t.o + j < m.o + m.N ∨ m.o + m.N + K.W ≤ t.o + j) := by
  intro k t hk j hj e1
  have hto := (h.bc.ok t (List.mem_of_getElem? hk)).1
  have htle := hto.leN
  have htold := h.old t (List.mem_of_getElem? hk)
  rcases a6 with a6 | ⟨b1, b2, b3⟩
  ·omega
  ·have hC := h.mC hm a4 b3
   by_cases hki : k = i
   ·subst hki
    have : t = s := by rw [a4] at hk; exact (Option.some.inj hk).symm
    subst this
    have h1 : t.N ≤ m.N := by rw [a1.hN, hto.hN]; exact Nat.mul_le_mul_right _ (by omega)
    omega
   ·apply Classical.byContradiction
    intro hn
    have := ls_pair h.bc.apart a4 hk (by omega) (t.o + j - m.o) j (by omega) (by omega)
    exact this (by rw [← b1, ← b2, e1, show m.o + (t.o + j - m.o) = t.o + j by omega])
 have farM : ∀ (k : Nat) (m2 : Lst), M[k]? = some m2 → k ≠ i → ∀ j, j < m2.N → (m2.g = m.g → m2.o + j < m.o + m.N ∨ m.o + m.N + K.W ≤ m2.o + j) := by
  intro k m2 hk hki j hj e1
  obtain ⟨c1, c2, c3, t, c4, c5, c6⟩ := h.each k m2 hk
  have hle := c1.leN
  rcases a6 with a6 | ⟨b1, b2, b3⟩
  ·exact absurd e1.symm (h.dif i k m m2 hm hk (by omega) a6.1)
  ·rcases c6 with c6 | ⟨d1, d2, d3⟩
   ·exact absurd e1 (h.dif k i m2 m hk hm hki c6.1)
   ·have hC := h.mC hm a4 b3
    have hC2 := h.mC hk c4 d3
    apply Classical.byContradiction
    intro hn
    have := ls_pair h.bc.apart a4 c4 (by omega) (m2.o + j - m.o) j (by omega) (by omega)
    exact this (by rw [← b1, ← b2, ← d1, ← d2, e1, show m.o + (m2.o + j - m.o) = m2.o + j by omega])
 have shw : ∀ (t : Lst) (f : Nat → Value), t.Shows w f → (∀ j, j < t.N → (t.g = m.g → t.o + j < m.o + m.N ∨ m.o + m.N + K.W ≤ t.o + j)) → t.Shows (w.setCells m.g (m.o + m.N) vs) f := fun t f ht hf j hj => by
  rw [cellF _ (by intro e1 _; exact hf j hj e1)]
  exact ht j hj
 have mmi : m.Shows (w.setCells m.g (m.o + m.N) vs) (K.f ps (id0 + i + 1)) := shw m _ (h.mm i m hm) (fun j hj _ => Or.inl (by omega))
 refine ⟨⟨?_, ?_, ?_, ?_, ?_, h.old, ⟨hrb.1, hrb.2.1, by have := hg.size; omega, hrb.2.2.2.1, by have := hg.size; omega⟩, h.qn, h.qv, h.qm, fun k m2 hk => ?_, h.dif, fun k t hk => shw t _ (h.lm k t hk) (farL k t hk), fun k m2 hk => ?_⟩, ?_⟩
 ·rcases a6 with a6 | ⟨b1, b2, b3⟩
  ·exact hIg _ _ _ h.inv hg (fun j e => by rw [← Option.some.inj e]; exact h.qm i m hm a6.1)
  ·have hC := h.mC hm a4 b3
   exact kset_inv (I := I) (g := m.g) (o := m.o) (C := m.C) (fun w j v hj hw => by rw [b1, b2]; exact hIs w s j v hsL (by omega) hw) vs m.N w (by omega) h.inv
 ·refine ⟨?_, ?_, ⟨h.bc.row.val, fun j x hx => ?_⟩, fun t ht => ?_, h.bc.apart, h.bc.many⟩
  ·rw [cellF _ (by intro e1; exact absurd e1.symm gB)]; exact h.bc.pass
  ·rw [cellF _ (by intro e1; exact absurd e1.symm gB)]; exact h.bc.lists
  ·rw [cellF _ (by intro e1; exact absurd e1.symm gr)]; exact h.bc.row.cells j x hx
  ·obtain ⟨d1, d2, d3⟩ := h.bc.ok t ht
   exact ⟨d1, thr t d2, d3⟩
 ·rw [cellF _ (by intro e1; exact absurd e1.symm gB)]; exact h.gl
 ·rw [World.frozen?_setCells]; exact h.gz
 ·exact h.own.kept hg (by cases hv : vg.ownBlock with
   | none => exact Or.inl rfl
   | some j => exact Or.inr (fun e => a3 (by rw [hv]; exact e.symm)))
 ·obtain ⟨c1, c2, c3, t, c4, c5, c6⟩ := h.each k m2 hk
  refine ⟨c1, thr m2 c2, c3, t, c4, c5, ?_⟩
  rcases c6 with c6 | c6
  ·left; have := hg.size; omega
  ·exact Or.inr c6
 ·by_cases hki : k = i
  ·subst hki
   have : m2 = m := by rw [hm] at hk; exact (Option.some.inj hk).symm
   subst this
   exact mmi
  ·exact shw m2 _ (h.mm k m2 hk) (farM k m2 hk hki)
 ·refine ⟨⟨by simp; omega, by simp [a1.hN, Nat.succ_mul], a1.hC, hbd, hmx, _, rfl, fun _ => rfl⟩, thr ⟨.slice (some ⟨m.g, m.o, none⟩) (m.n + 1) m.c, m.g, m.o, m.n + 1, m.c, m.N + K.W, m.C⟩ (fun j hj => a2 j hj), fun j hj => ?_, a3, fun hb => h.qm i m hm hb, ⟨s, a4, by simp [a5]; omega, ?_⟩, fun l m2 hl hli hb => h.dif i l m m2 hm hl (by omega) hb, fun l m2 hl hli hb => h.dif l i m2 m hl hm hli hb⟩
  ·have hj' : j < m.N + K.W := hj
   show (w.setCells m.g (m.o + m.N) vs).cell? ⟨m.g, m.o + j, none⟩ = _
   by_cases e : j < m.N
   ·exact mmi j e
   ·have := World.cell?_setCells_in m.g vs (m.o + m.N) w (fun j hj => by
     obtain ⟨⟨u, hu⟩, _⟩ := a2 (m.N + j) (by omega)
     rw [Nat.add_assoc, hu]; rfl) (j - m.N) (by omega)
    rw [show m.o + m.N + (j - m.N) = m.o + j by omega] at this
    rw [this, hvs (j - m.N) _ (List.getElem?_eq_getElem (by omega)), show m.N + (j - m.N) = j by omega]
  ·rcases a6 with a6 | a6
   ·left; have := hg.size; exact ⟨a6.1, by simp; omega⟩
   ·exact Or.inr a6
theorem kowns_le {w : World} {base g n c W : Nat} {e : TypeId} {xs : List Value} (h : w.ownsRow base e W (.slice (some ⟨g, 0, none⟩) n c) n xs) : n ≤ c ∧ c ≤ 9223372036854775807 := by
 rcases h.2 with ⟨h', _⟩ | ⟨g', cap', cur, h', _, _, hnc, hcm, _⟩
 ·simp at h'
 ·simp only [Value.slice.injEq, Option.some.injEq, Addr.mk.injEq, and_true, true_and] at h'
  obtain ⟨_, rfl⟩ := h'
  unfold maxLen at hcm
  exact ⟨hnc, by omega⟩
theorem kowns_there {w : World} {base g n c W : Nat} {e : TypeId} {xs : List Value} (h : w.ownsRow base e W (.slice (some ⟨g, 0, none⟩) n c) n xs) (j : Nat) (hj : j < c * W) : ∃ u, w.cell? ⟨g, j, none⟩ = some u := by
 rcases h.2 with ⟨h', _⟩ | ⟨g', cap', cur, h', _, hgg, _, _, hcs, _⟩
 ·simp at h'
 ·simp only [Value.slice.injEq, Option.some.injEq, Addr.mk.injEq, and_true, true_and] at h'
  obtain ⟨rfl, rfl⟩ := h'
  exact ⟨cur[j]'(by omega), by rw [cell_of_row w g j _ _ _ hgg]; simp⟩
theorem Gs.full {K : Kdk} {Q : Nat → Prop} {H0 : Nat} {I : World → Prop} {w : World} {w1 : World} {B : Nat} {ps : Int} {vb : Value} {vg : Value} {r : Nat} {c : Nat} {base : Nat} {id0 : Nat} {L : List Lst} {M : List Lst} {tn : Nat → Nat} {i : Nat} {m : Lst} (h : Gs K Q H0 I w B ps vb vg r c base id0 L M tn) (hm : M[i]? = some m) {g cap H : Nat} (vs : List Value) (hvl : vs.length = K.W) (hvs : ∀ (x : Nat) (v : Value), vs[x]? = some v → v = K.f ps (id0 + i + 1) (m.N + x))
  (hIg : ∀ w w' row, I w → w.grownBy w' row → (∀ i, row = some i → Q i) → I w') (hg : w.grownBy w1 none) (hH : w.heap.size ≤ H) (hbd : m.n + 1 ≤ 1099511627776)
  (hown : w1.ownsRow H K.et K.W (.slice (some ⟨g, 0, none⟩) (m.n + 1) cap) (m.n + 1) (((List.range m.N).map fun j => K.f ps (id0 + i + 1) j) ++ vs)) :
  Gs K Q H0 I w1 B ps vb vg r c base id0 L M tn ∧ Kf K Q w1 vg base id0 L M tn ps i ⟨.slice (some ⟨g, 0, none⟩) (m.n + 1) cap, g, 0, m.n + 1, cap, m.N + K.W, cap * K.W⟩ := by
 obtain ⟨a1, a2, a3, s, a4, a5, a6⟩ := h.each i m hm
 have hrb := h.rB
 have hlt := hown.lt g rfl
 obtain ⟨hcap, hmx⟩ := kowns_le hown
 have hgl : ∀ (k : Nat) (m2 : Lst), M[k]? = some m2 → m2.g < w.heap.size := by
  intro k m2 hk
  obtain ⟨_, _, _, t, c4, _, c6⟩ := h.each k m2 hk
  rcases c6 with c6 | c6
  ·exact c6.2
  ·have := h.old t (List.mem_of_getElem? c4); omega
 have hNW : m.N + K.W = (m.n + 1) * K.W := by rw [a1.hN, Nat.succ_mul]
 refine ⟨h.more hIg hg, ⟨⟨hcap, hNW, rfl, hbd, hmx, _, rfl, fun _ => rfl⟩, fun j hj => ?_, fun j hj => ?_, fun e => ?_, fun _ => h.qn _ (by simp; omega), ⟨s, a4, by simp [a5]; omega, Or.inl ⟨by simp; omega, hlt.2⟩⟩, fun l m2 hl hli hb e => ?_, fun l m2 hl hli hb e => ?_⟩⟩
 ·show (∃ u, w1.cell? ⟨g, 0 + j, none⟩ = some u) ∧ w1.frozen? ⟨g, 0 + j, none⟩ = false
  rw [Nat.zero_add]
  exact ⟨kowns_there hown j hj, hown.frozenAt j⟩
 ·show w1.cell? ⟨g, 0 + j, none⟩ = _
  have hj' : j < m.N + K.W := hj
  rw [Nat.zero_add, hown.cellAt j (by rw [← hNW]; exact hj')]
  by_cases e : j < m.N
  ·rw [List.getElem?_append_left (by simp; omega), List.getElem?_map, List.getElem?_range (by omega)]; rfl
  ·rw [List.getElem?_append_right (by simp; omega)]
   simp only [List.length_map, List.length_range]
   have hx : j - m.N < vs.length := by omega
   rw [List.getElem?_eq_getElem hx, hvs _ _ (List.getElem?_eq_getElem hx), show m.N + (j - m.N) = j by omega]
 ·have e' : some g = vg.ownBlock := e
  have := (h.vgB g e'.symm).2
  omega
 ·have e' : g = m2.g := e
  have := hgl l m2 hl; omega
 ·have e' : m2.g = g := e
  have := hgl l m2 hl; omega
theorem Gs.tn {K : Kdk} {Q : Nat → Prop} {H0 : Nat} {I : World → Prop} {w : World} {B : Nat} {ps : Int} {vb : Value} {vg : Value} {r : Nat} {c : Nat} {base : Nat} {id0 : Nat} {L : List Lst} {M : List Lst} {tn : Nat → Nat} {tn' : Nat → Nat} (h : Gs K Q H0 I w B ps vb vg r c base id0 L M tn) (he : ∀ k, k < M.length → tn k = tn' k) : Gs K Q H0 I w B ps vb vg r c base id0 L M tn' := by
 refine ⟨h.inv, h.bc, h.gl, h.gz, h.own, h.old, h.rB, h.qn, h.qv, h.qm, fun k m hm => ?_, h.dif, h.lm, h.mm⟩
 obtain ⟨a1, a2, a3, s, a4, a5, a6⟩ := h.each k m hm
 exact ⟨a1, a2, a3, s, a4, by rw [← he k (List.getElem?_eq_some_iff.1 hm).1]; exact a5, a6⟩
def kmark (ps : Int) (id j : Nat) : Int := if ps = 1 then ((id * 97 + j * 31 : Nat) : Int) % 256 else ((id / 256 * 59 + j * 13 + id % 256 * 3 + 1 : Nat) : Int) % 256
def kdB : Kdk := ⟨2, 1, 5, 49, fun ps id x => .int .u8 (kmark ps id x)⟩
set_option maxHeartbeats 400000 in
theorem mark_bytes (B : Nat) (ps : Int) (id j : Nat) (idI jI : Int) (w : World) (h : w.cell? ⟨B, 1, none⟩ = some (.int .i64 ps)) (hi : id ≤ 1099511627776) (hj : j ≤ 1099511627776) (e1 : idI = (id : Int)) (e2 : jI = (j : Int)) :
  Calls Tryz.prog 118 #[.pointer (some ⟨B, 0, none⟩), .int .i64 idI, .int .i64 jI] w fun en w' => en = .returned (.int .u8 (kmark ps id j)) ∧ w' = w := by
 subst e1 e2
 by_cases hp : ps = 1
 ·subst hp
  go_enter Tryz.func118, Tryz.ntmps118
  go_wp2
  go_ret
  refine ⟨?_, rfl⟩
  unfold kmark
  simp
 ·have hpb : (ps == 1) = false := by simpa using hp
  go_enter Tryz.func118, Tryz.ntmps118
  go_wp2
  go_ret
  refine ⟨?_, rfl⟩
  unfold kmark
  rw [if_neg hp]
  simp
end Go.Proofs.YthodgddoolbenaaGreatDoor
