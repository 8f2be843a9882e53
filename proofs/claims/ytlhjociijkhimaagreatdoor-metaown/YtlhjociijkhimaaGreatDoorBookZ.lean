import Derived.Test.YtlhjociijkhimaaGreatDoorBookY
namespace Go.Proofs.YtlhjociijkhimaaGreatDoor
open Go.RowKit

theorem Fq.cell {w w' : World} {P : Nat → Prop} (h : Fq w w' P) {a : Addr} {u : Value} (hc : w.cell? a = some u) (hp : ¬ P a.block) : w'.cell? a = some u :=
  (World.cell?_of_block (h.block a.block (World.block_lt_of_cell? w _ hc) hp)).trans hc
theorem Byt.fq {w w' : World} {P : Nat → Prop} {ao : Option Addr} {n cap : Nat} {zs : List Int} (h : Byt w ao n cap zs) (hf : Fq w w' P) (hp : ∀ a, ao = some a → 0 < n → ¬ P a.block) : Byt w' ao n cap zs := by
  refine ⟨h.len, h.nil, fun ad had j u hu => ?_⟩
  have hj : j < zs.length := by have := (List.getElem?_eq_some_iff.1 hu).1; simpa using this
  refine hf.cell (h.cells ad had j u hu) ?_
  have hb : (ad.add j).block = ad.block := by unfold Addr.add; split <;> rfl
  rw [hb]
  exact hp ad had (by have := h.len; omega)
theorem Sl.There.fq {s : Sl} {w w' : World} {P : Nat → Prop} (h : s.There w) (hf : Fq w w' P) (hp : ¬ P s.g) : s.There w' := by
  intro j hj
  obtain ⟨⟨u, hu⟩, hz⟩ := h j hj
  exact ⟨⟨u, hf.cell hu hp⟩, (World.frozen?_of_block (hf.block s.g (World.block_lt_of_cell? w _ hu) hp)).trans hz⟩

/-- No block of the book's own. -/
def Free (B : Nat) (vb vw : Value) (i : Nat) : Prop := i ≠ B ∧ some i ≠ vb.ownBlock ∧ some i ≠ vw.ownBlock
/-- What a call of 'Bytes' leaves: all blocks but the book's own, and they stay no blocks of its own. -/
structure Ke (w w' : World) (B : Nat) (vb vw vb' vw' : Value) : Prop where
  os : w'.os = w.os
  tape : w'.tape = w.tape
  output : w'.output = w.output
  size : w.heap.size ≤ w'.heap.size
  block : ∀ i, i < w.heap.size → Free B vb vw i → w'.heap[i]? = w.heap[i]? ∧ Free B vb' vw' i
theorem Ke.fq {w w' : World} {B : Nat} {vb vw vb' vw' : Value} (h : Ke w w' B vb vw vb' vw') : Fq w w' (fun i => ¬ Free B vb vw i) :=
  ⟨h.os, h.tape, h.output, h.size, fun i hi hp => (h.block i hi (Classical.byContradiction hp)).1⟩

/-- A book that keeps the lists L, untouched; ys: its copies of them. -/
structure Kb (w : World) (B base : Nat) (L : List Sl) (ys : List Value) (vb vw : Value) : Prop where
  box : Box w B 0 0 vb vw (.slice none 0 0)
  ob : w.ownsRow base 41 1 vb L.length (L.map Sl.v)
  ow : w.ownsRow base 41 1 vw L.length ys
  bB : B < base ∧ base ≤ w.heap.size
  two : ∀ i, vb.ownBlock = some i → vw.ownBlock ≠ some i
  ok : ∀ s ∈ L, s.Ok ∧ s.There w ∧ s.n ≤ 1099511620000 ∧ s.g < w.heap.size ∧ s.g ≠ B ∧ some s.g ≠ vb.ownBlock ∧ some s.g ≠ vw.ownBlock
  apart : L.Pairwise Sl.Apart
  same : ∀ (k : Nat) (s : Sl) (y : Value), L[k]? = some s → ys[k]? = some y → ∃ ao g zs, s.v = .slice ao s.n s.c ∧ y = .slice (some ⟨g, 0, none⟩) s.n s.n ∧ Byt w ao s.n s.c zs ∧ Byt w (some ⟨g, 0, none⟩) s.n s.n zs ∧
    (0 < s.n → ao = some ⟨s.g, s.o, none⟩ ∧ g < w.heap.size ∧ g ≠ B ∧ some g ≠ vb.ownBlock ∧ some g ≠ vw.ownBlock ∧ base ≤ g)

theorem Kb.step {w w' : World} {B base : Nat} {L : List Sl} {ys : List Value} {vb vw vb' vw' : Value} {s : Sl} {ao : Option Addr} {zs : List Int} {g : Nat} (h : Kb w B base L ys vb vw)
    (hs : s.Ok) (ht : s.There w) (hn : s.n ≤ 1099511620000) (hgl : s.g < w.heap.size) (hgB : s.g ≠ B) (hg1 : some s.g ≠ vb.ownBlock) (hg2 : some s.g ≠ vw.ownBlock) (hv : s.v = .slice ao s.n s.c) (hap : ∀ t ∈ L, t.Apart s) (hby : Byt w ao s.n s.c zs)
    (hk : Kp w w' B 0 0 vb vw (.slice none 0 0) base L.length (L.map Sl.v) ys ao s.n s.c zs vb' vw' g) :
    Kb w' B base (L ++ [s]) (ys ++ [.slice (some ⟨g, 0, none⟩) s.n s.n]) vb' vw' ∧ Ke w w' B vb vw vb' vw' := by
  have hfr := hk.fr
  have hP : ∀ i, i ≠ B → some i ≠ vb.ownBlock → some i ≠ vw.ownBlock → ¬ (i = B ∨ vb.ownBlock = some i ∨ vw.ownBlock = some i) := fun i h1 h2 h3 h4 => by
    rcases h4 with h4 | h4 | h4
    · exact h1 h4
    · exact h2 h4.symm
    · exact h3 h4.symm
  have hnb : ∀ i, i < w.heap.size → some i ≠ vb.ownBlock → some i ≠ vb'.ownBlock := fun i h1 h2 e => by
    rcases hk.nb with e1 | ⟨r, e1, e2⟩
    · exact h2 (by rw [e, e1])
    · rw [e1] at e; have := Option.some.inj e; omega
  have hnw : ∀ i, i < w.heap.size → some i ≠ vw.ownBlock → some i ≠ vw'.ownBlock := fun i h1 h2 e => by
    rcases hk.nw with e1 | ⟨r, e1, e2⟩
    · exact h2 (by rw [e, e1])
    · rw [e1] at e; have := Option.some.inj e; omega
  have hsz := hfr.size
  have hyl : ys.length = L.length := by have := h.ow.1; simpa using this
  have haos : 0 < s.n → ao = some ⟨s.g, s.o, none⟩ := fun hp => by
    obtain ⟨ao', e1, e2⟩ := hs.val
    rw [hv] at e1
    injection e1 with e3
    rw [e3]; exact e2 (by have := hs.le; omega)
  refine ⟨⟨hk.box, ?_, ?_, ⟨h.bB.1, by have := h.bB.2; omega⟩, hk.two, fun t ht' => ?_, ?_, fun k t y hkt hky => ?_⟩, ?_⟩
  · rw [List.length_append, List.map_append]
    show w'.ownsRow base 41 1 vb' (L.length + 1) (L.map Sl.v ++ [s.v])
    rw [hv]; exact hk.ob
  · rw [List.length_append]; exact hk.ow
  · rcases List.mem_append.1 ht' with ht1 | ht1
    · obtain ⟨a1, a2, a3, a4, a5, a6, a7⟩ := h.ok t ht1
      exact ⟨a1, a2.fq hfr (hP _ a5 a6 a7), a3, by omega, a5, hnb _ a4 a6, hnw _ a4 a7⟩
    · obtain rfl := List.mem_singleton.1 ht1
      exact ⟨hs, ht.fq hfr (hP _ hgB hg1 hg2), hn, by omega, hgB, hnb _ hgl hg1, hnw _ hgl hg2⟩
  · rw [List.pairwise_append]
    exact ⟨h.apart, List.pairwise_singleton _ _, fun t ht1 u hu => by obtain rfl := List.mem_singleton.1 hu; exact hap t ht1⟩
  · rcases Nat.lt_or_ge k L.length with hlt | hge
    · rw [List.getElem?_append_left hlt] at hkt
      rw [List.getElem?_append_left (by omega)] at hky
      obtain ⟨bo, gy, zy, e1, e2, e3, e4, e5⟩ := h.same k t y hkt hky
      obtain ⟨a1, a2, a3, a4, a5, a6, a7⟩ := h.ok t (List.mem_of_getElem? hkt)
      refine ⟨bo, gy, zy, e1, e2, e3.fq hfr (fun a ha hp => ?_), e4.fq hfr (fun a ha hp => ?_), fun hp => ?_⟩
      · have := (e5 hp).1
        rw [ha] at this
        obtain rfl := Option.some.inj this
        exact hP _ a5 a6 a7
      · obtain rfl := Option.some.inj ha
        have := e5 hp
        exact hP _ this.2.2.1 this.2.2.2.1 this.2.2.2.2.1
      · obtain ⟨b1, b2, b3, b4, b5, b6⟩ := e5 hp
        exact ⟨b1, by omega, b3, hnb _ b2 b4, hnw _ b2 b5, b6⟩
    · have hk0 : k = L.length := by
        have := (List.getElem?_eq_some_iff.1 hkt).1
        rw [List.length_append] at this
        simp at this
        omega
      subst hk0
      rw [List.getElem?_append_right (by omega)] at hkt
      rw [List.getElem?_append_right (by omega)] at hky
      simp at hkt
      rw [hyl] at hky
      simp at hky
      subst hkt hky
      refine ⟨ao, g, zs, hv, rfl, hby.fq hfr (fun a ha hp => ?_), hk.copy, fun hp => ?_⟩
      · have := haos hp
        rw [ha] at this
        obtain rfl := Option.some.inj this
        exact hP _ hgB hg1 hg2
      · have hlt : g < w'.heap.size := by
          obtain ⟨b', o', e1, e2, _⟩ := hk.copy.at hp
          simp at e1
          rw [e1.1]; exact e2
        exact ⟨haos hp, hlt, by have := hk.gn; have := h.box.lt; omega, hk.g1, hk.g2, Nat.le_trans h.bB.2 hk.gn⟩
  · exact ⟨hfr.os, hfr.tape, hfr.output, hfr.size, fun i hi hp => ⟨hfr.block i hi (hP i hp.1 hp.2.1 hp.2.2), hp.1, hnb i hi hp.2.1, hnw i hi hp.2.2⟩⟩

/-- Memory that is none of the book's and none of its lists' is written. -/
theorem Kb.kept {w w' : World} {B base : Nat} {L : List Sl} {ys : List Value} {vb vw : Value} {row : Option Nat} (h : Kb w B base L ys vb vw) (hg : w.grownBy w' row) (hr : ∀ i, row = some i → i ≠ B ∧ i < base ∧ ∀ s ∈ L, s.g ≠ i) : Kb w' B base L ys vb vw := by
  have hvb : vb.ownBlock = none ∨ vb.ownBlock ≠ row := by
    cases hv : vb.ownBlock with
    | none => exact Or.inl rfl
    | some i => exact Or.inr (fun e => by have := (h.ob.lt i hv).1; have := (hr i e.symm).2.1; omega)
  have hvw : vw.ownBlock = none ∨ vw.ownBlock ≠ row := by
    cases hv : vw.ownBlock with
    | none => exact Or.inl rfl
    | some i => exact Or.inr (fun e => by have := (h.ow.lt i hv).1; have := (hr i e.symm).2.1; omega)
  have hsz := hg.size
  have hB : some B ≠ row := fun e => (hr B e.symm).1 rfl
  refine ⟨h.box.kept hg hB, h.ob.kept hg hvb, h.ow.kept hg hvw, ⟨h.bB.1, by have := h.bB.2; omega⟩, h.two, fun s hs => ?_, h.apart, fun k s y hk hy => ?_⟩
  · obtain ⟨a1, a2, a3, a4, a5⟩ := h.ok s hs
    exact ⟨a1, a2.kept hg (fun e => (hr _ e.symm).2.2 s hs rfl), a3, by omega, a5⟩
  · obtain ⟨ao, g, zs, e1, e2, e3, e4, e5⟩ := h.same k s y hk hy
    refine ⟨ao, g, zs, e1, e2, e3.kept hg (fun ad had hp e => ?_), e4.kept hg (fun ad had hp e => ?_), fun hp => ?_⟩
    · have := (e5 hp).1
      rw [had] at this
      obtain rfl := Option.some.inj this
      exact (hr _ e.symm).2.2 s (List.mem_of_getElem? hk) rfl
    · obtain rfl := Option.some.inj had
      have := (e5 hp).2.2.2.2.2
      have := (hr _ e.symm).2.1
      simp at this
      omega
    · obtain ⟨b1, b2, b3⟩ := e5 hp
      exact ⟨b1, by omega, b3⟩

/-- k.Bytes(list). -/
theorem kb_keep {w : World} {B base : Nat} {L : List Sl} {ys : List Value} {vb vw : Value} (s : Sl) (ao : Option Addr) (zs : List Int) (h : Kb w B base L ys vb vw)
    (hs : s.Ok) (ht : s.There w) (hn : s.n ≤ 1099511620000) (hgl : s.g < w.heap.size) (hgB : s.g ≠ B) (hg1 : some s.g ≠ vb.ownBlock) (hg2 : some s.g ≠ vw.ownBlock) (hv : s.v = .slice ao s.n s.c) (hap : ∀ t ∈ L, t.Apart s) (hby : Byt w ao s.n s.c zs) (hm : L.length ≤ 1000) :
    Calls Tryz.prog 6 #[.pointer (some ⟨B, 0, none⟩), .slice ao s.n s.c] w fun en w' => en = .returned (.tuple #[]) ∧ ∃ ys' vb' vw', Kb w' B base (L ++ [s]) ys' vb' vw' ∧ Ke w w' B vb vw vb' vw' := by
  have hb := h.bB
  refine (keep_any B 0 0 vb vw (.slice none 0 0) base L.length (L.map Sl.v) ys ao s.n s.c zs w h.box h.ob h.ow hb.2 (fun e => by have := (h.ob.lt B e).1; omega) (fun e => by have := (h.ow.lt B e).1; omega) (by omega) hby (by omega) (fun a ha hp => ?_) h.two).mono ?_
  · obtain ⟨ao', e1, e2⟩ := hs.val
    rw [hv] at e1
    injection e1 with e3
    have e4 := e2 (by have := hs.le; omega)
    rw [← e3, ha] at e4
    obtain rfl := Option.some.inj e4
    exact ⟨hgB, hg1, hg2⟩
  · rintro en w' ⟨rfl, vb', vw', g, hk⟩
    obtain ⟨k1, k2⟩ := h.step hs ht hn hgl hgB hg1 hg2 hv hap hby hk
    exact ⟨rfl, _, _, _, k1, k2⟩

/-- k.Finish(). -/
theorem kb_finish {w : World} {B base : Nat} {L : List Sl} {ys : List Value} {vb vw : Value} (h : Kb w B base L ys vb vw) (hm : L.length ≤ 1000) (hL : 0 < L.length ∨ 0 < B) (I : World → Prop) (hI : I w)
    (hIg : ∀ v w' row, I v → v.grownBy w' row → (∀ i, row = some i → i = B ∨ w.heap.size ≤ i) → I w') (hIs : ∀ v s j u, s ∈ L → j < s.c → I v → I (v.setCell ⟨s.g, s.o + j, none⟩ u)) :
    Calls Tryz.prog 10 #[.pointer (some ⟨B, 0, none⟩)] w fun en w' => en = .returned (.bool true) ∧ I w' := by
  have hyl : ys.length = L.length := by have := h.ow.1; simpa using this
  have hb := h.bB
  obtain ⟨r, c, hrow, hr1, hr2, hr3⟩ : ∃ r c, Row w vb r c (L.map Sl.v) ∧ r < w.heap.size ∧ r ≠ B ∧ ∀ s ∈ L, s.g ≠ r := by
    rcases Nat.eq_zero_or_pos L.length with h0 | h0
    · have e := List.length_eq_zero_iff.1 h0
      subst e
      obtain ⟨r, c, hr⟩ := row_of_owns h.ob
      rcases hL with hL | hL
      · simp at hL
      · exact ⟨0, c, ⟨by obtain ⟨ao, e1, _⟩ := hr.val; exact ⟨ao, e1, fun hp => by simp at hp⟩, fun i x hx => by simp at hx⟩, by omega, by omega, fun s hs => by simp at hs⟩
    · obtain ⟨rg, cg, hvg, _, _⟩ := h.ob.form h0
      subst hvg
      obtain ⟨r, c, hr⟩ := row_of_owns h.ob
      have hlt := h.ob.lt rg rfl
      have hrr : r = rg := by
        obtain ⟨ao, e1, e2⟩ := hr.val
        have := e2 (by simpa using h0)
        rw [this] at e1
        injection e1 with e3
        injection e3 with e3
        injection e3 with e4
        exact e4.symm
      subst hrr
      exact ⟨r, c, hr, hlt.2, by omega, fun s hs e => (h.ok s hs).2.2.2.2.2.1 (by rw [e]; rfl)⟩
  obtain ⟨r2, c2, hrow2⟩ := row_of_owns h.ow
  refine finish_any B vb vw r c r2 c2 L ys I w h.box ⟨h.box.c1, h.box.c2, hrow, fun s hs => ?_, h.apart, by omega⟩ hrow2 hyl.symm (fun k x y hx hy => ?_) (fun s hs => (h.ok s hs).2.2.2.1) hr1 hr2 (fun s hs => (h.ok s hs).2.2.1) hI hIg hIs
  · obtain ⟨a1, a2, a3, a4, a5, a6, a7⟩ := h.ok s hs
    exact ⟨a1, a2, a5, hr3 s hs⟩
  · rw [List.getElem?_map] at hx
    cases hs : L[k]? with
    | none => rw [hs] at hx; simp at hx
    | some s =>
      rw [hs] at hx
      obtain ⟨ao, g, zs, e1, e2, e3, e4, _⟩ := h.same k s y hs hy
      refine ⟨ao, s.n, s.c, _, s.n, zs, ?_, e2, e3, e4⟩
      simp at hx
      rw [← hx, e1]
end Go.Proofs.YtlhjociijkhimaaGreatDoor
