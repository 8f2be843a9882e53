import Derived.Test.YtlhjociijkhimaaGreatDoorBookU
import Derived.Deep.RegionLaw
import Derived.Great.Walk
namespace Go.Proofs.YtlhjociijkhimaaGreatDoor
open Go.RowKit

/-- The book's own cells. -/
structure Box (w : World) (B : Nat) (ba ps : Int) (vb vw vg : Value) : Prop where
  c0 : w.cell? ⟨B, 0, none⟩ = some (.int .i64 ba)
  c1 : w.cell? ⟨B, 1, none⟩ = some (.int .i64 ps)
  c2 : w.cell? ⟨B, 2, none⟩ = some vb
  c3 : w.cell? ⟨B, 3, none⟩ = some vw
  c4 : w.cell? ⟨B, 4, none⟩ = some vg
  rest : ∀ k, k < 12 → w.cell? ⟨B, 5 + 3 * k, none⟩ = some (.slice none 0 0)
  fz : ∀ i, i < 5 → w.frozen? ⟨B, i, none⟩ = false

theorem Box.lt {w : World} {B : Nat} {ba ps : Int} {vb vw vg : Value} (h : Box w B ba ps vb vw vg) : B < w.heap.size := World.block_lt_of_cell? w _ h.c0

theorem Box.kept {w w' : World} {B : Nat} {ba ps : Int} {vb vw vg : Value} {row : Option Nat} (h : Box w B ba ps vb vw vg) (hg : w.grownBy w' row) (hne : some B ≠ row) : Box w' B ba ps vb vw vg :=
  ⟨hg.cell h.c0 hne, hg.cell h.c1 hne, hg.cell h.c2 hne, hg.cell h.c3 hne, hg.cell h.c4 hne, fun k hk => hg.cell (h.rest k hk) hne, fun i hi => (World.frozen?_of_block (hg.block B h.lt hne)).trans (h.fz i hi)⟩

theorem Box.far {w : World} {B : Nat} {ba ps : Int} {vb vw vg : Value} (h : Box w B ba ps vb vw vg) (a : Addr) (u : Value) (hne : a.block ≠ B) : Box (w.setCell a u) B ba ps vb vw vg := by
  have hn : ∀ i, a ≠ ⟨B, i, none⟩ := fun i e => hne (by rw [e])
  refine ⟨?_, ?_, ?_, ?_, ?_, fun k hk => ?_, fun i hi => by simpa using h.fz i hi⟩ <;> rw [World.cell?_setCell_other _ _ _ _ (hn _)]
  · exact h.c0
  · exact h.c1
  · exact h.c2
  · exact h.c3
  · exact h.c4
  · exact h.rest k hk

theorem ne_off {B i j : Nat} (h : i ≠ j) : (⟨B, i, none⟩ : Addr) ≠ ⟨B, j, none⟩ := fun e => h (by injection e)

theorem Box.set2 {w : World} {B : Nat} {ba ps : Int} {vb vw vg : Value} (h : Box w B ba ps vb vw vg) (u : Value) : Box (w.setCell ⟨B, 2, none⟩ u) B ba ps u vw vg := by
  refine ⟨?_, ?_, World.cell?_setCell_same _ _ _ h.c2, ?_, ?_, fun k hk => ?_, fun i hi => by simpa using h.fz i hi⟩ <;> rw [World.cell?_setCell_other _ _ _ _ (ne_off (by omega))]
  · exact h.c0
  · exact h.c1
  · exact h.c3
  · exact h.c4
  · exact h.rest k hk
theorem Box.set3 {w : World} {B : Nat} {ba ps : Int} {vb vw vg : Value} (h : Box w B ba ps vb vw vg) (u : Value) : Box (w.setCell ⟨B, 3, none⟩ u) B ba ps vb u vg := by
  refine ⟨?_, ?_, ?_, World.cell?_setCell_same _ _ _ h.c3, ?_, fun k hk => ?_, fun i hi => by simpa using h.fz i hi⟩ <;> rw [World.cell?_setCell_other _ _ _ _ (ne_off (by omega))]
  · exact h.c0
  · exact h.c1
  · exact h.c2
  · exact h.c4
  · exact h.rest k hk
theorem Box.set4 {w : World} {B : Nat} {ba ps : Int} {vb vw vg : Value} (h : Box w B ba ps vb vw vg) (u : Value) : Box (w.setCell ⟨B, 4, none⟩ u) B ba ps vb vw u := by
  refine ⟨?_, ?_, ?_, ?_, World.cell?_setCell_same _ _ _ h.c4, fun k hk => ?_, fun i hi => by simpa using h.fz i hi⟩ <;> rw [World.cell?_setCell_other _ _ _ _ (ne_off (by omega))]
  · exact h.c0
  · exact h.c1
  · exact h.c2
  · exact h.c3
  · exact h.rest k hk
theorem Box.set1 {w : World} {B : Nat} {ba ps : Int} {vb vw vg : Value} (h : Box w B ba ps vb vw vg) (p : Int) : Box (w.setCell ⟨B, 1, none⟩ (.int .i64 p)) B ba p vb vw vg := by
  refine ⟨?_, World.cell?_setCell_same _ _ _ h.c1, ?_, ?_, ?_, fun k hk => ?_, fun i hi => by simpa using h.fz i hi⟩ <;> rw [World.cell?_setCell_other _ _ _ _ (ne_off (by omega))]
  · exact h.c0
  · exact h.c2
  · exact h.c3
  · exact h.c4
  · exact h.rest k hk

/-- All blocks but those of P are kept. -/
structure Fq (w w' : World) (P : Nat → Prop) : Prop where
  os : w'.os = w.os
  tape : w'.tape = w.tape
  output : w'.output = w.output
  size : w.heap.size ≤ w'.heap.size
  block : ∀ i, i < w.heap.size → ¬ P i → w'.heap[i]? = w.heap[i]?

theorem Fq.of {w w' : World} {row : Option Nat} {P : Nat → Prop} (h : w.grownBy w' row) (hr : ∀ i, row = some i → P i) : Fq w w' P :=
  ⟨h.os, h.tape, h.output, h.size, fun i hi hp => h.block i hi (fun e => hp (hr i e.symm))⟩
theorem Fq.trans {a b c : World} {P : Nat → Prop} (h : Fq a b P) (k : Fq b c P) : Fq a c P :=
  ⟨k.os.trans h.os, k.tape.trans h.tape, k.output.trans h.output, Nat.le_trans h.size k.size, fun i hi hp => (k.block i (Nat.lt_of_lt_of_le hi h.size) hp).trans (h.block i hi hp)⟩
theorem Fq.set {w : World} {P : Nat → Prop} (a : Addr) (v : Value) (h : P a.block) : Fq w (w.setCell a v) P :=
  ⟨rfl, rfl, rfl, by simp, fun i _ hp => heap_setCell_other w a i v (fun e => hp (by rw [e]; exact h))⟩

theorem info_bytes : (Tryz.prog.info? 41).map (fun i => (i.zero, i.size, i.bytes)) = some (some (.slice none 0 0), 1, 24) := by kernel_rfl

theorem grown_set (w : World) (B i : Nat) (v : Value) : w.grownBy (w.setCell ⟨B, i, none⟩ v) (some B) :=
  ⟨rfl, rfl, rfl, by simp, fun k _ hk => heap_setCell_other w ⟨B, i, none⟩ k v (fun e => hk (by simp [e]))⟩

/-- Behind 'Bytes': one list more. -/
structure Kp (w w' : World) (B : Nat) (ba ps : Int) (vb vw vg : Value) (base k : Nat) (xs ys : List Value) (ao : Option Addr) (n cap : Nat) (zs : List Int) (vb' vw' : Value) (g : Nat) : Prop where
  box : Box w' B ba ps vb' vw' vg
  ob : w'.ownsRow base 41 1 vb' (k + 1) (xs ++ [.slice ao n cap])
  ow : w'.ownsRow base 41 1 vw' (k + 1) (ys ++ [.slice (some ⟨g, 0, none⟩) n n])
  copy : Byt w' (some ⟨g, 0, none⟩) n n zs
  fr : Fq w w' (fun i => i = B ∨ vb.ownBlock = some i ∨ vw.ownBlock = some i)
  nb : vb'.ownBlock = vb.ownBlock ∨ ∃ r, vb'.ownBlock = some r ∧ w.heap.size ≤ r
  nw : vw'.ownBlock = vw.ownBlock ∨ ∃ r, vw'.ownBlock = some r ∧ w.heap.size ≤ r
  two : ∀ i, vb'.ownBlock = some i → vw'.ownBlock ≠ some i
  gn : w.heap.size ≤ g
  g1 : some g ≠ vb'.ownBlock
  g2 : some g ≠ vw'.ownBlock

theorem Kp.make {w w1 w2 w3 w4 : World} {B : Nat} {ba ps : Int} {vb vw vg : Value} {base k : Nat} {xs ys : List Value} {ao : Option Addr} {n cap : Nat} {zs : List Int} {o o' : Obj} {g1 c1 g4 c4 : Nat}
    (hB : B < w.heap.size) (how : w.ownsRow base 41 1 vw k ys) (hB1 : vb.ownBlock ≠ some B) (hB2 : vw.ownBlock ≠ some B) (hbw : ∀ i, vb.ownBlock = some i → vw.ownBlock ≠ some i)
    (hG1 : (w.alloc o).grownBy w1 vb.ownBlock) (hat1 : vb.ownBlock = some g1 ∨ g1 = w.heap.size + 1) (hlt1 : g1 < w1.heap.size) (hGW2 : w1.grownBy w2 (some B)) (hs12 : w2.heap.size = w1.heap.size)
    (X2 : Box w2 B ba ps (.slice (some ⟨g1, 0, none⟩) (k + 1) c1) vw vg) (P2 : w2.ownsRow base 41 1 (.slice (some ⟨g1, 0, none⟩) (k + 1) c1) (k + 1) (xs ++ [.slice ao n cap]))
    (hown3 : w3.ownsRow w2.drew.heap.size 5 1 (.slice (some ⟨w2.drew.heap.size, 0, none⟩) n n) n (zs.map (Value.int .u8))) (hg3 : w2.drew.grownBy w3 none) (hs3 : w2.drew.heap.size < w3.heap.size)
    (hown4 : w4.ownsRow base 41 1 (.slice (some ⟨g4, 0, none⟩) (k + 1) c4) (k + 1) (ys ++ [.slice (some ⟨w2.heap.size, 0, none⟩) n n])) (hg4 : (w3.alloc o').grownBy w4 vw.ownBlock) (hat4 : vw.ownBlock = some g4 ∨ g4 = w3.heap.size + 1) :
    Kp w (w4.setCell ⟨B, 3, none⟩ (.slice (some ⟨g4, 0, none⟩) (k + 1) c4)) B ba ps vb vw vg base k xs ys ao n cap zs (.slice (some ⟨g1, 0, none⟩) (k + 1) c1) (.slice (some ⟨g4, 0, none⟩) (k + 1) c4) w2.heap.size := by
  have hs01 : w.heap.size < w1.heap.size := by have := hG1.size; simp at this; omega
  have hs3' : w2.heap.size < w3.heap.size := hs3
  have hq : w2.grownBy w2.drew none := (Qt.refl w2).drew.grown none
  have hvw : ∀ i, vw.ownBlock = some i → i < w.heap.size := fun i e => (how.lt i e).2
  have hg23 : w2.grownBy (w3.alloc o') none := grown_trans hq (grown_trans hg3 (World.grownBy_alloc _ _ none))
  have hset := grown_set w4 B 3 (.slice (some ⟨g4, 0, none⟩) (k + 1) c4)
  have e1 : some g1 ≠ vw.ownBlock := fun e => by
    rcases hat1 with h | h
    · exact hbw g1 h e.symm
    · have := hvw g1 e.symm; omega
  have e2 : g1 ≠ B := fun e => by
    rcases hat1 with h | h
    · exact hB1 (by rw [h, e])
    · omega
  have e4 : g4 ≠ B := fun e => by
    rcases hat4 with h | h
    · exact hB2 (by rw [h, e])
    · omega
  have e5 : some w2.heap.size ≠ vw.ownBlock := fun e => by have := hvw _ e.symm; omega
  refine ⟨((X2.kept hg23 (by simp)).kept hg4 (Ne.symm hB2)).set3 _, ((P2.kept hg23 (Or.inr (by simp [Value.ownBlock]))).kept hg4 (Or.inr e1)).kept hset (Or.inr (by simp [Value.ownBlock]; exact e2)), hown4.kept hset (Or.inr (by simp [Value.ownBlock]; exact e4)), ?_, ?_, ?_, ?_, ?_, by omega, ?_, ?_⟩
  · have hb3 : Byt w3 (some ⟨w2.heap.size, 0, none⟩) n n zs := Byt.of_owns hown3
    exact ((hb3.keptN (World.grownBy_alloc _ _ none)).kept hg4 (fun ad e _ => by cases e; exact e5)).kept hset (fun ad e _ => by cases e; simp; omega)
  · refine Fq.trans (Fq.of (World.grownBy_alloc w o none) (by simp)) (Fq.trans (Fq.of hG1 (fun i e => Or.inr (Or.inl e))) (Fq.trans (Fq.of hGW2 (fun i e => Or.inl (Option.some.inj e).symm)) (Fq.trans (Fq.of hg23 (by simp)) (Fq.trans (Fq.of hg4 (fun i e => Or.inr (Or.inr e))) (Fq.of hset (fun i e => Or.inl (Option.some.inj e).symm))))))
  · rcases hat1 with h | h
    · exact Or.inl h.symm
    · exact Or.inr ⟨g1, rfl, by omega⟩
  · rcases hat4 with h | h
    · exact Or.inl h.symm
    · exact Or.inr ⟨g4, rfl, by omega⟩
  · intro i hi e
    have hi' : g1 = i := Option.some.inj hi
    have e' : g4 = i := Option.some.inj e
    subst hi'
    rcases hat4 with h | h
    · exact e1 (by rw [h, e'])
    · omega
  · intro e
    have e' : w2.heap.size = g1 := Option.some.inj e
    omega
  · intro e
    have e' : w2.heap.size = g4 := Option.some.inj e
    rcases hat4 with h | h
    · have := hvw g4 h; omega
    · omega

set_option maxHeartbeats 2000000 in
set_option maxRecDepth 100000 in
theorem keep_any (B : Nat) (ba ps : Int) (vb vw vg : Value) (base k : Nat) (xs ys : List Value) (ao : Option Addr) (n cap : Nat) (zs : List Int) (w : World) (h : Box w B ba ps vb vw vg)
    (hob : w.ownsRow base 41 1 vb k xs) (how : w.ownsRow base 41 1 vw k ys) (hbase : base ≤ w.heap.size) (hB1 : vb.ownBlock ≠ some B) (hB2 : vw.ownBlock ≠ some B) (hk : k ≤ 1000000)
    (hby : Byt w ao n cap zs) (hn : n ≤ 1099511627776) (hnb : ∀ a, ao = some a → 0 < n → a.block ≠ B ∧ some a.block ≠ vb.ownBlock ∧ some a.block ≠ vw.ownBlock) (hbw : ∀ i, vb.ownBlock = some i → vw.ownBlock ≠ some i) :
    Calls Tryz.prog 6 #[.pointer (some ⟨B, 0, none⟩), .slice ao n cap] w fun en w' => en = .returned (.tuple #[]) ∧ ∃ vb' vw' g, Kp w w' B ba ps vb vw vg base k xs ys ao n cap zs vb' vw' g := by
  obtain ⟨i0, hi, hz0, hz1, hz2⟩ := info_parts info_bytes
  have HX := hid_intro h
  have HOB := hid_intro hob
  have HOW := hid_intro how
  have HBY := hid_intro hby
  have k2 := h.c2
  have HBW := hid_intro hbw
  clear h hob how hby
  go_enter Tryz.func6, Tryz.ntmps6
  go_wp2_with (at_builtin; refine wpList_append_lies _ rfl _ _ 26 rfl base 41 i0 (.slice none 0 0) 1 24 Tryz.underlying26 hi hz0 hz1 hz2 rfl (by decide) vb k xs rfl (HOB.out.alloc _) ⟨w.heap.size, 0, none⟩ 1 1 [.slice ao n cap] rfl rfl (cell_one_new _ _ _) (by intro u hu; simp at hu; subst hu; rfl) (by omega) (by unfold maxLen; omega) (by omega) (by simp; omega) (w.heap.size + 1) (by simp) ?_)
  intro g1 c1 w1 hown1 hg1 hat1 hlt1
  have X1 : Hid (Box w1 B ba ps vb vw vg) := (HX.out.kept (World.grownBy_alloc _ _ none) (by simp)).kept hg1 (Ne.symm hB1)
  have X2 : Hid (Box (w1.setCell ⟨B, 2, none⟩ (.slice (some ⟨g1, 0, none⟩) (k + 1) c1)) B ba ps (.slice (some ⟨g1, 0, none⟩) (k + 1) c1) vw vg) := X1.out.set2 _
  have k2' := X1.out.c2
  have f2' := X1.out.fz 2 (by omega)
  have k3' := X2.out.c3
  have f3' := X2.out.fz 3 (by omega)
  have H1 := hid_intro hown1
  have HG1 := hid_intro hg1
  clear hown1 hg1
  go_wp2
  obtain ⟨w2, hw2⟩ : ∃ w2, w2 = w1.setCell ⟨B, 2, none⟩ (.slice (some ⟨g1, 0, none⟩) (k + 1) c1) := ⟨_, rfl⟩
  rw [← hw2] at X2 k3' f3' ⊢
  have HW2 := hid_intro hw2
  clear hw2
  have hs12 : w2.heap.size = w1.heap.size := by rw [HW2.out]; simp
  have hs01 : w.heap.size < w1.heap.size := by have := HG1.out.size; simp at this; omega
  have hgw2 : w1.grownBy w2 (some B) := by rw [HW2.out]; exact grown_set _ _ _ _
  have Y2 : Hid (∀ w' : World, w'.heap = w2.heap → Byt w' ao n cap zs) := fun w' e =>
    (((HBY.out.keptN (World.grownBy_alloc _ _ none)).kept HG1.out (fun a ha h0 => (hnb a ha h0).2.1)).kept hgw2 (fun a ha h0 e' => (hnb a ha h0).1 (Option.some.inj e'))).heap e
  have O2 : Hid (w2.ownsRow base 41 1 vw k ys) :=
    (((HOW.out.alloc _).kept HG1.out (by
      cases hvw : vw.ownBlock with
      | none => exact Or.inl rfl
      | some i => exact Or.inr (fun e => hbw i e.symm hvw))).kept hgw2 (Or.inr hB2))
  have P2 : Hid (w2.ownsRow base 41 1 (.slice (some ⟨g1, 0, none⟩) (k + 1) c1) (k + 1) (xs ++ [.slice ao n cap])) :=
    H1.out.kept hgw2 (Or.inr (fun e => by
      have e' : g1 = B := Option.some.inj e
      have := HX.out.lt
      rcases hat1 with h | h
      · exact hB1 (by rw [h, e'])
      · omega))
  have HGW2 := hid_intro hgw2
  clear hgw2
  have HS12 := hid_intro hs12
  have hb2 : base ≤ w2.heap.size := by omega
  clear hs12
  go_region_law
    ((first
      | (go_simp; go_at_call 16; refine (refBytes_any ao n cap zs _ (by exact Y2.out _ rfl) (by omega)).mono ?_; rintro en w3 ⟨rfl, hown3, hg3, hs3⟩; have kk3 : w3.cell? ⟨B, 3, none⟩ = some vw := hg3.cell (by simpa using k3') (by simp); have nn3 := World.new_ne w3 ⟨B, 3, none⟩ kk3; have kk3o : ∀ o : Obj, (w3.alloc o).cell? ⟨B, 3, none⟩ = some vw := (fun o => by rw [World.cell?_alloc_lt _ _ _ (World.block_lt_of_cell? _ _ kk3)]; exact kk3); have ff3 : w3.frozen? ⟨B, 3, none⟩ = false := (hg3.frozen_far ⟨B, 3, none⟩ (by simpa using World.block_lt_of_cell? _ _ k3') (by simp)).trans (by simpa using f3'))
      | (refine step_append_lies _ (by rfl) _ _ _ (by rfl) base 41 i0 (.slice none 0 0) 1 24 Tryz.underlying26 hi hz0 hz1 hz2 (by rfl) (by decide) vw k ys (by rfl) (by exact ((O2.out.kept ((Qt.refl w2).drew.grown none) (by cases vw.ownBlock <;> simp)).kept hg3 (by cases vw.ownBlock <;> simp)).alloc _) ⟨w3.heap.size, 0, none⟩ 1 1 [.slice (some ⟨w2.heap.size, 0, none⟩) n n] (by rfl) (by rfl) (by exact cell_one_new _ _ _) (by intro u hu; simp at hu; subst hu; rfl) (by omega) (by unfold maxLen; omega) (by omega) (by have h9 := hg3.size; simp at h9; simp; omega) (w3.heap.size + 1) (by simp) ?_; intro g4 c4 w4 hown4 hg4 hat4 hlt4; have kk4 : w4.cell? ⟨B, 3, none⟩ = some vw := hg4.cell (by rw [World.cell?_alloc_lt _ _ _ (World.block_lt_of_cell? _ _ kk3)]; exact kk3) (Ne.symm hB2); have ff4 : w4.frozen? ⟨B, 3, none⟩ = false := (hg4.frozen_far ⟨B, 3, none⟩ (by have := World.block_lt_of_cell? _ _ kk3; simp at this ⊢; omega) (Ne.symm hB2)).trans ((World.frozen?_of_block ((World.grownBy_alloc w3 _ none).block B (World.block_lt_of_cell? _ _ kk3) (by simp))).trans ff3))))
  all_goals
    refine Go.Great.bodyPost_end0 rfl rfl ?_
    exact ⟨rfl, _, _, _, Kp.make HX.out.lt HOW.out hB1 hB2 HBW.out HG1.out hat1 hlt1 HGW2.out HS12.out X2.out P2.out hown3 hg3 hs3 hown4 hg4 hat4⟩
end Go.Proofs.YtlhjociijkhimaaGreatDoor
