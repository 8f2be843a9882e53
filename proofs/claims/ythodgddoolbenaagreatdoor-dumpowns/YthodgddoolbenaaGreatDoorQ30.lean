import Derived.Test.YthodgddoolbenaaGreatDoorQ5
import Derived.Deep.RegionLaw
import Derived.Deep.AppendLies
import Derived.BigQuiet
import Derived.Great.Walk
namespace Go.Proofs.YthodgddoolbenaaGreatDoor
open Go.RowKit
def kup (cs : Nat → Value) (i : Nat) (v : Value) : Nat → Value := fun j => if j = i then v else cs j
theorem kup_same (cs : Nat → Value) (i : Nat) (v : Value) : kup cs i v i = v := by unfold kup; simp
theorem kup_far (cs : Nat → Value) {i j : Nat} (v : Value) (h : j ≠ i) : kup cs i v j = cs j := by unfold kup; simp [h]
structure Kbx (w : World) (B : Nat) (cs : Nat → Value) : Prop where
 cell : ∀ i, i < 41 → w.cell? ⟨B, i, none⟩ = some (cs i)
 fz : ∀ i, i < 41 → w.frozen? ⟨B, i, none⟩ = false
theorem Kbx.lt {w : World} {B : Nat} {cs : Nat → Value} (h : Kbx w B cs) : B < w.heap.size := World.block_lt_of_cell? w _ (h.cell 0 (by omega))
theorem Kbx.kept {w w' : World} {B : Nat} {cs : Nat → Value} {row : Option Nat} (h : Kbx w B cs) (hg : w.grownBy w' row) (hne : some B ≠ row) : Kbx w' B cs :=
 ⟨fun i hi => hg.cell (h.cell i hi) hne, fun i hi => (World.frozen?_of_block (hg.block B h.lt hne)).trans (h.fz i hi)⟩
theorem Kbx.set {w : World} {B : Nat} {cs : Nat → Value} (h : Kbx w B cs) (i : Nat) (hi : i < 41) (v : Value) : Kbx (w.setCell ⟨B, i, none⟩ v) B (kup cs i v) := by
 refine ⟨fun j hj => ?_, fun j hj => by simpa using h.fz j hj⟩
 by_cases e : j = i
 ·subst e
  rw [kup_same]
  exact World.cell?_setCell_same _ _ _ (h.cell j hj)
 ·rw [kup_far cs v e, World.cell?_setCell_other _ _ _ _ (off_ne (fun e' => e e'.symm))]
  exact h.cell j hj
structure Kfq (w w' : World) (P : Nat → Prop) : Prop where
 os : w'.os = w.os
 tape : w'.tape = w.tape
 output : w'.output = w.output
 size : w.heap.size ≤ w'.heap.size
 block : ∀ i, i < w.heap.size → ¬ P i → w'.heap[i]? = w.heap[i]?
theorem Kfq.of {w w' : World} {row : Option Nat} {P : Nat → Prop} (h : w.grownBy w' row) (hr : ∀ i, row = some i → P i) : Kfq w w' P :=
 ⟨h.os, h.tape, h.output, h.size, fun i hi hp => h.block i hi (fun e => hp (hr i e.symm))⟩
theorem Kfq.trans {a b c : World} {P : Nat → Prop} (h : Kfq a b P) (k : Kfq b c P) : Kfq a c P :=
 ⟨k.os.trans h.os, k.tape.trans h.tape, k.output.trans h.output, Nat.le_trans h.size k.size, fun i hi hp => (k.block i (Nat.lt_of_lt_of_le hi h.size) hp).trans (h.block i hi hp)⟩
theorem Kfq.cell {w w' : World} {P : Nat → Prop} (h : Kfq w w' P) {a : Addr} {u : Value} (hc : w.cell? a = some u) (hp : ¬ P a.block) : w'.cell? a = some u :=
 (World.cell?_of_block (h.block a.block (World.block_lt_of_cell? w _ hc) hp)).trans hc
structure Kpk (lt : TypeId) (q : Nat) (w w' : World) (B : Nat) (cs : Nat → Value) (base k : Nat) (xs ys : List Value) (x y : Value) (vb' vw' : Value) : Prop where
 box : Kbx w' B (kup (kup cs q vb') (q + 1) vw')
 ob : w'.ownsRow base lt 1 vb' (k + 1) (xs ++ [x])
 ow : w'.ownsRow base lt 1 vw' (k + 1) (ys ++ [y])
 fr : Kfq w w' (fun i => i = B ∨ (cs q).ownBlock = some i ∨ (cs (q + 1)).ownBlock = some i)
 nb : vb'.ownBlock = (cs q).ownBlock ∨ ∃ r, vb'.ownBlock = some r ∧ w.heap.size ≤ r
 nw : vw'.ownBlock = (cs (q + 1)).ownBlock ∨ ∃ r, vw'.ownBlock = some r ∧ w.heap.size ≤ r
 two : ∀ i, vb'.ownBlock = some i → vw'.ownBlock ≠ some i
theorem Kpk.make {lt : TypeId} {q : Nat} {w w1 w2 w3 w4 : World} {B : Nat} {cs : Nat → Value} {base k : Nat} {xs ys : List Value} {x y : Value} {o o' : Obj} {g1 c1 g4 c4 : Nat} (hq : q + 1 < 41)
  (hB : B < w.heap.size) (how : w.ownsRow base lt 1 (cs (q + 1)) k ys) (hB1 : (cs q).ownBlock ≠ some B) (hB2 : (cs (q + 1)).ownBlock ≠ some B) (hbw : ∀ i, (cs q).ownBlock = some i → (cs (q + 1)).ownBlock ≠ some i)
  (hG1 : (w.alloc o).grownBy w1 (cs q).ownBlock) (hat1 : (cs q).ownBlock = some g1 ∨ g1 = w.heap.size + 1) (hlt1 : g1 < w1.heap.size) (hGW2 : w1.grownBy w2 (some B)) (hs12 : w2.heap.size = w1.heap.size)
  (X2 : Kbx w2 B (kup cs q (.slice (some ⟨g1, 0, none⟩) (k + 1) c1))) (P2 : w2.ownsRow base lt 1 (.slice (some ⟨g1, 0, none⟩) (k + 1) c1) (k + 1) (xs ++ [x]))
  (hg3 : w2.drew.grownBy w3 none) (hs3 : w2.heap.size ≤ w3.heap.size)
  (hown4 : w4.ownsRow base lt 1 (.slice (some ⟨g4, 0, none⟩) (k + 1) c4) (k + 1) (ys ++ [y])) (hg4 : (w3.alloc o').grownBy w4 (cs (q + 1)).ownBlock) (hat4 : (cs (q + 1)).ownBlock = some g4 ∨ g4 = w3.heap.size + 1) :
  Kpk lt q w (w4.setCell ⟨B, q + 1, none⟩ (.slice (some ⟨g4, 0, none⟩) (k + 1) c4)) B cs base k xs ys x y (.slice (some ⟨g1, 0, none⟩) (k + 1) c1) (.slice (some ⟨g4, 0, none⟩) (k + 1) c4) := by
 have hs01 : w.heap.size < w1.heap.size := by have := hG1.size; simp at this; omega
 have hq2 : w2.grownBy w2.drew none := (Qt.refl w2).drew.grown none
 have hvw : ∀ i, (cs (q + 1)).ownBlock = some i → i < w.heap.size := fun i e => (how.lt i e).2
 have hg23 : w2.grownBy (w3.alloc o') none := grown_trans hq2 (grown_trans hg3 (World.grownBy_alloc _ _ none))
 have hset := kset_grown w4 B (q + 1) (.slice (some ⟨g4, 0, none⟩) (k + 1) c4)
 have e1 : some g1 ≠ (cs (q + 1)).ownBlock := fun e => by
  rcases hat1 with h | h
  ·exact hbw g1 h e.symm
  ·have := hvw g1 e.symm; omega
 have e2 : g1 ≠ B := fun e => by
  rcases hat1 with h | h
  ·exact hB1 (by rw [h, e])
  ·omega
 have e4 : g4 ≠ B := fun e => by
  rcases hat4 with h | h
  ·exact hB2 (by rw [h, e])
  ·omega
 refine ⟨((X2.kept hg23 (by simp)).kept hg4 (Ne.symm hB2)).set (q + 1) hq _, ((P2.kept hg23 (Or.inr (by simp [Value.ownBlock]))).kept hg4 (Or.inr e1)).kept hset (Or.inr (by simp [Value.ownBlock]; exact e2)), hown4.kept hset (Or.inr (by simp [Value.ownBlock]; exact e4)), ?_, ?_, ?_, ?_⟩
 ·refine Kfq.trans (Kfq.of (World.grownBy_alloc w o none) (by simp)) (Kfq.trans (Kfq.of hG1 (fun i e => Or.inr (Or.inl e))) (Kfq.trans (Kfq.of hGW2 (fun i e => Or.inl (Option.some.inj e).symm)) (Kfq.trans (Kfq.of hg23 (by simp)) (Kfq.trans (Kfq.of hg4 (fun i e => Or.inr (Or.inr e))) (Kfq.of hset (fun i e => Or.inl (Option.some.inj e).symm))))))
 ·rcases hat1 with h | h
  ·exact Or.inl h.symm
  ·exact Or.inr ⟨g1, rfl, by omega⟩
 ·rcases hat4 with h | h
  ·exact Or.inl h.symm
  ·exact Or.inr ⟨g4, rfl, by omega⟩
 ·intro i hi e
  have hi' : g1 = i := Option.some.inj hi
  have e' : g4 = i := Option.some.inj e
  subst hi'
  rcases hat4 with h | h
  ·exact e1 (by rw [h, e'])
  ·omega
def Fre (base : Nat) (cs : Nat → Value) (d : Nat) : Prop := base ≤ d ∧ ∀ q, q < q + 1 → (cs q).ownBlock ≠ some d
structure Kee (w w' : World) (base : Nat) (cs cs' : Nat → Value) : Prop where
 size : w.heap.size ≤ w'.heap.size
 block : ∀ d, d < w.heap.size → Fre base cs d → w'.heap[d]? = w.heap[d]? ∧ Fre base cs' d
structure Kfr (w w' : World) (B base : Nat) (cs cs' : Nat → Value) : Prop extends Kee w w' base cs cs' where
 os : w'.os = w.os
 tape : w'.tape = w.tape
 output : w'.output = w.output
 low : ∀ d, d < w.heap.size → d < base → d ≠ B → w'.heap[d]? = w.heap[d]?
 vir : cs' 41 = cs 41 ∧ ∀ i, (cs 41).ownBlock = some i → i < w.heap.size → w'.heap[i]? = w.heap[i]?
 vis : ∀ q, 41 ≤ q → cs' q = cs q ∧ ∀ i, (cs q).ownBlock = some i → i < w.heap.size → w'.heap[i]? = w.heap[i]?
theorem Kfr.of {w w' : World} {B base : Nat} {cs : Nat → Value} (h : w.grownBy w' none) : Kfr w w' B base cs cs :=
 ⟨⟨h.size, fun d hd hf => ⟨h.block d hd (by simp), hf⟩⟩, h.os, h.tape, h.output, fun d hd _ _ => h.block d hd (by simp), ⟨rfl, fun i _ hi => h.block i hi (by simp)⟩, fun q _ => ⟨rfl, fun i _ hi => h.block i hi (by simp)⟩⟩
theorem Kfr.trans {a b c : World} {B base : Nat} {cs cs' cs'' : Nat → Value} (h : Kfr a b B base cs cs') (k : Kfr b c B base cs' cs'') : Kfr a c B base cs cs'' :=
 ⟨⟨Nat.le_trans h.size k.size, fun d hd hf => by
  obtain ⟨h1, h2⟩ := h.block d hd hf
  obtain ⟨k1, k2⟩ := k.block d (Nat.lt_of_lt_of_le hd h.size) h2
  exact ⟨k1.trans h1, k2⟩⟩, k.os.trans h.os, k.tape.trans h.tape, k.output.trans h.output, fun d hd h1 h2 => (k.low d (Nat.lt_of_lt_of_le hd h.size) h1 h2).trans (h.low d hd h1 h2), ⟨k.vir.1.trans h.vir.1, fun i hi hl => (k.vir.2 i (by rw [h.vir.1]; exact hi) (Nat.lt_of_lt_of_le hl h.size)).trans (h.vir.2 i hi hl)⟩, fun q hq => ⟨(k.vis q hq).1.trans (h.vis q hq).1, fun i hi hl => ((k.vis q hq).2 i (by rw [(h.vis q hq).1]; exact hi) (Nat.lt_of_lt_of_le hl h.size)).trans ((h.vis q hq).2 i hi hl)⟩⟩
theorem Kee.row {w w' : World} {base : Nat} {cs : Nat → Value} {row : Option Nat} (hg : w.grownBy w' row) (hr : ∀ i, row = some i → i < base) : Kee w w' base cs cs :=
 ⟨hg.size, fun d hd hf => ⟨hg.block d hd (fun e => by have := hr d e.symm; have := hf.1; omega), hf⟩⟩
theorem Kee.cell {w w' : World} {base : Nat} {cs cs' : Nat → Value} (h : Kee w w' base cs cs') {a : Addr} {u : Value} (hc : w.cell? a = some u) (hf : Fre base cs a.block) : w'.cell? a = some u :=
 (World.cell?_of_block (h.block a.block (World.block_lt_of_cell? w _ hc) hf).1).trans hc
theorem Kee.there {w w' : World} {base : Nat} {cs cs' : Nat → Value} {s : Lst} (h : Kee w w' base cs cs') (ht : s.There w) (hf : Fre base cs s.g) : s.There w' := by
 intro j hj
 obtain ⟨⟨u, hu⟩, hz⟩ := ht j hj
 exact ⟨⟨u, h.cell hu hf⟩, (World.frozen?_of_block (h.block s.g (World.block_lt_of_cell? w _ hu) hf).1).trans hz⟩
theorem Kfr.grown {w0 w w' : World} {B base : Nat} {cs cs' : Nat → Value} (h : Kfr w w' B base cs cs') (hg : w0.grownBy w none) (hB : w0.heap.size ≤ B) (hb : w0.heap.size ≤ base) : w0.grownBy w' none :=
 ⟨h.os.trans hg.os, h.tape.trans hg.tape, h.output.trans hg.output, Nat.le_trans hg.size h.size, fun d hd _ => (h.low d (Nat.lt_of_lt_of_le hd hg.size) (by omega) (by omega)).trans (hg.block d hd (by simp))⟩
def Blk (w : World) (t : TypeId) (g : Nat) : Prop := ∃ cur fr, w.heap[g]? = some (.cells cur t fr)
theorem Blk.lt {w : World} {t : TypeId} {g : Nat} (h : Blk w t g) : g < w.heap.size := by
 obtain ⟨cur, fr, h⟩ := h
 exact (Array.getElem?_eq_some_iff.1 h).1
theorem Blk.kee {w w' : World} {base : Nat} {cs cs' : Nat → Value} {t : TypeId} {g : Nat} (h : Blk w t g) (k : Kee w w' base cs cs') (hf : Fre base cs g) : Blk w' t g := by
 have hl := h.lt
 obtain ⟨cur, fr, h⟩ := h
 exact ⟨cur, fr, (k.block g hl hf).1.trans h⟩
theorem Blk.ne {w : World} {t u : TypeId} {g d : Nat} (h : Blk w t g) (k : Blk w u d) (hne : t ≠ u) : g ≠ d := by
 rintro rfl
 obtain ⟨c1, f1, h1⟩ := h
 obtain ⟨c2, f2, h2⟩ := k
 rw [h1] at h2
 simp only [Option.some.injEq, Obj.cells.injEq] at h2
 exact hne h2.2.1
theorem blk_own {w : World} {base n W : Nat} {t : TypeId} {v : Value} {xs : List Value} (h : w.ownsRow base t W v n xs) (d : Nat) (e : v.ownBlock = some d) : Blk w t d := by
 rcases h.2 with ⟨rfl, _⟩ | ⟨g, cap, cur, rfl, _, hg, _⟩
 ·simp [Value.ownBlock] at e
 ·have e' : g = d := Option.some.inj e
  subst e'
  exact ⟨cur, _, hg⟩
theorem byt_lt {w : World} {ao : Option Addr} {n c : Nat} {zs : List Int} (h : Byt w ao n c zs) {ad : Addr} (e : ao = some ad) (h0 : 0 < n) : ad.block < w.heap.size := by
 have hl := h.len
 have hc := h.cells ad e 0 (.int .u8 (zs.getD 0 0)) (by rw [List.getElem?_map, List.getElem?_eq_getElem (by omega)]; simp [List.getD, List.getElem?_eq_getElem (show 0 < zs.length by omega)])
 have := World.block_lt_of_cell? w _ hc
 have hb : (ad.add 0).block = ad.block := by unfold Addr.add; split <;> rfl
 rw [hb] at this
 exact this
structure Tb (w : World) (base : Nat) (cs : Nat → Value) (ao : Option Addr) (n c : Nat) (zs : List Int) : Prop where
 by' : Byt w ao n c zs
 fr : ∀ ad, ao = some ad → 0 < n → Fre base cs ad.block
theorem Tb.kee {w w' : World} {base : Nat} {cs cs' : Nat → Value} {ao : Option Addr} {n c : Nat} {zs : List Int} (h : Tb w base cs ao n c zs) (k : Kee w w' base cs cs') : Tb w' base cs' ao n c zs := by
 refine ⟨⟨h.by'.len, h.by'.nil, fun ad had j u hu => ?_⟩, fun ad had hn => ?_⟩
 ·have hj : j < zs.length := by have := (List.getElem?_eq_some_iff.1 hu).1; simpa using this
  refine k.cell (h.by'.cells ad had j u hu) ?_
  have hb : (ad.add j).block = ad.block := by unfold Addr.add; split <;> rfl
  rw [hb]
  exact h.fr ad had (by have := h.by'.len; omega)
 ·exact (k.block ad.block (byt_lt h.by' had hn) (h.fr ad had hn)).2
structure Kpn (K : Kdk) (w : World) (base : Nat) (cs : Nat → Value) (L : List Lst) (ys : List Value) (Same : World → Nat → (Nat → Value) → Lst → Value → Prop) : Prop where
 ob : w.ownsRow base K.lt 1 (cs K.q) L.length (L.map Lst.v)
 ow : w.ownsRow base K.lt 1 (cs (K.q + 1)) L.length ys
 ok : ∀ s ∈ L, s.Ok K.W ∧ s.There w ∧ s.n ≤ 1099511620000 ∧ Blk w K.et s.g ∧ Fre base cs s.g
 ap : L.Pairwise Lst.Apart
 same : ∀ (k : Nat) (s : Lst) (y : Value), L[k]? = some s → ys[k]? = some y → Same w base cs s y
structure Kpt (w : World) (B base : Nat) (cs : Nat → Value) : Prop where
 box : Kbx w B cs
 c0 : cs 0 = .int .i64 0
 c1 : cs 1 = .int .i64 0
 gn : ∀ j, j < 13 → cs (3 * j + 4) = .slice none 0 0
 bB : B < base ∧ base ≤ w.heap.size
 un : ∀ q p, q < q + 1 → p < p + 1 → q ≠ p → ∀ i, (cs q).ownBlock = some i → (cs p).ownBlock ≠ some i
 bk : ∀ q, q < q + 1 → ∀ i, (cs q).ownBlock = some i → base ≤ i ∧ i < w.heap.size
theorem Kpt.notB {w : World} {B base : Nat} {cs : Nat → Value} (h : Kpt w B base cs) (q : Nat) (hq : q < q + 1) : (cs q).ownBlock ≠ some B := fun e => by
 have := (h.bk q hq B e).1
 have := h.bB.1
 omega
theorem Kpt.new {w : World} {B base : Nat} {cs : Nat → Value} (h : Kpt w B base cs) {d : Nat} (hd : w.heap.size ≤ d) : Fre base cs d :=
 ⟨by have := h.bB.2; omega, fun q hq e => by have := (h.bk q hq d e).2; omega⟩
structure Kst (kd : Nat → Kdk) (Same : Nat → World → Nat → (Nat → Value) → Lst → Value → Prop) (w : World) (B base : Nat) (cs : Nat → Value) (L : Nat → List Lst) (ys : Nat → List Value) : Prop where
 t : Kpt w B base cs
 k : ∀ j, j < 13 → Kpn (kd j) w base cs (L j) (ys j) (Same j)
structure Kds (kd : Nat → Kdk) (Same : Nat → World → Nat → (Nat → Value) → Lst → Value → Prop) : Prop where
 q : ∀ j, j < 13 → (kd j).q = 3 * j + 2
 s : ∀ j, j < 13 → ∀ (w w' : World) (base : Nat) (cs cs' : Nat → Value), Kee w w' base cs cs' → ∀ s y, Same j w base cs s y → Same j w' base cs' s y
theorem owns_block {w w' : World} {base n W : Nat} {t : TypeId} {v : Value} {xs : List Value} (h : w.ownsRow base t W v n xs) (hb : ∀ i, v.ownBlock = some i → w'.heap[i]? = w.heap[i]?) : w'.ownsRow base t W v n xs := by
 refine ⟨h.1, ?_⟩
 rcases h.2 with h1 | ⟨g, cap, cur, e, h2, h3, h4⟩
 ·exact Or.inl h1
 ·exact Or.inr ⟨g, cap, cur, e, h2, (hb g (by rw [e]; rfl)).trans h3, h4⟩
theorem Kpn.kee {K : Kdk} {w w' : World} {base : Nat} {cs cs' : Nat → Value} {L : List Lst} {ys : List Value} {Same : World → Nat → (Nat → Value) → Lst → Value → Prop} (h : Kpn K w base cs L ys Same) (k : Kee w w' base cs cs') (e1 : cs' K.q = cs K.q) (e2 : cs' (K.q + 1) = cs (K.q + 1))
  (hr : ∀ i, ((cs K.q).ownBlock = some i ∨ (cs (K.q + 1)).ownBlock = some i) → w'.heap[i]? = w.heap[i]?) (hs : ∀ s y, Same w base cs s y → Same w' base cs' s y) : Kpn K w' base cs' L ys Same := by
 refine ⟨by rw [e1]; exact owns_block h.ob (fun i hi => hr i (Or.inl hi)), by rw [e2]; exact owns_block h.ow (fun i hi => hr i (Or.inr hi)), fun s hs' => ?_, h.ap, fun j s y h1 h2 => hs s y (h.same j s y h1 h2)⟩
 obtain ⟨a1, a2, a3, a4, a5⟩ := h.ok s hs'
 exact ⟨a1, k.there a2 a5, a3, a4.kee k a5, (k.block s.g a4.lt a5).2⟩
theorem Kst.row {kd : Nat → Kdk} {Same : Nat → World → Nat → (Nat → Value) → Lst → Value → Prop} {w w' : World} {B base : Nat} {cs : Nat → Value} {L : Nat → List Lst} {ys : Nat → List Value} (hK : Kds kd Same) (h : Kst kd Same w B base cs L ys) {row : Option Nat} (hg : w.grownBy w' row) (hr : ∀ i, row = some i → i < base ∧ i ≠ B) : Kst kd Same w' B base cs L ys := by
 have hsz := hg.size
 have k : Kee w w' base cs cs := Kee.row hg (fun i e => (hr i e).1)
 refine ⟨⟨h.t.box.kept hg (fun e => (hr B e.symm).2 rfl), h.t.c0, h.t.c1, h.t.gn, ⟨h.t.bB.1, by have := h.t.bB.2; omega⟩, h.t.un, fun q hq i hi => ⟨(h.t.bk q hq i hi).1, by have := (h.t.bk q hq i hi).2; omega⟩⟩, fun j hj => (h.k j hj).kee k rfl rfl (fun i hi => ?_) (hK.s j hj _ _ _ _ _ k)⟩
 have hq := hK.q j hj
 have hi' : base ≤ i ∧ i < w.heap.size := by
  rcases hi with hi | hi
  ·exact h.t.bk _ (by omega) i hi
  ·exact h.t.bk _ (by omega) i hi
 exact hg.block i hi'.2 (fun e => by have := (hr i e.symm).1; omega)
theorem Kst.keptN {kd : Nat → Kdk} {Same : Nat → World → Nat → (Nat → Value) → Lst → Value → Prop} {w w' : World} {B base : Nat} {cs : Nat → Value} {L : Nat → List Lst} {ys : Nat → List Value} (hK : Kds kd Same) (h : Kst kd Same w B base cs L ys) (hg : w.grownBy w' none) : Kst kd Same w' B base cs L ys := h.row hK hg (by simp)
theorem Kst.lt {kd : Nat → Kdk} {Same : Nat → World → Nat → (Nat → Value) → Lst → Value → Prop} {w : World} {B base : Nat} {cs : Nat → Value} {L : Nat → List Lst} {ys : Nat → List Value} (h : Kst kd Same w B base cs L ys) {j : Nat} (hj : j < 13) {s : Lst} (hs : s ∈ L j) : s.g < w.heap.size := ((h.k j hj).ok s hs).2.2.2.1.lt
theorem Kpk.frame {lt : TypeId} {q : Nat} {w w' : World} {B : Nat} {cs : Nat → Value} {base k : Nat} {xs ys : List Value} {x y vb' vw' : Value} (hp : Kpk lt q w w' B cs base k xs ys x y vb' vw') (h : Kpt w B base cs) (jq : Nat) (hjq : jq < 13) (hq : q = 3 * jq + 2) :
  Kpt w' B base (kup (kup cs q vb') (q + 1) vw') ∧ Kfr w w' B base cs (kup (kup cs q vb') (q + 1) vw') ∧ (∀ p, p < p + 1 → p ≠ q → p ≠ q + 1 → ∀ i, (cs p).ownBlock = some i → w'.heap[i]? = w.heap[i]?) := by
 have hsz := hp.fr.size
 have far : ∀ p, p ≠ q → p ≠ q + 1 → kup (kup cs q vb') (q + 1) vw' p = cs p := fun p h1 h2 => by rw [kup_far _ _ h2, kup_far _ _ h1]
 have at0 : kup (kup cs q vb') (q + 1) vw' q = vb' := by rw [kup_far _ _ (by omega), kup_same]
 have at1 : kup (kup cs q vb') (q + 1) vw' (q + 1) = vw' := kup_same _ _ _
 have nbb : ∀ i, vb'.ownBlock = some i → (cs q).ownBlock = some i ∨ w.heap.size ≤ i := fun i hi => by
  rcases hp.nb with e | ⟨r, e, hr⟩
  ·exact Or.inl (by rw [← e, hi])
  ·rw [e] at hi; have := Option.some.inj hi; exact Or.inr (by omega)
 have nww : ∀ i, vw'.ownBlock = some i → (cs (q + 1)).ownBlock = some i ∨ w.heap.size ≤ i := fun i hi => by
  rcases hp.nw with e | ⟨r, e, hr⟩
  ·exact Or.inl (by rw [← e, hi])
  ·rw [e] at hi; have := Option.some.inj hi; exact Or.inr (by omega)
 have src : ∀ p, p < p + 1 → ∀ i, (kup (kup cs q vb') (q + 1) vw' p).ownBlock = some i → (cs p).ownBlock = some i ∨ (w.heap.size ≤ i ∧ (p = q ∨ p = q + 1)) := fun p _ i hi => by
  by_cases e1 : p = q
  ·subst e1; rw [at0] at hi; rcases nbb i hi with h1 | h1; exact Or.inl h1; exact Or.inr ⟨h1, Or.inl rfl⟩
  ·by_cases e2 : p = q + 1
   ·subst e2; rw [at1] at hi; rcases nww i hi with h1 | h1; exact Or.inl h1; exact Or.inr ⟨h1, Or.inr rfl⟩
   ·rw [far p e1 e2] at hi; exact Or.inl hi
 have hb2 := h.bB
 refine ⟨⟨hp.box, by rw [far 0 (by omega) (by omega)]; exact h.c0, by rw [far 1 (by omega) (by omega)]; exact h.c1, fun j hj => by rw [far _ (by omega) (by omega)]; exact h.gn j hj, ⟨h.bB.1, by omega⟩, fun p r hp1 hr1 hpr i h1 h2 => ?_, fun p hp1 i hi => ?_⟩, ⟨⟨hsz, fun d hd hf => ⟨hp.fr.block d hd ?_, hf.1, fun p hp1 e => ?_⟩⟩, hp.fr.os, hp.fr.tape, hp.fr.output, fun d hd h1 h2 => hp.fr.block d hd ?_, ⟨far 41 (by omega) (by omega), fun i hi hl => hp.fr.block i hl ?_⟩, fun p hp4 => ⟨far p (by omega) (by omega), fun i hi hl => hp.fr.block i hl ?_⟩⟩, fun p hp1 h1 h2 i hi => hp.fr.block i (h.bk p hp1 i hi).2 ?_⟩
 ·rcases src p hp1 i h1 with a | ⟨a, ap⟩
  ·rcases src r hr1 i h2 with b | ⟨b, _⟩
   ·exact h.un p r hp1 hr1 hpr i a b
   ·have := (h.bk p hp1 i a).2; omega
  ·rcases src r hr1 i h2 with b | ⟨b, br⟩
   ·have := (h.bk r hr1 i b).2; omega
   ·rcases ap with rfl | rfl
    ·rcases br with rfl | rfl
     ·exact hpr rfl
     ·rw [at0] at h1; rw [at1] at h2; exact hp.two i h1 h2
    ·rcases br with rfl | rfl
     ·rw [at1] at h1; rw [at0] at h2; exact hp.two i h2 h1
     ·exact hpr rfl
 ·rcases src p hp1 i hi with a | ⟨a, ap⟩
  ·have := h.bk p hp1 i a; omega
  ·refine ⟨by omega, ?_⟩
   rcases ap with rfl | rfl
   ·rw [at0] at hi; exact (hp.ob.lt i hi).2
   ·rw [at1] at hi; exact (hp.ow.lt i hi).2
 ·rintro (e | e | e)
  ·have := hf.1; omega
  ·exact hf.2 q (by omega) e
  ·exact hf.2 (q + 1) (by omega) e
 ·rcases src p hp1 d e with a | ⟨a, _⟩
  ·exact hf.2 p hp1 a
  ·omega
 ·rintro (e | e | e)
  ·exact h2 e
  ·have := (h.bk q (by omega) d e).1; omega
  ·have := (h.bk (q + 1) (by omega) d e).1; omega
 ·rintro (e | e | e)
  ·subst e; exact h.notB 41 (by omega) hi
  ·exact h.un 41 q (by omega) (by omega) (by omega) i hi e
  ·exact h.un 41 (q + 1) (by omega) (by omega) (by omega) i hi e
 ·rintro (e | e | e)
  ·subst e; exact h.notB p (by omega) hi
  ·exact h.un p q (by omega) (by omega) (by omega) i hi e
  ·exact h.un p (q + 1) (by omega) (by omega) (by omega) i hi e
 ·rintro (e | e | e)
  ·subst e; exact h.notB p hp1 hi
  ·exact h.un p q hp1 (by omega) h1 i hi e
  ·exact h.un p (q + 1) hp1 (by omega) h2 i hi e
theorem Kee.off {w w' : World} {base D : Nat} {cs : Nat → Value} (hD : (cs 41).ownBlock = some D) (hg : w.grownBy w' (some D)) : Kee w w' base cs cs :=
 ⟨hg.size, fun d hd hf => ⟨hg.block d hd (fun e => hf.2 41 (by omega) (by rw [hD]; exact e.symm)), hf⟩⟩
theorem Kst.off {kd : Nat → Kdk} {Same : Nat → World → Nat → (Nat → Value) → Lst → Value → Prop} {w w' : World} {B base : Nat} {cs : Nat → Value} {L : Nat → List Lst} {ys : Nat → List Value} (hK : Kds kd Same) (h : Kst kd Same w B base cs L ys) {D : Nat} (hD : (cs 41).ownBlock = some D) (hg : w.grownBy w' (some D)) : Kst kd Same w' B base cs L ys := by
 have k : Kee w w' base cs cs := Kee.off hD hg
 have hsz := hg.size
 refine ⟨⟨h.t.box.kept hg (fun e => h.t.notB 41 (by omega) (by rw [hD]; exact e.symm)), h.t.c0, h.t.c1, h.t.gn, ⟨h.t.bB.1, by have := h.t.bB.2; omega⟩, h.t.un, fun q hq i hi => ⟨(h.t.bk q hq i hi).1, by have := (h.t.bk q hq i hi).2; omega⟩⟩, fun j hj => (h.k j hj).kee k rfl rfl (fun i hi => ?_) (hK.s j hj _ _ _ _ _ k)⟩
 have hq := hK.q j hj
 rcases hi with hi | hi
 ·exact hg.block i (h.t.bk _ (by omega) i hi).2 (fun e => h.t.un _ 41 (by omega) (by omega) (by omega) i hi (by rw [hD]; exact e.symm))
 ·exact hg.block i (h.t.bk _ (by omega) i hi).2 (fun e => h.t.un _ 41 (by omega) (by omega) (by omega) i hi (by rw [hD]; exact e.symm))
def lsn (L : Nat → List Lst) (j : Nat) (D : List Lst) : Nat → List Lst := fun i => if i = j then L j ++ D else L i
def ysn (ys : Nat → List Value) (j : Nat) (D : List Value) : Nat → List Value := fun i => if i = j then ys j ++ D else ys i
theorem lsn_same (L : Nat → List Lst) (j : Nat) (D : List Lst) : lsn L j D j = L j ++ D := by unfold lsn; rw [if_pos rfl]
theorem lsn_far (L : Nat → List Lst) {i j : Nat} (D : List Lst) (h : i ≠ j) : lsn L j D i = L i := by unfold lsn; rw [if_neg h]
theorem lsn_lsn (L : Nat → List Lst) (j : Nat) (D E : List Lst) : lsn (lsn L j D) j E = lsn L j (D ++ E) := by
 funext i
 unfold lsn
 by_cases h : i = j
 ·simp [h]
 ·simp [h]
theorem lsn_nil (L : Nat → List Lst) (j : Nat) : lsn L j [] = L := by
 funext i
 unfold lsn
 by_cases h : i = j
 ·simp [h]
 ·simp [h]
theorem Kst.snoc {kd : Nat → Kdk} {Same : Nat → World → Nat → (Nat → Value) → Lst → Value → Prop} {w w' : World} {B base : Nat} {cs : Nat → Value} {L : Nat → List Lst} {ys : Nat → List Value} (hK : Kds kd Same) (h : Kst kd Same w B base cs L ys) (j q : Nat) (hj : j < 13) (hq : q = (kd j).q) {x y vb' vw' : Value} (hp : Kpk (kd j).lt q w w' B cs base (L j).length ((L j).map Lst.v) (ys j) x y vb' vw') :
  Kpt w' B base (kup (kup cs q vb') (q + 1) vw') ∧ Kfr w w' B base cs (kup (kup cs q vb') (q + 1) vw') ∧
  (∀ s : Lst, s.v = x → s.Ok (kd j).W → s.There w' → s.n ≤ 1099511620000 → Blk w' (kd j).et s.g → Fre base (kup (kup cs q vb') (q + 1) vw') s.g → (∀ t ∈ L j, t.Apart s) → Same j w' base (kup (kup cs q vb') (q + 1) vw') s y → Kst kd Same w' B base (kup (kup cs q vb') (q + 1) vw') (lsn L j [s]) (ysn ys j [y])) := by
 have hq2 := hK.q j hj
 obtain ⟨k1, k2, k3⟩ := hp.frame h.t j hj (by omega)
 refine ⟨k1, k2, fun s hv hok ht hn hty hf hap hsm => ⟨k1, fun i hi => ?_⟩⟩
 have at0 : kup (kup cs q vb') (q + 1) vw' q = vb' := by rw [kup_far _ _ (by omega), kup_same]
 have at1 : kup (kup cs q vb') (q + 1) vw' (q + 1) = vw' := kup_same _ _ _
 by_cases e : i = j
 ·subst e
  have h0 := h.k i hi
  have hyl : (ys i).length = (L i).length := by have := h0.ow.1; simpa using this
  rw [lsn_same]
  have ey : ysn ys i [y] i = ys i ++ [y] := by unfold ysn; rw [if_pos rfl]
  rw [ey]
  subst hq
  refine ⟨?_, ?_, fun t ht' => ?_, ?_, fun m t z hm hz => ?_⟩
  ·rw [at0, List.length_append, List.map_append, show ([s].map Lst.v) = [x] by simp [hv]]
   exact hp.ob
  ·rw [at1, List.length_append]
   exact hp.ow
  ·rcases List.mem_append.1 ht' with h1 | h1
   ·obtain ⟨a1, a2, a3, a4, a5⟩ := h0.ok t h1
    exact ⟨a1, k2.toKee.there a2 a5, a3, a4.kee k2.toKee a5, (k2.block t.g a4.lt a5).2⟩
   ·obtain rfl := List.mem_singleton.1 h1
    exact ⟨hok, ht, hn, hty, hf⟩
  ·rw [List.pairwise_append]
   exact ⟨h0.ap, List.pairwise_singleton _ _, fun t ht1 u hu => by obtain rfl := List.mem_singleton.1 hu; exact hap t ht1⟩
  ·rcases Nat.lt_or_ge m (L i).length with hlt | hge
   ·rw [List.getElem?_append_left hlt] at hm
    rw [List.getElem?_append_left (by omega)] at hz
    exact hK.s i hi _ _ _ _ _ k2.toKee t z (h0.same m t z hm hz)
   ·have hj0 : m = (L i).length := by
     have := (List.getElem?_eq_some_iff.1 hm).1
     rw [List.length_append] at this
     simp at this
     omega
    subst hj0
    rw [List.getElem?_append_right (by omega)] at hm
    rw [List.getElem?_append_right (by omega)] at hz
    simp at hm
    rw [hyl] at hz
    simp at hz
    subst hm hz
    exact hsm
 ·rw [lsn_far _ _ e]
  have ey : ysn ys j [y] i = ys i := by unfold ysn; rw [if_neg e]
  rw [ey]
  have hqi := hK.q i hi
  refine (h.k i hi).kee k2.toKee (by rw [kup_far _ _ (by omega), kup_far _ _ (by omega)]) (by rw [kup_far _ _ (by omega), kup_far _ _ (by omega)]) (fun d hd => ?_) (hK.s i hi _ _ _ _ _ k2.toKee)
  rcases hd with hd | hd
  ·exact k3 _ (by omega) (by omega) (by omega) d hd
  ·exact k3 _ (by omega) (by omega) (by omega) d hd
def SameB (w : World) (base : Nat) (cs : Nat → Value) (s : Lst) (y : Value) : Prop := ∃ ao bo cb zs, s.v = .slice ao s.n s.c ∧ y = .slice bo s.n cb ∧ Tb w base cs ao s.n s.c zs ∧ Tb w base cs bo s.n cb zs
theorem SameB.kee {w w' : World} {base : Nat} {cs cs' : Nat → Value} (k : Kee w w' base cs cs') : ∀ s y, SameB w base cs s y → SameB w' base cs' s y := by
 rintro s y ⟨ao, bo, cb, zs, h1, h2, h3, h4⟩
 exact ⟨ao, bo, cb, zs, h1, h2, h3.kee k, h4.kee k⟩
theorem Blk.row' {w w' : World} {t : TypeId} {g : Nat} {row : Option Nat} (h : Blk w t g) (hg : w.grownBy w' row) (hne : some g ≠ row) : Blk w' t g := by
 have hl := h.lt
 obtain ⟨cur, fr, h⟩ := h
 exact ⟨cur, fr, (hg.block g hl hne).trans h⟩
theorem own_sl {w : World} {H W n : Nat} {t : TypeId} {v : Value} {xs : List Value} (h : w.ownsRow H t W v n xs) : ∃ bo cb, v = .slice bo n cb := by
 rcases h.2 with ⟨rfl, h0⟩ | ⟨g, cap, cur, rfl, _⟩
 ·exact ⟨none, 0, by rw [h0]⟩
 ·exact ⟨_, cap, rfl⟩
structure Rdy (w : World) (base : Nat) (cs : Nat → Value) (W : Nat) (et : TypeId) (s : Lst) : Prop where
 ok : s.Ok W
 th : s.There w
 n : s.n ≤ 1099511620000
 bl : Blk w et s.g
 fr : Fre base cs s.g
theorem Rdy.kee {w w' : World} {base : Nat} {cs cs' : Nat → Value} {W : Nat} {et : TypeId} {s : Lst} (h : Rdy w base cs W et s) (k : Kee w w' base cs cs') : Rdy w' base cs' W et s :=
 ⟨h.ok, k.there h.th h.fr, h.n, h.bl.kee k h.fr, (k.block s.g h.bl.lt h.fr).2⟩
def lsz (v : Value) (g : Nat) : Lst := ⟨v, g, 0, 0, 0, 0, 0⟩
theorem lsz_ok (ao : Option Addr) (g W : Nat) : (lsz (.slice ao 0 0) g).Ok W := ⟨Nat.le_refl _, by simp [lsz], by simp [lsz], by simp [lsz], by simp [lsz], ao, rfl, fun h => by simp [lsz] at h⟩
theorem lsz_there (v : Value) (g : Nat) (w : World) : (lsz v g).There w := fun j hj => by simp [lsz] at hj
theorem lsz_apart (v : Value) (g : Nat) (t : Lst) : t.Apart (lsz v g) := fun i j _ hj => by simp [lsz] at hj
theorem fre_copy {w : World} {B base q g1 n1 c1 g4 n4 c4 lo hi : Nat} {cz : Nat → Value} (hT : Kpt w B base cz) (hlo : w.heap.size ≤ lo) (h1 : g1 < lo) (h4 : g4 < lo ∨ hi ≤ g4) {b : Nat} (hb : lo ≤ b) (hb2 : b < hi) : Fre base (kup (kup cz q (.slice (some ⟨g1, 0, none⟩) n1 c1)) (q + 1) (.slice (some ⟨g4, 0, none⟩) n4 c4)) b := by
 refine ⟨by have := hT.bB.2; omega, fun p hp e => ?_⟩
 by_cases e2 : p = q + 1
 ·subst e2
  rw [kup_same] at e
  have e' : g4 = b := Option.some.inj e
  omega
 ·by_cases e3 : p = q
  ·subst e3
   rw [kup_far _ _ e2, kup_same] at e
   have e' : g1 = b := Option.some.inj e
   omega
  ·rw [kup_far _ _ e2, kup_far _ _ e3] at e
   have := (hT.bk p hp b e).2
   omega
def kbookZ : Array Value := #[.int .i64 0, .int .i64 0, .slice none 0 0, .slice none 0 0, .slice none 0 0, .slice none 0 0, .slice none 0 0, .slice none 0 0, .slice none 0 0, .slice none 0 0, .slice none 0 0, .slice none 0 0, .slice none 0 0, .slice none 0 0, .slice none 0 0, .slice none 0 0, .slice none 0 0, .slice none 0 0, .slice none 0 0, .slice none 0 0, .slice none 0 0, .slice none 0 0, .slice none 0 0, .slice none 0 0, .slice none 0 0, .slice none 0 0, .slice none 0 0, .slice none 0 0, .slice none 0 0, .slice none 0 0, .slice none 0 0, .slice none 0 0, .slice none 0 0, .slice none 0 0, .slice none 0 0, .slice none 0 0, .slice none 0 0, .slice none 0 0, .slice none 0 0, .slice none 0 0, .slice none 0 0]
theorem kbuild_book (w : World) : (Instr.build 42 #[]).run Tryz.prog w = .ok (.agg kbookZ) w := run_build w 42 _ _ (by kernel_rfl)
theorem wpList_build_kbook {w : World} {ops : Array Oper} {rest : List Oper} {o : Oper} {a : Act} {Q : Exit → Act → World → Prop} (hgd : o.guard = none) (ho : o.op = .build 42 #[])
  (h : wpList Tryz.prog ops Q rest (a.put o.dst (.agg kbookZ)) w) : wpList Tryz.prog ops Q (o :: rest) a w := by
 refine wpList_plain hgd fun K hK => ?_
 have hrun := kbuild_book w
 unfold Oper.wp
 simp only [execOp, ho, List.map_toArray, List.map_nil, Sem.run_bind, hrun, Sem.run_pure, Result.andThen_ok]
 exact hK _ _ h
def kcs0 (i : Nat) : Value := if i < 2 then .int .i64 0 else .slice none 0 0
theorem kcs0_none (q : Nat) : (kcs0 q).ownBlock = none := by unfold kcs0; split <;> rfl
theorem kbook_get : ∀ i, i < 41 → kbookZ[i]? = some (kcs0 i) := by
 intro i hi
 match i, hi with
 | 0, _ => rfl
 | 1, _ => rfl
 | 2, _ => rfl
 | 3, _ => rfl
 | 4, _ => rfl
 | 5, _ => rfl
 | 6, _ => rfl
 | 7, _ => rfl
 | 8, _ => rfl
 | 9, _ => rfl
 | 10, _ => rfl
 | 11, _ => rfl
 | 12, _ => rfl
 | 13, _ => rfl
 | 14, _ => rfl
 | 15, _ => rfl
 | 16, _ => rfl
 | 17, _ => rfl
 | 18, _ => rfl
 | 19, _ => rfl
 | 20, _ => rfl
 | 21, _ => rfl
 | 22, _ => rfl
 | 23, _ => rfl
 | 24, _ => rfl
 | 25, _ => rfl
 | 26, _ => rfl
 | 27, _ => rfl
 | 28, _ => rfl
 | 29, _ => rfl
 | 30, _ => rfl
 | 31, _ => rfl
 | 32, _ => rfl
 | 33, _ => rfl
 | 34, _ => rfl
 | 35, _ => rfl
 | 36, _ => rfl
 | 37, _ => rfl
 | 38, _ => rfl
 | 39, _ => rfl
 | 40, _ => rfl
 | n + 41, h => omega
theorem kbx_new (w : World) : Kbx (w.alloc (.cells kbookZ 42 (0, 0))) w.heap.size kcs0 :=
 ⟨fun i hi => (cell_of_row _ w.heap.size i _ _ (0, 0) (heap_alloc_new w _)).trans (kbook_get i hi), fun i _ => frozen_of_row _ w.heap.size i _ _ (heap_alloc_new w _)⟩
theorem kcs0_sl {q : Nat} (h : 2 ≤ q) : kcs0 q = .slice none 0 0 := by unfold kcs0; rw [if_neg (by omega)]
theorem kst_new {kd : Nat → Kdk} {Same : Nat → World → Nat → (Nat → Value) → Lst → Value → Prop} (hK : Kds kd Same) {w : World} {B base : Nat} (hx : Kbx w B kcs0) (hb : B < base) (hb2 : base ≤ w.heap.size) : Kst kd Same w B base kcs0 (fun _ => []) (fun _ => []) := by
 have nn : ∀ q i, (kcs0 q).ownBlock ≠ some i := fun q i e => by rw [kcs0_none] at e; cases e
 refine ⟨⟨hx, rfl, rfl, fun j hj => kcs0_sl (by omega), ⟨hb, hb2⟩, fun q p _ _ _ i h => absurd h (nn q i), fun q _ i h => absurd h (nn q i)⟩, fun j hj => ⟨⟨rfl, Or.inl ⟨kcs0_sl (by rw [hK.q j hj]; omega), rfl⟩⟩, ⟨rfl, Or.inl ⟨kcs0_sl (by rw [hK.q j hj]; omega), rfl⟩⟩, fun s hs => absurd hs (by simp), List.Pairwise.nil, fun k s y h => absurd h (by simp)⟩⟩
end Go.Proofs.YthodgddoolbenaaGreatDoor
