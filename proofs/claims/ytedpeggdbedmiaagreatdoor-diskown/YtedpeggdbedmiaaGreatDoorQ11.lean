import Derived.Test.YtedpeggdbedmiaaGreatDoorQ10
import Derived.Test.YtedpeggdbedmiaaGreatDoorQ8
namespace Go.Proofs.YtedpeggdbedmiaaGreatDoor
open Go.RowKit Go.MuLone
def Strg (cs : Nat → Value) (S : Nat → Prop) : Prop := ∀ q, 42 ≤ q → (S (q - 42) → (cs q).ownBlock = some (q - 42)) ∧ (¬ S (q - 42) → (cs q).ownBlock = none)
theorem vset_ex (cs : Nat → Value) (S : Nat → Prop) : ∃ cs' : Nat → Value, (∀ q, q < 42 → cs' q = cs q) ∧ Strg cs' S := by
 refine ⟨fun q => if q < 42 then cs q else @ite _ (S (q - 42)) (Classical.propDecidable _) (.slice (some ⟨q - 42, 0, none⟩) 0 0) (.slice none 0 0), fun q hq => if_pos hq, fun q hq => ?_⟩
 dsimp only
 rw [if_neg (by omega)]
 refine ⟨fun h => ?_, fun h => ?_⟩
 ·rw [if_pos h]; rfl
 ·rw [if_neg h]; rfl
theorem Strg.high {cs : Nat → Value} {S : Nat → Prop} (hs : Strg cs S) {q i : Nat} (hq : 42 ≤ q) (e : (cs q).ownBlock = some i) : S i ∧ q = 42 + i := by
 by_cases h : S (q - 42)
 ·have := (hs q hq).1 h
  rw [this] at e
  have := Option.some.inj e
  subst this
  exact ⟨h, by omega⟩
 ·have := (hs q hq).2 h
  rw [this] at e
  cases e
theorem Strg.not {cs : Nat → Value} {S : Nat → Prop} (h : Strg cs S) {base d : Nat} (hf : Fre base cs d) : ¬ S d := fun hs => by
 have := (h (42 + d) (by omega)).1 (by rw [Nat.add_sub_cancel_left]; exact hs)
 rw [Nat.add_sub_cancel_left] at this
 exact hf.2 (42 + d) (by omega) this
theorem Kst.strange {kd : Nat → Kdk} {Same : Nat → World → Nat → (Nat → Value) → Lst → Value → Prop} {w w' : World} {B base : Nat} {cs : Nat → Value} {L : Nat → List Lst} {ys : Nat → List Value} {S S' T : Nat → Prop} (hK : Kds kd Same) (h : Kst kd Same w B base cs L ys) (hs : Strg cs S) (hg : Kp w w' T) (hT : ∀ k, T k → S k ∨ k < base ∧ k ≠ B)
  (hS : ∀ k, S' k → S k ∨ w.heap.size ≤ k ∧ k < w'.heap.size) : ∃ cs', Kee w w' base cs cs' ∧ Kst kd Same w' B base cs' L ys ∧ Strg cs' S' ∧ ∀ q, q < 42 → cs' q = cs q := by
 obtain ⟨cs', low, hs'⟩ := vset_ex cs S'
 have hsz := hg.size
 have nS : ∀ q, q < 42 → ∀ i, (cs q).ownBlock = some i → ¬ S i := fun q hq i hi hx => by
  have e := (hs (42 + i) (by omega)).1 (by rw [Nat.add_sub_cancel_left]; exact hx)
  rw [Nat.add_sub_cancel_left] at e
  exact h.t.un q (42 + i) (by omega) (by omega) (by omega) i hi e
 have nB : ¬ S B := fun hx => by
  have e := (hs (42 + B) (by omega)).1 (by rw [Nat.add_sub_cancel_left]; exact hx)
  rw [Nat.add_sub_cancel_left] at e
  exact h.t.notB _ (by omega) e
 have hB := h.t.box.lt
 have tB : ¬ T B := fun hx => (hT B hx).elim nB (fun y => y.2 rfl)
 have nT : ∀ i, base ≤ i → ¬ S i → ¬ T i := fun i h1 h2 hx => (hT i hx).elim h2 (fun y => by have := y.1; omega)
 have k : Kee w w' base cs cs' := ⟨hsz, fun d hd hf => ⟨hg.block d hd (nT d hf.1 (hs.not hf)), hf.1, fun q hq e => by
  by_cases h4 : q < 42
  ·rw [low q h4] at e; exact hf.2 q hq e
  ·obtain ⟨h5, h6⟩ := hs'.high (by omega) e
   rcases hS d h5 with x | x
   ·exact hs.not hf x
   ·omega⟩⟩
 have hbk : ∀ q, ∀ i, (cs' q).ownBlock = some i → base ≤ i ∧ i < w'.heap.size := fun q i hi => by
  by_cases h4 : q < 42
  ·rw [low q h4] at hi
   have := h.t.bk q (by omega) i hi
   omega
  ·obtain ⟨h5, h6⟩ := hs'.high (by omega) hi
   rcases hS i h5 with x | x
   ·have e := (hs (42 + i) (by omega)).1 (by rw [Nat.add_sub_cancel_left]; exact x)
    rw [Nat.add_sub_cancel_left] at e
    have := h.t.bk _ (by omega) i e
    omega
   ·have := h.t.bB.2
    omega
 have bx : Kbx w' B cs' := ⟨fun i hi => by rw [low i (by omega), World.cell?_of_block (hg.block B hB tB)]; exact h.t.box.cell i hi, fun i hi => by rw [World.frozen?_of_block (hg.block B hB tB)]; exact h.t.box.fz i hi⟩
 refine ⟨cs', k, ⟨⟨bx, by rw [low 0 (by omega)]; exact h.t.c0, by rw [low 1 (by omega)]; exact h.t.c1, fun j hj => by rw [low _ (by omega)]; exact h.t.gn j hj, ⟨h.t.bB.1, by have := h.t.bB.2; omega⟩, fun q p _ _ hqp i h1 h2 => ?_, fun q _ i hi => hbk q i hi⟩, fun j hj => ?_⟩, hs', low⟩
 ·by_cases h4 : q < 42
  ·rw [low q h4] at h1
   by_cases h5 : p < 42
   ·rw [low p h5] at h2
    exact h.t.un q p (by omega) (by omega) hqp i h1 h2
   ·obtain ⟨h6, h7⟩ := hs'.high (by omega) h2
    rcases hS i h6 with x | x
    ·exact nS q h4 i h1 x
    ·have := (h.t.bk q (by omega) i h1).2; omega
  ·obtain ⟨h6, h7⟩ := hs'.high (by omega) h1
   by_cases h5 : p < 42
   ·rw [low p h5] at h2
    rcases hS i h6 with x | x
    ·exact nS p h5 i h2 x
    ·have := (h.t.bk p (by omega) i h2).2; omega
   ·obtain ⟨h8, h9⟩ := hs'.high (by omega) h2
    omega
 ·have hq := hK.q j hj
  refine (h.k j hj).kee k (low _ (by omega)) (low _ (by omega)) (fun i hi => ?_) (hK.s j hj _ _ _ _ _ k)
  rcases hi with hi | hi
  ·exact hg.block i (h.t.bk _ (by omega) i hi).2 (nT i (h.t.bk _ (by omega) i hi).1 (nS _ (by omega) i hi))
  ·exact hg.block i (h.t.bk _ (by omega) i hi).2 (nT i (h.t.bk _ (by omega) i hi).1 (nS _ (by omega) i hi))
theorem Kfr.strg {w w' : World} {B base : Nat} {cs cs' : Nat → Value} {S : Nat → Prop} (h : Kfr w w' B base cs cs') (hs : Strg cs S) (hl : ∀ k, S k → k < w.heap.size) : Strg cs' S ∧ ∀ k, S k → w'.heap[k]? = w.heap[k]? := by
 refine ⟨fun q hq => ?_, fun k hk => ?_⟩
 ·rw [(h.vis q (by omega)).1]; exact hs q hq
 ·have e := (hs (42 + k) (by omega)).1 (by rw [Nat.add_sub_cancel_left]; exact hk)
  rw [Nat.add_sub_cancel_left] at e
  exact (h.vis (42 + k) (by omega)).2 k e (hl k hk)
end Go.Proofs.YtedpeggdbedmiaaGreatDoor
