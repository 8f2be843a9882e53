import Derived.Test.YtpoflmcmlnghhaaNv7
import Derived.Deep.RegionHeld3
import Derived.Deep.CutBlock
namespace Go.Proofs.Ytpoflmcmlnghhaa
open Go.RowKit Go.Maps

structure Tq where
  a : Int
  b : Int
  c : Int
  d : Int
def tqc (t : Tq) : Array Value := #[.int .i64 t.a, .int .i64 t.b, .int .i64 t.c, .int .i64 t.d]
/-- Within a turn: w0, F0: at its begin; P: where what it asks lies. -/
structure St (w0 : World) (F0 : Nat → Prop) (X B s q P : Nat) (t : Tq) (w : World) (p : Po) (ls : Fin 4 → List Int) (ver : Int) (F : Nat → Prop) (vs : Fin 4 → Value) : Prop where
  lv : Lv w F X B vs ls ver
  pl : Pl w B s q p
  bF : ∀ i, Bk B s q i → ¬ F i
  oF : ∀ i, F i → F0 i ∨ w0.heap.size ≤ i
  fr : Fr w0 w (fun i => F0 i ∨ Bk B s q i)
  tb : w.heap[P]? = some (.cells (tqc t) 44 (0, 0))
  pF : ¬ F P
  pB : ¬ Bk B s q P
  p0 : w0.heap.size ≤ P
theorem St.t {w0 w : World} {F0 F : Nat → Prop} {X B s q P : Nat} {t : Tq} {p : Po} {ls : Fin 4 → List Int} {ver : Int} {vs : Fin 4 → Value} (h : St w0 F0 X B s q P t w p ls ver F vs) (i : Nat) : w.cell? ⟨P, i, none⟩ = (tqc t)[i]? := cell_of_row w P i _ _ _ h.tb
theorem St.plt {w0 w : World} {F0 F : Nat → Prop} {X B s q P : Nat} {t : Tq} {p : Po} {ls : Fin 4 → List Int} {ver : Int} {vs : Fin 4 → Value} (h : St w0 F0 X B s q P t w p ls ver F vs) : P < w.heap.size := (Array.getElem?_eq_some_iff.1 h.tb).1
theorem bk_low {w : World} {B s q : Nat} {p : Po} (h : Pl w B s q p) : ∀ i, Bk B s q i → i < w.heap.size := by
  rintro i (rfl | rfl | rfl)
  · exact h.lt
  · exact h.ms.lt
  · exact h.mq.lt
theorem St.box {w : World} {F : Nat → Prop} {X B s q : Nat} (t : Tq) {p : Po} {ls : Fin 4 → List Int} {ver : Int} {vs : Fin 4 → Value} (hl : Lv w F X B vs ls ver) (hp : Pl w B s q p) (hb : ∀ i, Bk B s q i → ¬ F i) : St w F X B s q w.heap.size t (w.alloc (.cells (tqc t) 44)) p ls ver F vs := by
  have ga := World.grownBy_alloc w (.cells (tqc t) 44) none
  refine ⟨hl.keptN ga, hp.keptN ga, hb, fun i hi => .inl hi, Fr.ofN ga, heap_alloc_new w _, fun e => ?_, fun e => ?_, Nat.le_refl _⟩
  · have := hl.low _ e
    omega
  · have := bk_low hp _ e
    omega
/-- The pool has done something. -/
theorem St.pool {w0 w w' : World} {F0 F : Nat → Prop} {X B s q P : Nat} {t : Tq} {p p' : Po} {ls : Fin 4 → List Int} {ver : Int} {vs : Fin 4 → Value} (h : St w0 F0 X B s q P t w p ls ver F vs) (hf : Fr w w' (Bk B s q)) (hp : Pl w' B s q p') : St w0 F0 X B s q P t w' p' ls ver F vs :=
  ⟨h.lv.fr hf (fun i hi hb => h.bF i hb hi), hp, h.bF, h.oF, h.fr.then hf (fun _ hi _ => .inr hi), (hf.block P h.plt h.pB).trans h.tb, h.pF, h.pB, h.p0⟩
theorem St.keptN {w0 w w' : World} {F0 F : Nat → Prop} {X B s q P : Nat} {t : Tq} {p : Po} {ls : Fin 4 → List Int} {ver : Int} {vs : Fin 4 → Value} (h : St w0 F0 X B s q P t w p ls ver F vs) (hg : w.grownBy w' none) : St w0 F0 X B s q P t w' p ls ver F vs := h.pool (Fr.ofN hg) (h.pl.keptN hg)
/-- The life has. -/
theorem St.life {w0 w w' : World} {F0 F : Nat → Prop} {X B s q P : Nat} {t : Tq} {p : Po} {ls ls' : Fin 4 → List Int} {ver ver' : Int} {vs vs' : Fin 4 → Value} (h : St w0 F0 X B s q P t w p ls ver F vs) (hl : Lv w' (Nf F w w') X B vs' ls' ver') (hf : Fr w w' F) : St w0 F0 X B s q P t w' p ls' ver' (Nf F w w') vs' := by
  have hs := hf.size
  have h0 := h.fr.size
  refine ⟨hl, hf.pl h.pl (fun i hi => h.bF i hi), fun i hi e => ?_, fun i hi => ?_, ?_, (hf.block P h.plt h.pF).trans h.tb, fun e => ?_, h.pB, h.p0⟩
  · rcases e with e | e
    · exact h.bF i hi e
    · have := bk_low h.pl i hi
      omega
  · rcases hi with e | e
    · exact h.oF i e
    · exact .inr (by omega)
  · refine h.fr.then hf (fun i hi hl => ?_)
    rcases h.oF i hi with e | e
    · exact .inl e
    · omega
  · rcases e with e | e
    · exact h.pF e
    · have := h.plt
      omega
theorem St.lifeV {w0 w w' : World} {F0 F : Nat → Prop} {X B s q P : Nat} {t : Tq} {p : Po} {ls : Fin 4 → List Int} {ver ver' : Int} {vs : Fin 4 → Value} (h : St w0 F0 X B s q P t w p ls ver F vs) (hl : Lv w' F X B vs ls ver') (hf : Fr w w' F) : St w0 F0 X B s q P t w' p ls ver' F vs := by
  have h0 := h.fr.size
  refine ⟨hl, hf.pl h.pl (fun i hi => h.bF i hi), h.bF, h.oF, ?_, (hf.block P h.plt h.pF).trans h.tb, h.pF, h.pB, h.p0⟩
  refine h.fr.then hf (fun i hi hl => ?_)
  rcases h.oF i hi with e | e
  · exact .inl e
  · omega
/-- A list of one's own, beside the life, over what the life does. -/
theorem Ow.beside {w w' : World} {F : Nat → Prop} {base : Nat} {v : Value} {l : List Int} (h : Ow w base v l) (hf : Fr w w' F) (hd : ∀ g, v.ownBlock = some g → ¬ F g) : Ow w' base v l := h.fr hf hd

def StE (w0 : World) (F0 : Nat → Prop) (X B s q P : Nat) (t : Tq) (w : World) (p : Po) (ls : Fin 4 → List Int) (ver : Int) : Prop := ∃ F vs, St w0 F0 X B s q P t w p ls ver F vs
end Go.Proofs.Ytpoflmcmlnghhaa
