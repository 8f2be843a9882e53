import Derived.Test.YtedpeggdbedmiaaGreatDoorQ9
import Derived.Test.YtedpeggdbedmiaaGreatDoorQ2
import Derived.Maps.OwnSet
namespace Go.Proofs.YtedpeggdbedmiaaGreatDoor
open Go.RowKit Go.MuLone
def pv (g : Nat) : Value := .slice (some ⟨g, 0, none⟩) 4096 4096
theorem pv_eq (g : Nat) : pv g = .slice (some ⟨g, 0, none⟩) 4096 4096 := rfl
structure Dd where
 cap : Nat
 pg : Nat
 left : Nat
 off : Bool
 done : Nat
 reads : Nat
 vL : Value
 vP : Value
 m : Nat
 bl : List (Nat × List Int)
 pl : List (Nat × Nat × List Int)
def dcell (s : Int) (d : Dd) : Array Value := #[.int .i32 s, .int .u32 0, .int .i64 d.cap, d.vL, d.vP, .map (some d.m), .int .i64 d.pg, .int .i64 d.left, .bool d.off, .int .i64 d.done, .int .i64 d.reads]
def Bx (w : World) (B : Nat) (s : Int) (d : Dd) : Prop := w.heap[B]? = some (.cells (dcell s d) 76 (0, 0))
theorem Bx.cell {w : World} {B : Nat} {s : Int} {d : Dd} (h : Bx w B s d) (i : Nat) : w.cell? ⟨B, i, none⟩ = (dcell s d)[i]? := cell_of_row w B i _ _ _ h
theorem Bx.fz {w : World} {B : Nat} {s : Int} {d : Dd} (h : Bx w B s d) (i : Nat) : w.frozen? ⟨B, i, none⟩ = false := frozen_of_row w B i _ _ h
theorem Bx.lt {w : World} {B : Nat} {s : Int} {d : Dd} (h : Bx w B s d) : B < w.heap.size := (Array.getElem?_eq_some_iff.1 h).1
theorem Bx.set {w : World} {B : Nat} {s : Int} {d : Dd} (h : Bx w B s d) (i : Nat) (v : Value) (s' : Int) (d' : Dd) (e : (dcell s d).setIfInBounds i v = dcell s' d') : Bx (w.setCell ⟨B, i, none⟩ v) B s' d' := by
 have := heap_setCell_same w B i _ _ v h
 unfold Bx
 rw [this, e]
theorem Bx.kept {w w' : World} {B : Nat} {s : Int} {d : Dd} {row : Option Nat} (h : Bx w B s d) (hg : w.grownBy w' row) (hne : some B ≠ row) : Bx w' B s d := (hg.block B h.lt hne).trans h
theorem Bx.same {w w' : World} {B : Nat} {s : Int} {d : Dd} (h : Bx w B s d) (e : w'.heap[B]? = w.heap[B]?) : Bx w' B s d := e.trans h
theorem Bx.c0 {w : World} {B : Nat} {s : Int} {d : Dd} (h : Bx w B s d) : w.cell? ⟨B, 0, none⟩ = some (.int .i32 s) := h.cell 0
theorem Bx.c2 {w : World} {B : Nat} {s : Int} {d : Dd} (h : Bx w B s d) : w.cell? ⟨B, 2, none⟩ = some (.int .i64 d.cap) := h.cell 2
theorem Bx.c3 {w : World} {B : Nat} {s : Int} {d : Dd} (h : Bx w B s d) : w.cell? ⟨B, 3, none⟩ = some d.vL := h.cell 3
theorem Bx.c4 {w : World} {B : Nat} {s : Int} {d : Dd} (h : Bx w B s d) : w.cell? ⟨B, 4, none⟩ = some d.vP := h.cell 4
theorem Bx.c5 {w : World} {B : Nat} {s : Int} {d : Dd} (h : Bx w B s d) : w.cell? ⟨B, 5, none⟩ = some (.map (some d.m)) := h.cell 5
theorem Bx.c6 {w : World} {B : Nat} {s : Int} {d : Dd} (h : Bx w B s d) : w.cell? ⟨B, 6, none⟩ = some (.int .i64 d.pg) := h.cell 6
theorem Bx.c7 {w : World} {B : Nat} {s : Int} {d : Dd} (h : Bx w B s d) : w.cell? ⟨B, 7, none⟩ = some (.int .i64 d.left) := h.cell 7
theorem Bx.c8 {w : World} {B : Nat} {s : Int} {d : Dd} (h : Bx w B s d) : w.cell? ⟨B, 8, none⟩ = some (.bool d.off) := h.cell 8
theorem Bx.c9 {w : World} {B : Nat} {s : Int} {d : Dd} (h : Bx w B s d) : w.cell? ⟨B, 9, none⟩ = some (.int .i64 d.done) := h.cell 9
theorem Bx.c10 {w : World} {B : Nat} {s : Int} {d : Dd} (h : Bx w B s d) : w.cell? ⟨B, 10, none⟩ = some (.int .i64 d.reads) := h.cell 10
theorem Bx.ne {w : World} {B k : Nat} {s : Int} {d : Dd} (h : Bx w B s d) {cs : Array Value} {t : TypeId} {fz : Nat × Nat} (hk : w.heap[k]? = some (.cells cs t fz)) (ht : t ≠ 76) : k ≠ B := by
 intro e
 subst e
 unfold Bx at h
 rw [hk] at h
 simp only [Option.some.injEq, Obj.cells.injEq] at h
 exact ht h.2.1
structure Pb (w : World) (F : Nat → Prop) (g : Nat) (z : List Int) : Prop where
 at_ : w.heap[g]? = some (.cells (z.map (Value.int .u8)).toArray 5 (0, 0))
 len : z.length = 4096
 bt : Bt z
 mem : F g
theorem Pb.lt {w : World} {F : Nat → Prop} {g : Nat} {z : List Int} (h : Pb w F g z) : g < w.heap.size := (Array.getElem?_eq_some_iff.1 h.at_).1
theorem Pb.same {w w' : World} {F : Nat → Prop} {g : Nat} {z : List Int} (h : Pb w F g z) (e : w'.heap[g]? = w.heap[g]?) : Pb w' F g z := ⟨e.trans h.at_, h.len, h.bt, h.mem⟩
theorem Pb.byt {w : World} {F : Nat → Prop} {g : Nat} {z : List Int} (h : Pb w F g z) : Byt w (some ⟨g, 0, none⟩) 4096 4096 z := by
 refine Byt.of_cells h.len fun i hi => ?_
 rw [Nat.zero_add, cell_of_row w g i _ _ _ h.at_]
 have := h.len
 simp [List.getD, List.getElem?_eq_getElem (show i < z.length by omega)]
theorem Pb.ow {w : World} {F : Nat → Prop} {g : Nat} {z : List Int} (h : Pb w F g z) : Ow w g 4096 z := by
 have hl := h.len
 refine ⟨⟨_, h.at_, by simp [hl], fun j hj => ?_⟩, by omega, by omega⟩
 simp [List.getD, List.getElem?_eq_getElem hj]
theorem Pb.wide {w : World} {F F' : Nat → Prop} {g : Nat} {z : List Int} (h : Pb w F g z) (hf : F' g) : Pb w F' g z := ⟨h.at_, h.len, h.bt, hf⟩
def wcells (l : List (Nat × Nat × List Int)) : List Value := l.flatMap fun p => [.int .i64 p.1, pv p.2.1]
theorem wcells_app (a b : List (Nat × Nat × List Int)) : wcells (a ++ b) = wcells a ++ wcells b := by simp [wcells]
theorem wcells_len (l : List (Nat × Nat × List Int)) : (wcells l).length = l.length * 2 := by
 induction l with
 | nil => rfl
 | cons p l ih => simp [wcells] at ih ⊢; omega
theorem wcells_at (l : List (Nat × Nat × List Int)) (j : Nat) (p : Nat × Nat × List Int) (h : l[j]? = some p) : (wcells l)[2 * j]? = some (.int .i64 p.1) ∧ (wcells l)[2 * j + 1]? = some (pv p.2.1) := by
 induction l generalizing j with
 | nil => simp at h
 | cons q l ih =>
  cases j with
  | zero => simp at h; subst h; simp [wcells]
  | succ j =>
   have := ih j (by simpa using h)
   have e1 : 2 * (j + 1) = 2 * j + 2 := by omega
   have e2 : 2 * (j + 1) + 1 = 2 * j + 1 + 2 := by omega
   rw [e1, show (2 * j + 2 + 1) = 2 * j + 1 + 2 by omega]
   simpa [wcells] using this
def Rv (v : Value) : Option (DataW Value × List MemPlace) := some (.held v, [])
def Mp (w : World) (m n : Nat) (f : Nat → Option Nat) : Prop :=
 ∃ D : DataW Value, w.ownsMap Tryz.prog 3 Rv m n D ∧ ∀ i : Nat, i < 1048576 → Maps.has D (.int .i64 i) = (f i).isSome ∧ ∀ h, f i = some h → ∀ z, D.atKey (.int .i64 i) z = .held (pv h)
def nw (l : List (Nat × Nat × List Int)) (i : Nat) : Option Nat := (l.reverse.find? fun p => p.1 == i).map fun p => p.2.1
theorem nw_nil (i : Nat) : nw [] i = none := rfl
theorem nw_snoc (l : List (Nat × Nat × List Int)) (p : Nat × Nat × List Int) (i : Nat) : nw (l ++ [p]) i = if p.1 = i then some p.2.1 else nw l i := by
 unfold nw
 rw [List.reverse_append, List.reverse_singleton, List.singleton_append, List.find?_cons]
 by_cases e : p.1 = i
 ·simp [e]
 ·have : (p.1 == i) = false := by simp [e]
  simp [this, e]
structure Dm (w : World) (F : Nat → Prop) (d : Dd) : Prop where
 lr : w.ownsRow 0 47 1 d.vL d.bl.length (d.bl.map fun x => pv x.1)
 fl : ∀ g, d.vL.ownBlock = some g → F g
 pr : w.ownsRow 0 78 2 d.vP d.pl.length (wcells d.pl)
 fp : ∀ g, d.vP.ownBlock = some g → F g
 bp : ∀ x ∈ d.bl, Pb w F x.1 x.2
 pp : ∀ p ∈ d.pl, Pb w F p.2.1 p.2.2 ∧ p.1 < 524288
 nd : (d.bl.map (·.1) ++ d.pl.map (·.2.1)).Nodup
 mp : ∃ n, n ≤ d.done ∧ Mp w d.m n (nw d.pl)
 pc : d.pl.length ≤ d.done
 fm : F d.m
 low : ∀ k, F k → k < w.heap.size
def Mine (d : Dd) (k : Nat) : Prop := d.vL.ownBlock = some k ∨ d.vP.ownBlock = some k ∨ k ∈ d.bl.map (·.1) ∨ k ∈ d.pl.map (·.2.1) ∨ k = d.m
theorem Dm.mine {w : World} {F : Nat → Prop} {d : Dd} (h : Dm w F d) {k : Nat} (hk : Mine d k) : F k := by
 rcases hk with e | e | e | e | rfl
 ·exact h.fl k e
 ·exact h.fp k e
 ·obtain ⟨x, hx, rfl⟩ := List.mem_map.1 e; exact (h.bp x hx).mem
 ·obtain ⟨x, hx, rfl⟩ := List.mem_map.1 e; exact (h.pp x hx).1.mem
 ·exact h.fm
theorem owns_same {w w' : World} {base : Nat} {e : TypeId} {size n : Nat} {v : Value} {xs : List Value} (h : w.ownsRow base e size v n xs) (k : ∀ g, v.ownBlock = some g → w'.heap[g]? = w.heap[g]?) : w'.ownsRow base e size v n xs := by
 refine ⟨h.1, ?_⟩
 rcases h.2 with h2 | ⟨g, cap, cur, rfl, a1, a2, a3⟩
 ·exact .inl h2
 ·exact .inr ⟨g, cap, cur, rfl, a1, (k g rfl).trans a2, a3⟩
theorem Mp.same {w w' : World} {m n : Nat} {f : Nat → Option Nat} (h : Mp w m n f) (e : w'.heap[m]? = w.heap[m]?) : Mp w' m n f := by
 obtain ⟨D, ⟨es, clock, h1, h2⟩, h3⟩ := h
 exact ⟨D, ⟨es, clock, e.trans h1, h2⟩, h3⟩
theorem Mp.isMap {w : World} {m n : Nat} {f : Nat → Option Nat} (h : Mp w m n f) : ∃ es clock, w.heap[m]? = some (.map es clock) := by
 obtain ⟨D, ⟨es, clock, h1, h2⟩, h3⟩ := h
 exact ⟨es, clock, h1⟩
theorem Dm.same {w w' : World} {F : Nat → Prop} {d : Dd} (h : Dm w F d) (hs : w.heap.size ≤ w'.heap.size) (e : ∀ k, Mine d k → w'.heap[k]? = w.heap[k]?) : Dm w' F d := by
 refine ⟨owns_same h.lr fun g hg => e g (.inl hg), h.fl, owns_same h.pr fun g hg => e g (.inr (.inl hg)), h.fp, fun x hx => (h.bp x hx).same (e _ (.inr (.inr (.inl (List.mem_map.2 ⟨x, hx, rfl⟩))))),
  fun x hx => ⟨(h.pp x hx).1.same (e _ (.inr (.inr (.inr (.inl (List.mem_map.2 ⟨x, hx, rfl⟩)))))), (h.pp x hx).2⟩, h.nd, ?_, h.pc, h.fm, fun k hk => Nat.lt_of_lt_of_le (h.low k hk) hs⟩
 obtain ⟨n, hn, hm⟩ := h.mp
 exact ⟨n, hn, hm.same (e _ (.inr (.inr (.inr (.inr rfl)))))⟩
theorem Dm.scal {w : World} {F : Nat → Prop} {d d' : Dd} (h : Dm w F d) (e1 : d'.vL = d.vL) (e2 : d'.vP = d.vP) (e3 : d'.m = d.m) (e4 : d'.bl = d.bl) (e5 : d'.pl = d.pl) (hd : d.done ≤ d'.done) : Dm w F d' := by
 obtain ⟨n, hn, hm⟩ := h.mp
 refine ⟨by rw [e1, e4]; exact h.lr, by rw [e1]; exact h.fl, by rw [e2, e5]; exact h.pr, by rw [e2]; exact h.fp, by rw [e4]; exact h.bp, by rw [e5]; exact h.pp, by rw [e4, e5]; exact h.nd, ⟨n, Nat.le_trans hn hd, by rw [e3, e5]; exact hm⟩, by rw [e5]; exact Nat.le_trans h.pc hd, by rw [e3]; exact h.fm, h.low⟩
theorem Dm.other {w : World} {F : Nat → Prop} {d : Dd} (h : Dm w F d) {k : Nat} {cs : Array Value} {t : TypeId} {fz : Nat × Nat} (hk : w.heap[k]? = some (.cells cs t fz)) (h1 : t ≠ 5) (h2 : t ≠ 47) (h3 : t ≠ 78) : ¬ Mine d k := by
 intro hm
 rcases hm with e | e | e | e | rfl
 ·rcases h.lr.2 with ⟨hv, _⟩ | ⟨g, cap, cur, hv, _, hg, _⟩
  ·rw [hv] at e; cases e
  ·rw [hv] at e
   have := Option.some.inj e
   simp at this
   subst this
   rw [hg] at hk
   simp only [Option.some.injEq, Obj.cells.injEq] at hk
   exact h2 hk.2.1.symm
 ·rcases h.pr.2 with ⟨hv, _⟩ | ⟨g, cap, cur, hv, _, hg, _⟩
  ·rw [hv] at e; cases e
  ·rw [hv] at e
   have := Option.some.inj e
   simp at this
   subst this
   rw [hg] at hk
   simp only [Option.some.injEq, Obj.cells.injEq] at hk
   exact h3 hk.2.1.symm
 ·obtain ⟨x, hx, rfl⟩ := List.mem_map.1 e
  rw [(h.bp x hx).at_] at hk
  simp only [Option.some.injEq, Obj.cells.injEq] at hk
  exact h1 hk.2.1.symm
 ·obtain ⟨x, hx, rfl⟩ := List.mem_map.1 e
  rw [(h.pp x hx).1.at_] at hk
  simp only [Option.some.injEq, Obj.cells.injEq] at hk
  exact h1 hk.2.1.symm
 ·obtain ⟨n, hn, hm⟩ := h.mp
  obtain ⟨es, clock, hc⟩ := hm.isMap
  rw [hc] at hk
  cases hk
theorem Dm.box {w w' : World} {F : Nat → Prop} {d : Dd} {B : Nat} {s : Int} {d' : Dd} (h : Dm w F d) (hb : Bx w B s d') (hg : w.grownBy w' (some B)) : Dm w' F d := by
 have hn := h.other hb (by decide) (by decide) (by decide)
 refine h.same hg.size fun k hk => hg.block k (h.low k (h.mine hk)) (fun e => hn ?_)
 rw [← Option.some.inj e]; exact hk
theorem Dm.keptN {w w' : World} {F : Nat → Prop} {d : Dd} (h : Dm w F d) (hg : w.grownBy w' none) : Dm w' F d :=
 h.same hg.size fun k hk => hg.block k (h.low k (h.mine hk)) (by simp)
theorem Dm.wide {w : World} {F G : Nat → Prop} {d : Dd} (h : Dm w F d) (hG : ∀ k, F k → G k) (low : ∀ k, G k → k < w.heap.size) : Dm w G d :=
 ⟨h.lr, fun g e => hG g (h.fl g e), h.pr, fun g e => hG g (h.fp g e), fun x hx => (h.bp x hx).wide (hG _ (h.bp x hx).mem), fun x hx => ⟨(h.pp x hx).1.wide (hG _ (h.pp x hx).1.mem), (h.pp x hx).2⟩, h.nd, h.mp, h.pc, hG _ h.fm, low⟩
structure Kp (w w' : World) (F : Nat → Prop) : Prop where
 os : w'.os = w.os
 tape : w'.tape = w.tape
 output : w'.output = w.output
 size : w.heap.size ≤ w'.heap.size
 block : ∀ k, k < w.heap.size → ¬ F k → w'.heap[k]? = w.heap[k]?
theorem Kp.refl (w : World) (F : Nat → Prop) : Kp w w F := ⟨rfl, rfl, rfl, Nat.le_refl _, fun _ _ _ => rfl⟩
theorem Kp.of {w w' : World} {F : Nat → Prop} {row : Option Nat} (h : w.grownBy w' row) (hr : ∀ k, row = some k → F k) : Kp w w' F :=
 ⟨h.os, h.tape, h.output, h.size, fun k hk hf => h.block k hk (fun e => hf (hr k e.symm))⟩
theorem Kp.trans {a b c : World} {F G : Nat → Prop} (h : Kp a b F) (k : Kp b c G) (hg : ∀ i, G i → F i ∨ a.heap.size ≤ i) : Kp a c F :=
 ⟨k.os.trans h.os, k.tape.trans h.tape, k.output.trans h.output, Nat.le_trans h.size k.size, fun i hi hf => (k.block i (Nat.lt_of_lt_of_le hi h.size) (fun e => (hg i e).elim hf (fun x => by omega))).trans (h.block i hi hf)⟩
theorem Kp.grown {w w' : World} {F : Nat → Prop} (h : Kp w w' F) (hf : ∀ k, F k → w.heap.size ≤ k) : w.grownBy w' none :=
 ⟨h.os, h.tape, h.output, h.size, fun k hk _ => h.block k hk (fun e => by have := hf k e; omega)⟩
end Go.Proofs.YtedpeggdbedmiaaGreatDoor
