import Derived.Test.YtiljdhhfhjhhiaaDkA
namespace Go.Proofs.Ytiljdhhfhjhhiaa
open Go.RowKit Go.MuLone

/-! ### the document's disk in memory -/

def rcell (d : Dd) : Array Value := #[.int .i64 d.cap, d.vL, d.vP, .bool d.off, .int .i64 d.left, .int .i64 d.done, .int .i64 d.reads]
def Rx (w : World) (B : Nat) (d : Dd) : Prop := w.heap[B]? = some (.cells (rcell d) 80 (0, 0))
theorem Rx.cell {w : World} {B : Nat} {d : Dd} (h : Rx w B d) (i : Nat) : w.cell? ⟨B, i, none⟩ = (rcell d)[i]? := cell_of_row w B i _ _ _ h
theorem Rx.fz {w : World} {B : Nat} {d : Dd} (h : Rx w B d) (i : Nat) : w.frozen? ⟨B, i, none⟩ = false := frozen_of_row w B i _ _ h
theorem Rx.lt {w : World} {B : Nat} {d : Dd} (h : Rx w B d) : B < w.heap.size := (Array.getElem?_eq_some_iff.1 h).1
theorem Rx.set {w : World} {B : Nat} {d : Dd} (h : Rx w B d) (i : Nat) (v : Value) (d' : Dd) (e : (rcell d).setIfInBounds i v = rcell d') : Rx (w.setCell ⟨B, i, none⟩ v) B d' := by
  have := heap_setCell_same w B i _ _ v h
  unfold Rx
  rw [this, e]
theorem Rx.kept {w w' : World} {B : Nat} {d : Dd} {row : Option Nat} (h : Rx w B d) (hg : w.grownBy w' row) (hne : some B ≠ row) : Rx w' B d := (hg.block B h.lt hne).trans h
theorem Rx.same {w w' : World} {B : Nat} {d : Dd} (h : Rx w B d) (e : w'.heap[B]? = w.heap[B]?) : Rx w' B d := e.trans h
theorem Rx.c0 {w : World} {B : Nat} {d : Dd} (h : Rx w B d) : w.cell? ⟨B, 0, none⟩ = some (.int .i64 d.cap) := h.cell 0
theorem Rx.c1 {w : World} {B : Nat} {d : Dd} (h : Rx w B d) : w.cell? ⟨B, 1, none⟩ = some d.vL := h.cell 1
theorem Rx.c2 {w : World} {B : Nat} {d : Dd} (h : Rx w B d) : w.cell? ⟨B, 2, none⟩ = some d.vP := h.cell 2
theorem Rx.c3 {w : World} {B : Nat} {d : Dd} (h : Rx w B d) : w.cell? ⟨B, 3, none⟩ = some (.bool d.off) := h.cell 3
theorem Rx.c4 {w : World} {B : Nat} {d : Dd} (h : Rx w B d) : w.cell? ⟨B, 4, none⟩ = some (.int .i64 d.left) := h.cell 4
theorem Rx.c5 {w : World} {B : Nat} {d : Dd} (h : Rx w B d) : w.cell? ⟨B, 5, none⟩ = some (.int .i64 d.done) := h.cell 5
theorem Rx.c6 {w : World} {B : Nat} {d : Dd} (h : Rx w B d) : w.cell? ⟨B, 6, none⟩ = some (.int .i64 d.reads) := h.cell 6
theorem Rx.ne {w : World} {B k : Nat} {d : Dd} (h : Rx w B d) {cs : Array Value} {t : TypeId} {fz : Nat × Nat} (hk : w.heap[k]? = some (.cells cs t fz)) (ht : t ≠ 80) : k ≠ B := by
  intro e
  subst e
  unfold Rx at h
  rw [hk] at h
  simp only [Option.some.injEq, Obj.cells.injEq] at h
  exact ht h.2.1

/-- What its block leads to. -/
structure Rm (w : World) (F : Nat → Prop) (d : Dd) : Prop where
  lr : w.ownsRow 0 22 1 d.vL d.bl.length (d.bl.map fun x => pv x.1)
  fl : ∀ g, d.vL.ownBlock = some g → F g
  pr : w.ownsRow 0 90 2 d.vP d.pl.length (wcells d.pl)
  fp : ∀ g, d.vP.ownBlock = some g → F g
  bp : ∀ x ∈ d.bl, Pb w F x.1 x.2
  pp : ∀ p ∈ d.pl, Pb w F p.2.1 p.2.2 ∧ p.1 < 524288
  pc : d.pl.length ≤ d.done
  low : ∀ k, F k → k < w.heap.size

def RMine (d : Dd) (k : Nat) : Prop := d.vL.ownBlock = some k ∨ d.vP.ownBlock = some k ∨ k ∈ d.bl.map (·.1) ∨ k ∈ d.pl.map (·.2.1)
theorem Rm.mine {w : World} {F : Nat → Prop} {d : Dd} (h : Rm w F d) {k : Nat} (hk : RMine d k) : F k := by
  rcases hk with e | e | e | e
  · exact h.fl k e
  · exact h.fp k e
  · obtain ⟨x, hx, rfl⟩ := List.mem_map.1 e; exact (h.bp x hx).mem
  · obtain ⟨x, hx, rfl⟩ := List.mem_map.1 e; exact (h.pp x hx).1.mem
theorem Rm.same {w w' : World} {F : Nat → Prop} {d : Dd} (h : Rm w F d) (hs : w.heap.size ≤ w'.heap.size) (e : ∀ k, RMine d k → w'.heap[k]? = w.heap[k]?) : Rm w' F d :=
  ⟨owns_same h.lr fun g hg => e g (.inl hg), h.fl, owns_same h.pr fun g hg => e g (.inr (.inl hg)), h.fp, fun x hx => (h.bp x hx).same (e _ (.inr (.inr (.inl (List.mem_map.2 ⟨x, hx, rfl⟩))))),
    fun x hx => ⟨(h.pp x hx).1.same (e _ (.inr (.inr (.inr (List.mem_map.2 ⟨x, hx, rfl⟩))))), (h.pp x hx).2⟩, h.pc, fun k hk => Nat.lt_of_lt_of_le (h.low k hk) hs⟩
theorem Rm.scal {w : World} {F : Nat → Prop} {d d' : Dd} (h : Rm w F d) (e1 : d'.vL = d.vL) (e2 : d'.vP = d.vP) (e4 : d'.bl = d.bl) (e5 : d'.pl = d.pl) (hd : d.done ≤ d'.done) : Rm w F d' :=
  ⟨by rw [e1, e4]; exact h.lr, by rw [e1]; exact h.fl, by rw [e2, e5]; exact h.pr, by rw [e2]; exact h.fp, by rw [e4]; exact h.bp, by rw [e5]; exact h.pp, by rw [e5]; exact Nat.le_trans h.pc hd, h.low⟩
theorem row_block {w : World} {base : Nat} {e : TypeId} {size n : Nat} {v : Value} {xs : List Value} (h : w.ownsRow base e size v n xs) {k : Nat} (hk : v.ownBlock = some k) : ∃ cur, w.heap[k]? = some (.cells cur e (0, 0)) := by
  rcases h.2 with ⟨hv, _⟩ | ⟨g, cap, cur, hv, _, hg, _⟩
  · rw [hv] at hk; cases hk
  · rw [hv] at hk
    have := Option.some.inj hk
    simp at this
    subst this
    exact ⟨cur, hg⟩
/-- A block of another type is none of them. -/
theorem Rm.other {w : World} {F : Nat → Prop} {d : Dd} (h : Rm w F d) {k : Nat} {cs : Array Value} {t : TypeId} {fz : Nat × Nat} (hk : w.heap[k]? = some (.cells cs t fz)) (h1 : t ≠ 5) (h2 : t ≠ 22) (h3 : t ≠ 90) : ¬ RMine d k := by
  intro hm
  rcases hm with e | e | e | e
  · obtain ⟨cur, hg⟩ := row_block h.lr e
    rw [hg] at hk
    simp only [Option.some.injEq, Obj.cells.injEq] at hk
    exact h2 hk.2.1.symm
  · obtain ⟨cur, hg⟩ := row_block h.pr e
    rw [hg] at hk
    simp only [Option.some.injEq, Obj.cells.injEq] at hk
    exact h3 hk.2.1.symm
  · obtain ⟨x, hx, rfl⟩ := List.mem_map.1 e
    rw [(h.bp x hx).at_] at hk
    simp only [Option.some.injEq, Obj.cells.injEq] at hk
    exact h1 hk.2.1.symm
  · obtain ⟨x, hx, rfl⟩ := List.mem_map.1 e
    rw [(h.pp x hx).1.at_] at hk
    simp only [Option.some.injEq, Obj.cells.injEq] at hk
    exact h1 hk.2.1.symm
theorem Rm.box {w w' : World} {F : Nat → Prop} {d d' : Dd} {B : Nat} (h : Rm w F d) (hb : Rx w B d') (hg : w.grownBy w' (some B)) : Rm w' F d := by
  have hn := h.other hb (by decide) (by decide) (by decide)
  refine h.same hg.size fun k hk => hg.block k (h.low k (h.mine hk)) (fun e => hn ?_)
  rw [← Option.some.inj e]; exact hk
theorem Rm.keptN {w w' : World} {F : Nat → Prop} {d : Dd} (h : Rm w F d) (hg : w.grownBy w' none) : Rm w' F d :=
  h.same hg.size fun k hk => hg.block k (h.low k (h.mine hk)) (by simp)
theorem Rm.wide {w : World} {F G : Nat → Prop} {d : Dd} (h : Rm w F d) (hG : ∀ k, F k → G k) (low : ∀ k, G k → k < w.heap.size) : Rm w G d :=
  ⟨h.lr, fun g e => hG g (h.fl g e), h.pr, fun g e => hG g (h.fp g e), fun x hx => (h.bp x hx).wide (hG _ (h.bp x hx).mem), fun x hx => ⟨(h.pp x hx).1.wide (hG _ (h.pp x hx).1.mem), (h.pp x hx).2⟩, h.pc, low⟩

/-- The document's disk. -/
structure Rk (w : World) (B : Nat) (F : Nat → Prop) (d : Dd) : Prop where
  bx : Rx w B d
  dm : Rm w F d
  fb : F B
  cap : d.cap < 524288
  le : pgs d.bl.length d.pl ≤ d.cap
def Rz (w : World) (B : Nat) (F : Nat → Prop) (s : Ds) : Prop := ∃ d, Rk w B F d ∧ d.abs = s
theorem Rk.box {w w' : World} {B : Nat} {F : Nat → Prop} {d : Dd} (h : Rk w B F d) (hb : Rx w' B d) (hg : w.grownBy w' (some B)) : Rk w' B F d := ⟨hb, h.dm.box h.bx hg, h.fb, h.cap, h.le⟩
theorem Rk.same {w w' : World} {B : Nat} {F : Nat → Prop} {d : Dd} (h : Rk w B F d) (hs : w.heap.size ≤ w'.heap.size) (e : ∀ k, F k → w'.heap[k]? = w.heap[k]?) : Rk w' B F d :=
  ⟨h.bx.same (e B h.fb), h.dm.same hs fun k hk => e k (h.dm.mine hk), h.fb, h.cap, h.le⟩
theorem Rk.keptN {w w' : World} {B : Nat} {F : Nat → Prop} {d : Dd} (h : Rk w B F d) (hg : w.grownBy w' none) : Rk w' B F d := h.same hg.size fun k hk => hg.block k (h.dm.low k hk) (by simp)
theorem Rz.kp {w w' : World} {B : Nat} {F G : Nat → Prop} {s : Ds} (h : Rz w B F s) (hg : Kp w w' G) (hn : ∀ k, F k → ¬ G k) : Rz w' B F s := by
  obtain ⟨d, h1, h2⟩ := h
  exact ⟨d, h1.same hg.size fun k hk => hg.block k (h1.dm.low k hk) (hn k hk), h2⟩
theorem Rz.keptN {w w' : World} {B : Nat} {F : Nat → Prop} {s : Ds} (h : Rz w B F s) (hg : w.grownBy w' none) : Rz w' B F s := by
  obtain ⟨d, h1, h2⟩ := h
  exact ⟨d, h1.keptN hg, h2⟩
theorem Rz.low {w : World} {B : Nat} {F : Nat → Prop} {s : Ds} (h : Rz w B F s) : ∀ k, F k → k < w.heap.size := by
  obtain ⟨d, h1, h2⟩ := h
  exact h1.dm.low
theorem Rk.pend {w : World} {B : Nat} {F : Nat → Prop} {d : Dd} (h : Rk w B F d) (j : Nat) (p : Nat × Nat × List Int) (hp : d.pl[j]? = some p) : ∃ g cap, d.vP = .slice (some ⟨g, 0, none⟩) d.pl.length cap ∧ w.cell? ⟨g, j * 2, none⟩ = some (.int .i64 p.1) ∧ w.cell? ⟨g, j * 2 + 1, none⟩ = some (.slice (some ⟨p.2.1, 0, none⟩) 4096 4096) := by
  have hj := (List.getElem?_eq_some_iff.1 hp).1
  obtain ⟨g, cap, cur, hv, _⟩ := h.dm.pr.2.resolve_left (fun e => by have := e.2; omega)
  have own := h.dm.pr
  rw [hv] at own
  refine ⟨g, cap, hv, ?_, ?_⟩
  · rw [own.cellAt (j * 2) (by omega), Nat.mul_comm]; exact (wcells_at _ _ _ hp).1
  · rw [own.cellAt (j * 2 + 1) (by omega), Nat.mul_comm]; exact (wcells_at _ _ _ hp).2
theorem Rk.last {w : World} {B : Nat} {F : Nat → Prop} {d : Dd} (h : Rk w B F d) (j : Nat) (x : Nat × List Int) (hp : d.bl[j]? = some x) : ∃ g cap, d.vL = .slice (some ⟨g, 0, none⟩) d.bl.length cap ∧ w.cell? ⟨g, j, none⟩ = some (.slice (some ⟨x.1, 0, none⟩) 4096 4096) := by
  have hj := (List.getElem?_eq_some_iff.1 hp).1
  obtain ⟨g, cap, cur, hv, _⟩ := h.dm.lr.2.resolve_left (fun e => by have := e.2; omega)
  have own := h.dm.lr
  rw [hv] at own
  refine ⟨g, cap, hv, ?_⟩
  rw [own.cellAt j (by omega), List.getElem?_map, hp]
  rfl
end Go.Proofs.Ytiljdhhfhjhhiaa
