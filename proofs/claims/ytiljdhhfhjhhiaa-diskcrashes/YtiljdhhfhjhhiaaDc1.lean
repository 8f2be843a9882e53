import Derived.Test.YtiljdhhfhjhhiaaDkLs
import Derived.Test.YtiljdhhfhjhhiaaDp3
import Derived.Test.YtiljdhhfhjhhiaaDkIm
namespace Go.Proofs.Ytiljdhhfhjhhiaa
open Go.RowKit Go.MuLone

theorem own_ne_blk12 {w : World} {base size n k : Nat} {e e' : TypeId} {v : Value} {xs : List Value} {c : Array Value} {fz : Nat × Nat} (h : w.ownsRow base e size v n xs) (hk : w.heap[k]? = some (.cells c e' fz)) (hne : e' ≠ e) : v.ownBlock ≠ some k := by
  intro hv
  rcases h.2 with ⟨rfl, _⟩ | ⟨g, cap, cur, rfl, _, hg, _⟩
  · cases hv
  · have e1 : g = k := Option.some.inj hv
    subst e1
    rw [hk] at hg
    injection hg with hg
    injection hg with _ h2
    exact hne h2
theorem own_ne_own12 {w : World} {base base' size size' n n' k : Nat} {e e' : TypeId} {v v' : Value} {xs xs' : List Value} (h : w.ownsRow base e size v n xs) (h' : w.ownsRow base' e' size' v' n' xs') (hne : e' ≠ e) (hk : v'.ownBlock = some k) : v.ownBlock ≠ some k := by
  rcases h'.2 with ⟨rfl, _⟩ | ⟨g, cap, cur, rfl, _, hg, _⟩
  · cases hk
  · have e1 : g = k := Option.some.inj hk
    subst e1
    exact own_ne_blk12 h hg hne

def qcells (l : List (Nat × Int)) : List Value := l.flatMap fun d => [.int .i64 (d.1 : Int), .int .u8 d.2]
theorem qcells_app (a b : List (Nat × Int)) : qcells (a ++ b) = qcells a ++ qcells b := by simp [qcells]
theorem qcells_at (l : List (Nat × Int)) (j : Nat) (p : Nat × Int) (h : l[j]? = some p) : (qcells l)[2 * j]? = some (.int .i64 (p.1 : Int)) ∧ (qcells l)[2 * j + 1]? = some (.int .u8 p.2) := by
  induction l generalizing j with
  | nil => simp at h
  | cons q l ih =>
    cases j with
    | zero => simp at h; subst h; simp [qcells]
    | succ j =>
      have := ih j (by simpa using h)
      rw [show 2 * (j + 1) = 2 * j + 2 by omega, show (2 * j + 2 + 1) = 2 * j + 1 + 2 by omega]
      simpa [qcells] using this

/-- The blocks of the book (its row, its pages) and of the list of what was done. -/
def Ob (vb : Value) (bl : List (Nat × List Int)) (vd : Value) (k : Nat) : Prop := vb.ownBlock = some k ∨ vd.ownBlock = some k ∨ k ∈ bl.map (·.1)

/-- The disk, and beside it a book of pages and a list of puts. -/
structure Cw (w0 w : World) (B : Nat) (vb : Value) (bl : List (Nat × List Int)) (vd : Value) (ds : List (Nat × Int)) (s : Ds) : Prop where
  dw : Dw w0 w B (Ob vb bl vd) s
  ob : w.ownsRow w0.heap.size 22 1 vb bl.length (bl.map fun x => pv x.1)
  rows : ∀ x ∈ bl, Rw w x.1 x.2 ∧ w0.heap.size ≤ x.1 ∧ x.2.length = 4096
  nd : (bl.map (·.1)).Nodup
  od : w.ownsRow w0.heap.size 56 2 vd ds.length (qcells ds)

theorem Cw.st {w0 w w' : World} {B : Nat} {vb vd : Value} {bl : List (Nat × List Int)} {ds : List (Nat × Int)} {s s' : Ds} (h : Cw w0 w B vb bl vd ds s) (hd : Dw w0 w' B (Ob vb bl vd) s') (sd : Sd w w' (Ob vb bl vd)) : Cw w0 w' B vb bl vd ds s' :=
  ⟨hd, owns_same h.ob (fun g hg => sd g (.inl hg)), fun x hx => ⟨(sd x.1 (.inr (.inr (List.mem_map.2 ⟨x, hx, rfl⟩)))).trans (h.rows x hx).1, (h.rows x hx).2⟩, h.nd, owns_same h.od (fun g hg => sd g (.inr (.inl hg)))⟩
theorem Cw.keptN {w0 w w' : World} {B : Nat} {vb vd : Value} {bl : List (Nat × List Int)} {ds : List (Nat × Int)} {s : Ds} (h : Cw w0 w B vb bl vd ds s) (hg : w.grownBy w' none) : Cw w0 w' B vb bl vd ds s := h.st (h.dw.keptN hg) (h.dw.sd hg)

theorem Cw.addB {w0 w wA w' : World} {B g : Nat} {vb vb' vd : Value} {bl : List (Nat × List Int)} {ds : List (Nat × Int)} {s : Ds} {z : List Int} (h : Cw w0 w B vb bl vd ds s) (hA : w.grownBy wA none) (hr : Rw wA g z) (hg0 : w.heap.size ≤ g) (hz : z.length = 4096)
    (hg : wA.grownBy w' vb.ownBlock) (own : w'.ownsRow w0.heap.size 22 1 vb' (bl.length + 1) ((bl.map fun x => pv x.1) ++ [pv g])) (loc : vb'.ownBlock = vb.ownBlock ∨ vb'.ownBlock = some wA.heap.size) : Cw w0 w' B vb' (bl ++ [(g, z)]) vd ds s := by
  have s0 := h.dw.grown.size
  have hA' := h.keptN hA
  have ne1 : ∀ x ∈ bl, vb.ownBlock ≠ some x.1 := fun x hx => own_ne_blk12 hA'.ob (hA'.rows x hx).1 (by decide)
  have ne2 : vb.ownBlock ≠ some g := own_ne_blk12 hA'.ob hr (by decide)
  have d1 : Dw w0 wA B (fun k => Ob vb bl vd k ∨ k = g) s := h.dw.add hA (fun k e => e.elim .inl (fun y => .inr (by subst y; exact ⟨hg0, hr.lt⟩)))
  refine ⟨d1.grow hg (fun k e => ⟨.inl (.inl e), (h.ob.lt k e).1⟩) (fun k e => ?_), ?_, fun x hx => ?_, ?_, ?_⟩
  · rcases e with e | e | e
    · rcases loc with l | l
      · exact .inl (.inl (.inl (by rw [← l]; exact e)))
      · have := (own.lt _ l).2
        rw [l] at e
        rw [← Option.some.inj e]
        exact .inr ⟨Nat.le_refl _, this⟩
    · exact .inl (.inl (.inr (.inl e)))
    · rw [List.map_append, List.mem_append] at e
      rcases e with e | e
      · exact .inl (.inl (.inr (.inr e)))
      · exact .inl (.inr (by simpa using e))
  · rw [List.length_append, List.map_append]; exact own
  · rcases List.mem_append.1 hx with hx | hx
    · have := hA'.rows x hx
      exact ⟨(hg.block x.1 this.1.lt (fun e => ne1 x hx e.symm)).trans this.1, this.2⟩
    · have e : x = (g, z) := by simpa using hx
      subst e
      exact ⟨(hg.block g hr.lt (fun e => ne2 e.symm)).trans hr, by simp only; omega, hz⟩
  · rw [List.map_append, List.nodup_append]
    refine ⟨h.nd, by simp, fun a ha b hb => ?_⟩
    have : b = g := by simpa using hb
    subst this
    obtain ⟨x, hx, rfl⟩ := List.mem_map.1 ha
    have := (h.rows x hx).1.lt
    omega
  · exact owns_same hA'.od (fun k e => hg.block k (hA'.od.lt k e).2 (fun e' => own_ne_own12 hA'.ob hA'.od (by decide) e e'.symm))

theorem Cw.addD {w0 w wA w' : World} {B : Nat} {vb vd vd' : Value} {bl : List (Nat × List Int)} {ds : List (Nat × Int)} {s : Ds} (d : Nat × Int) (h : Cw w0 w B vb bl vd ds s) (hA : w.grownBy wA none)
    (hg : wA.grownBy w' vd.ownBlock) (own : w'.ownsRow w0.heap.size 56 2 vd' (ds.length + 1) (qcells ds ++ [.int .i64 (d.1 : Int), .int .u8 d.2])) (loc : vd'.ownBlock = vd.ownBlock ∨ vd'.ownBlock = some wA.heap.size) : Cw w0 w' B vb bl vd' (ds ++ [d]) s := by
  have s0 := h.dw.grown.size
  have hA' := h.keptN hA
  refine ⟨hA'.dw.grow hg (fun k e => ⟨.inr (.inl e), (h.od.lt k e).1⟩) (fun k e => ?_), ?_, fun x hx => ?_, h.nd, ?_⟩
  · rcases e with e | e | e
    · exact .inl (.inl e)
    · rcases loc with l | l
      · exact .inl (.inr (.inl (by rw [← l]; exact e)))
      · have := (own.lt _ l).2
        rw [l] at e
        rw [← Option.some.inj e]
        exact .inr ⟨Nat.le_refl _, this⟩
    · exact .inl (.inr (.inr e))
  · exact owns_same hA'.ob (fun k e => hg.block k (hA'.ob.lt k e).2 (fun e' => own_ne_own12 hA'.od hA'.ob (by decide) e e'.symm))
  · have := hA'.rows x hx
    exact ⟨(hg.block x.1 this.1.lt (fun e => own_ne_blk12 hA'.od this.1 (by decide) e.symm)).trans this.1, this.2⟩
  · rw [List.length_append, qcells_app]; exact own

theorem Cw.setB {w0 w : World} {B g : Nat} {vb vd : Value} {bl : List (Nat × List Int)} {ds : List (Nat × Int)} {s : Ds} {z : List Int} (h : Cw w0 w B vb bl vd ds s) (i : Nat) (hi : bl[i]? = some (g, z)) (j : Nat) (x : Int) : Cw w0 (w.setCell ⟨g, j, none⟩ (.int .u8 x)) B vb (bl.set i (g, z.set j x)) vd ds s := by
  have hil : i < bl.length := (List.getElem?_eq_some_iff.1 hi).1
  have hmem : (g, z) ∈ bl := List.mem_of_getElem? hi
  have hr := h.rows _ hmem
  have hmap : (bl.set i (g, z.set j x)).map (·.1) = bl.map (·.1) := by
    rw [List.map_set]
    refine List.ext_getElem? fun k => ?_
    rw [List.getElem?_set]
    split
    · rename_i e
      subst e
      rw [List.length_map, if_pos hil, List.getElem?_map, hi]
      rfl
    · rfl
  have hO : ∀ k, Ob vb (bl.set i (g, z.set j x)) vd k → Ob vb bl vd k := fun k e => by unfold Ob at e ⊢; rwa [hmap] at e
  have hgO : Ob vb bl vd g := .inr (.inr (List.mem_map.2 ⟨_, hmem, rfl⟩))
  have hgc := grown_cell w g j (.int .u8 x)
  refine ⟨(h.dw.kept hgc hgO hr.2.1).sub hO, ?_, fun y hy => ?_, by rw [hmap]; exact h.nd, ?_⟩
  · rw [List.length_set]
    have e : (bl.set i (g, z.set j x)).map (fun x => pv x.1) = bl.map fun x => pv x.1 := by
      have := congrArg (List.map pv) hmap
      simpa [List.map_map, Function.comp_def] using this
    rw [e]
    exact h.ob.kept hgc (.inr (own_ne_blk12 h.ob hr.1 (by decide)))
  · obtain ⟨k, hk⟩ := List.mem_iff_getElem?.1 hy
    by_cases e : i = k
    · subst e
      rw [List.getElem?_set_self hil] at hk
      have e2 := Option.some.inj hk
      subst e2
      exact ⟨hr.1.set j x, hr.2.1, by simp [hr.2.2]⟩
    · rw [List.getElem?_set_ne e] at hk
      have hne := e
      have hm := List.mem_of_getElem? hk
      have hry := h.rows y hm
      have hyg : y.1 ≠ g := fun e => by
        have e1 : (bl.map (·.1))[k]? = some y.1 := by rw [List.getElem?_map, hk]; rfl
        have e2 : (bl.map (·.1))[i]? = some g := by rw [List.getElem?_map, hi]; rfl
        rw [e] at e1
        have hkl : k < (bl.map (·.1)).length := (List.getElem?_eq_some_iff.1 e1).1
        exact hne ((List.getElem?_inj hkl h.nd).1 (e1.trans e2.symm)).symm
      exact ⟨(hgc.block y.1 hry.1.lt (fun e => hyg (Option.some.inj e))).trans hry.1, hry.2⟩
  · exact h.od.kept hgc (.inr (own_ne_blk12 h.od hr.1 (by decide)))

/-- How far the disk has come. -/
structure Cs (s : Ds) (t : Nat) : Prop where
  cap : s.cap = 60
  off : s.off = false
  left : s.left = 0
  done : s.done ≤ t
  reads : s.reads ≤ t
theorem Cs.wide {s : Ds} {t t' : Nat} (h : Cs s t) (ht : t ≤ t') : Cs s t' := ⟨h.cap, h.off, h.left, Nat.le_trans h.done ht, Nat.le_trans h.reads ht⟩
theorem Cs.put {s : Ds} {t : Nat} (h : Cs s t) (i : Nat) (z : List Int) : Cs (s.put i z) (t + 1) :=
  ⟨h.cap, by show (s.left == 1) = false; rw [h.left]; rfl, by show s.left - 1 = 0; rw [h.left], Nat.succ_le_succ h.done, Nat.le_succ_of_le h.reads⟩
theorem Cs.sync {s : Ds} {t : Nat} (h : Cs s t) : Cs s.sync (t + 1) :=
  ⟨h.cap, by show (s.left == 1) = false; rw [h.left]; rfl, by show s.left - 1 = 0; rw [h.left], Nat.succ_le_succ h.done, Nat.le_succ_of_le h.reads⟩
theorem Cs.crash {s : Ds} {t : Nat} (h : Cs s t) (fs : List (Int × Int)) : Cs (s.crash fs) t := ⟨h.cap, rfl, rfl, h.done, h.reads⟩
theorem Cs.read {s : Ds} {t : Nat} (h : Cs s t) : Cs s.read (t + 1) := ⟨h.cap, h.off, h.left, Nat.le_succ_of_le h.done, Nat.succ_le_succ h.reads⟩
theorem Cs.ans {s : Ds} {t : Nat} (h : Cs s t) : s.ans = 0 := by unfold Ds.ans; rw [h.left]; rfl
theorem Cs.may {s : Ds} {t : Nat} (h : Cs s t) (i : Nat) (h1 : i ≤ s.pages) (h2 : i < 60) : s.refuse i 4096 = 0 := by
  unfold Ds.refuse
  rw [if_neg (by omega), if_neg (by rw [h.cap]; omega), if_neg (by simp), if_neg (by rw [h.off]; decide)]
theorem Cs.no {s : Ds} {i : Int} (h1 : i < 0 ∨ (s.pages : Int) < i) : s.refuse i 4096 = 121 := by
  unfold Ds.refuse
  rw [if_pos h1]
theorem take_snoc12 (l : List Int) (k : Nat) (x : Int) (h : l[k]? = some x) : l.take (k + 1) = l.take k ++ [x] := by rw [List.take_add_one, h]; rfl

theorem info_put12 : (Try.prog.info? 56).map (fun i => (i.zero, i.size, i.bytes)) = some (some (.agg #[.int .i64 0, .int .u8 0]), 2, 16) := by kernel_rfl
/-- Behind k of the writes that may be lost. -/
structure Cq (w0 w : World) (B : Nat) (vb : Value) (bl : List (Nat × List Int)) (vd : Value) (ds : List (Nat × Int)) (s : Ds) (L0 : List (List Int)) (k : Nat) : Prop where
  cw : Cw w0 w B vb bl vd ds s
  sl : s.L = L0
  sq : s.Q = ds.map fun d => (d.1, fp d.2)
  dd : ∀ d ∈ ds, d.1 < 60 ∧ 0 ≤ d.2 ∧ d.2 ≤ 255
  cs : Cs s (21 + k)
  pg : s.pages ≤ 20 + k
  dl : ds.length ≤ k
theorem Cq.no {w0 w w' : World} {B : Nat} {vb vd : Value} {bl : List (Nat × List Int)} {ds : List (Nat × Int)} {s : Ds} {L0 : List (List Int)} {k : Nat} (h : Cq w0 w B vb bl vd ds s L0 k) (hc : Cw w0 w' B vb bl vd ds s) : Cq w0 w' B vb bl vd ds s L0 (k + 1) :=
  ⟨hc, h.sl, h.sq, h.dd, h.cs.wide (by omega), Nat.le_succ_of_le h.pg, Nat.le_succ_of_le h.dl⟩
theorem pages_put12 (s : Ds) (p : Nat) (z : List Int) : (s.put p z).pages = max s.pages (p + 1) := by
  show (s.Q ++ [(p, z)]).foldl (fun n q => max n (q.1 + 1)) s.L.length = _
  rw [List.foldl_append]
  rfl
theorem Cq.put {w0 w w' : World} {B : Nat} {vb vd vd' : Value} {bl : List (Nat × List Int)} {ds : List (Nat × Int)} {s : Ds} {L0 : List (List Int)} {k p : Nat} {x : Int} (h : Cq w0 w B vb bl vd ds s L0 k) (hp : p ≤ s.pages) (hk : k < 20) (hx : 0 ≤ x ∧ x ≤ 255) (hc : Cw w0 w' B vb bl vd' (ds ++ [(p, x)]) (s.put p (fp x))) : Cq w0 w' B vb bl vd' (ds ++ [(p, x)]) (s.put p (fp x)) L0 (k + 1) := by
  have h1 := h.pg
  refine ⟨hc, h.sl, ?_, fun d hd => ?_, (h.cs.put p (fp x)).wide (by omega), by rw [pages_put12]; omega, by have := h.dl; simp; omega⟩
  · show s.Q ++ [(p, fp x)] = _
    rw [h.sq, List.map_append]
    rfl
  · rcases List.mem_append.1 hd with e | e
    · exact h.dd d e
    · have : d = (p, x) := by simpa using e
      subst this
      exact ⟨by simp only; omega, hx⟩
end Go.Proofs.Ytiljdhhfhjhhiaa
