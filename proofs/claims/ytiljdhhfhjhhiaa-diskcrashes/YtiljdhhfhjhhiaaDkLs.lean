import Derived.Test.YtiljdhhfhjhhiaaDkV
import Derived.Test.YtiljdhhfhjhhiaaDkIn
namespace Go.Proofs.Ytiljdhhfhjhhiaa
open Go.RowKit Go.MuLone

theorem owns_setIn {w : World} {base g n cap : Nat} {e : TypeId} {xs : List Value} (h : w.ownsRow base e 1 (.slice (some ⟨g, 0, none⟩) n cap) n xs) (i : Nat) (u : Value) : (w.setCell ⟨g, i, none⟩ u).ownsRow base e 1 (.slice (some ⟨g, 0, none⟩) n cap) n (xs.set i u) := by
  refine ⟨by rw [List.length_set]; exact h.1, ?_⟩
  rcases h.2 with ⟨h0, _⟩ | ⟨g', cap', cur, hv, a1, a2, a3, a4, a5, a6⟩
  · cases h0
  · injection hv with e1 e2 e3
    injection e1 with e1
    injection e1 with e4
    subst e4 e3
    refine .inr ⟨g, cap, _, rfl, a1, heap_setCell_same w g i _ _ u a2, a3, a4, by simp [a5], ?_⟩
    rw [Array.toList_setIfInBounds, ← a6, List.take_set]

/-- The disk and the book beside it. -/
structure Lw (w wr : World) (B c : Nat) (v : Value) (bk : List Int) (s : Ds) (D R : Nat) : Prop where
  dw : Dw w wr B (fun k => v.ownBlock = some k) s
  own : wr.ownsRow w.heap.size 5 1 v bk.length (bk.map (Value.int .u8))
  cap : s.cap = c
  off : s.off = false
  left : s.left = 0
  view : s.view = bk.map fp
  bt : Bt bk
  done : s.done ≤ D
  reads : s.reads ≤ R

theorem Lw.pages {w wr : World} {B c : Nat} {v : Value} {bk : List Int} {s : Ds} {D R : Nat} (h : Lw w wr B c v bk s D R) : s.pages = bk.length := by rw [← s.view_len, h.view, List.length_map]
theorem Lw.le {w wr : World} {B c : Nat} {v : Value} {bk : List Int} {s : Ds} {D R : Nat} (h : Lw w wr B c v bk s D R) : bk.length ≤ c := by
  obtain ⟨F, h1, -⟩ := h.dw
  have := h1.le
  rw [h.pages, h.cap] at this
  exact this
theorem Lw.page {w wr : World} {B c : Nat} {v : Value} {bk : List Int} {s : Ds} {D R : Nat} (h : Lw w wr B c v bk s D R) (j : Nat) (hj : j < bk.length) : s.page j = fp (bk.getD j 0) := by
  have := h.dw.page_view j (by rw [h.pages]; exact hj)
  rw [h.view, List.getElem?_map, List.getElem?_eq_getElem hj] at this
  rw [← Option.some.inj this]
  simp [List.getD, List.getElem?_eq_getElem hj]
theorem Lw.keptN {w wr w' : World} {B c : Nat} {v : Value} {bk : List Int} {s : Ds} {D R : Nat} (h : Lw w wr B c v bk s D R) (hg : wr.grownBy w' none) : Lw w w' B c v bk s D R :=
  ⟨h.dw.keptN hg, h.own.kept hg (by cases v.ownBlock <;> simp), h.cap, h.off, h.left, h.view, h.bt, h.done, h.reads⟩
theorem Lw.asked {w wr w' : World} {B c : Nat} {v : Value} {bk : List Int} {s : Ds} {D R : Nat} (h : Lw w wr B c v bk s D R) (hd : Dw w w' B (fun k => v.ownBlock = some k) s) (hs : Sd wr w' (fun k => v.ownBlock = some k)) : Lw w w' B c v bk s D R :=
  ⟨hd, owns_same h.own (fun g hg => hs g hg), h.cap, h.off, h.left, h.view, h.bt, h.done, h.reads⟩
theorem Lw.read {w wr w' : World} {B c : Nat} {v : Value} {bk : List Int} {s : Ds} {D R : Nat} (h : Lw w wr B c v bk s D R) (hd : Dw w w' B (fun k => v.ownBlock = some k) s.read) (hs : Sd wr w' (fun k => v.ownBlock = some k)) : Lw w w' B c v bk s.read D (R + 1) :=
  ⟨hd, owns_same h.own (fun g hg => hs g hg), h.cap, h.off, h.left, h.view, h.bt, h.done, Nat.succ_le_succ h.reads⟩
theorem Lw.sync {w wr w' : World} {B c : Nat} {v : Value} {bk : List Int} {s : Ds} {D R : Nat} (h : Lw w wr B c v bk s D R) (hd : Dw w w' B (fun k => v.ownBlock = some k) s.sync) (hs : Sd wr w' (fun k => v.ownBlock = some k)) : Lw w w' B c v bk s.sync (D + 1) R :=
  ⟨hd, owns_same h.own (fun g hg => hs g hg), h.cap, by simp [Ds.sync, Ds.spend, h.left], by simp [Ds.sync, Ds.spend, h.left], h.view, h.bt, Nat.succ_le_succ h.done, h.reads⟩
theorem Lw.wide {w wr : World} {B c : Nat} {v : Value} {bk : List Int} {s : Ds} {D R D' R' : Nat} (h : Lw w wr B c v bk s D R) (h1 : D ≤ D') (h2 : R ≤ R') : Lw w wr B c v bk s D' R' :=
  ⟨h.dw, h.own, h.cap, h.off, h.left, h.view, h.bt, Nat.le_trans h.done h1, Nat.le_trans h.reads h2⟩

/-- May it be written? -/
def mayW (n c : Nat) (i : Int) : Bool := decide (0 ≤ i ∧ i ≤ n ∧ i < c)
def putB (bk : List Int) (i : Int) (x : Int) : List Int := if i.toNat = bk.length then bk ++ [x] else bk.set i.toNat x
def ansW (s : Ds) (i : Int) : Int := s.refuse i 4096
def putS (s : Ds) (c n : Nat) (i x : Int) : Ds := if mayW n c i = true then s.put i.toNat (fp x) else s

theorem Lw.ans {w wr : World} {B c : Nat} {v : Value} {bk : List Int} {s : Ds} {D R : Nat} (h : Lw w wr B c v bk s D R) (i : Int) : (ansW s i = 0 ↔ mayW bk.length c i = true) ∧ (-9223372036854775808 ≤ ansW s i ∧ ansW s i ≤ 9223372036854775807) := by
  unfold ansW Ds.refuse mayW
  rw [h.pages, h.cap, h.off, decide_eq_true_eq]
  by_cases h1 : i < 0 ∨ (bk.length : Int) < i
  · rw [if_pos h1]; omega
  · rw [if_neg h1]
    by_cases h2 : (c : Int) ≤ i
    · rw [if_pos h2]; omega
    · rw [if_neg h2, if_neg (by omega), if_neg (by simp)]; omega

theorem put_lw {w wr w1 : World} {B c : Nat} {v : Value} {bk : List Int} {s : Ds} {D R : Nat} (h : Lw w wr B c v bk s D R) (hD : D < 1000000) (i x : Int) (hx : 0 ≤ x ∧ x ≤ 255) (hg : wr.grownBy w1 none) (hr : Rw w1 wr.heap.size (fp x)) :
    Calls Try.prog 18 #[.pointer (some ⟨B, 0, none⟩), .int .i64 i, .slice (some ⟨wr.heap.size, 0, none⟩) 4096 4096] w1 fun e w' => e = .returned (.int .i64 (ansW s i)) ∧ Dw w w' B (fun k => v.ownBlock = some k) (putS s c bk.length i x) ∧ w'.ownsRow w.heap.size 5 1 v bk.length (bk.map (Value.int .u8)) := by
  have hd := h.done
  by_cases hm : mayW bk.length c i = true
  · have ha : s.refuse i 4096 = 0 := (h.ans i).1.2 hm
    have hi := hm
    unfold mayW at hi
    rw [decide_eq_true_eq] at hi
    obtain ⟨q, rfl⟩ : ∃ q : Nat, i = q := ⟨i.toNat, by omega⟩
    refine (dw_write h.dw hg q _ hr (fp_len _) (fp_bt hx) ha (by omega) (by rw [h.left]; omega)).mono ?_
    rintro e w' ⟨rfl, h1, h2⟩
    refine ⟨by unfold ansW; rw [ha]; unfold Ds.ans; rw [h.left]; rfl, by unfold putS; rw [if_pos hm, Int.toNat_natCast]; exact h1, ?_⟩
    exact owns_same (h.own.kept hg (by cases v.ownBlock <;> simp)) (fun g hg => h2 g hg)
  · have ha : s.refuse i 4096 ≠ 0 := fun e => hm ((h.ans i).1.1 e)
    refine (dw_write_no (h.dw.keptN hg) i _ 4096 4096 ha).mono ?_
    rintro e w' ⟨rfl, h1, h2⟩
    exact ⟨rfl, by unfold putS; rw [if_neg hm]; exact h1, owns_same (h.own.kept hg (by cases v.ownBlock <;> simp)) (fun g hg => h2 g hg)⟩

/-- The book is brought up to date. -/
theorem Lw.put {w wr w' : World} {B c : Nat} {v v' : Value} {bk : List Int} {s : Ds} {D R : Nat} (h : Lw w wr B c v bk s D R) (i x : Int) (hx : 0 ≤ x ∧ x ≤ 255) (hm : mayW bk.length c i = true)
    (hd : Dw w w' B (fun k => v'.ownBlock = some k) (putS s c bk.length i x)) (ho : w'.ownsRow w.heap.size 5 1 v' (putB bk i x).length ((putB bk i x).map (Value.int .u8))) : Lw w w' B c v' (putB bk i x) (putS s c bk.length i x) (D + 1) R := by
  have hi := hm
  unfold mayW at hi
  rw [decide_eq_true_eq] at hi
  have e : putS s c bk.length i x = s.put i.toNat (fp x) := by unfold putS; rw [if_pos hm]
  rw [e] at hd ⊢
  refine ⟨hd, ho, h.cap, by simp [Ds.put, Ds.spend, h.left], by simp [Ds.put, Ds.spend, h.left], ?_, ?_, Nat.succ_le_succ h.done, h.reads⟩
  · rw [view_put, h.view, landL_fp bk i.toNat x (by omega)]; rfl
  · unfold putB
    split
    · exact h.bt.app (fun z hz => by simp at hz; subst hz; exact hx)
    · intro z hz
      rcases List.mem_or_eq_of_mem_set hz with e | e
      · exact h.bt z e
      · subst e; exact hx
theorem Lw.noput {w wr w' : World} {B c : Nat} {v : Value} {bk : List Int} {s : Ds} {D R : Nat} (h : Lw w wr B c v bk s D R) (i x : Int) (hm : mayW bk.length c i = false)
    (hd : Dw w w' B (fun k => v.ownBlock = some k) (putS s c bk.length i x)) (ho : w'.ownsRow w.heap.size 5 1 v bk.length (bk.map (Value.int .u8))) : Lw w w' B c v bk (putS s c bk.length i x) (D + 1) R := by
  have e : putS s c bk.length i x = s := by unfold putS; rw [if_neg (by rw [hm]; decide)]
  rw [e] at hd ⊢
  exact ⟨hd, ho, h.cap, h.off, h.left, h.view, h.bt, Nat.le_succ_of_le h.done, h.reads⟩
theorem Lw.cell {w wr : World} {B c : Nat} {v : Value} {bk : List Int} {s : Ds} {D R : Nat} (h : Lw w wr B c v bk s D R) (hn : 0 < bk.length) : ∃ g cap, v = .slice (some ⟨g, 0, none⟩) bk.length cap ∧ w.heap.size ≤ g ∧ g < wr.heap.size ∧ (∀ j, j < bk.length → wr.cell? ⟨g, j, none⟩ = some (.int .u8 (bk.getD j 0))) ∧ ∀ j, wr.frozen? ⟨g, j, none⟩ = false := by
  obtain ⟨g, cap, cur, hv, h1, h2, h3⟩ := h.own.2.resolve_left (fun e => by have := e.2; omega)
  refine ⟨g, cap, hv, h1, (Array.getElem?_eq_some_iff.1 h2).1, fun j hj => ?_, fun j => frozen_of_row wr g j _ _ h2⟩
  have := h.own
  rw [hv] at this
  rw [this.cellAt j (by omega), List.getElem?_map, List.getElem?_eq_getElem hj]
  simp [List.getD, List.getElem?_eq_getElem hj]
theorem Dw.grow {w0 w w' : World} {B : Nat} {O O' : Nat → Prop} {s : Ds} {row : Option Nat} (h : Dw w0 w B O s) (hg : w.grownBy w' row) (hr : ∀ g, row = some g → O g ∧ w0.heap.size ≤ g) (ho : ∀ k, O' k → O k ∨ w.heap.size ≤ k ∧ k < w'.heap.size) : Dw w0 w' B O' s := by
  obtain ⟨F, h1, h2, h3, h4⟩ := h
  refine ⟨F, h1.kept hg (fun k e hf => (h2 k hf).2 (hr k e).1), fun k hk => ⟨(h2 k hk).1, fun e => ?_⟩, ?_, fun k hk => ?_⟩
  · rcases ho k e with x | x
    · exact (h2 k hk).2 x
    · have := h1.low k hk; omega
  · refine ⟨hg.os.trans h3.os, hg.tape.trans h3.tape, hg.output.trans h3.output, Nat.le_trans h3.size hg.size, fun i hi hn => (hg.block i (Nat.lt_of_lt_of_le hi h3.size) (fun e => ?_)).trans (h3.block i hi hn)⟩
    have := (hr i e.symm).2
    omega
  · rcases ho k hk with x | x
    · exact Nat.lt_of_lt_of_le (h4 k x) hg.size
    · exact x.2
/-- A page more: the book grows. -/
theorem Lw.putD {w wr wc wA w' : World} {B c : Nat} {v v' : Value} {bk : List Int} {s : Ds} {D R : Nat} (h : Lw w wr B c v bk s D R) (x : Int) (hx : 0 ≤ x ∧ x ≤ 255) (hm : mayW bk.length c (bk.length : Int) = true)
    (hd : Dw w wc B (fun k => v.ownBlock = some k) (putS s c bk.length bk.length x)) (ho : wc.ownsRow w.heap.size 5 1 v bk.length (bk.map (Value.int .u8))) (hA : wc.grownBy wA none)
    (hg : wA.grownBy w' v.ownBlock) (own : w'.ownsRow w.heap.size 5 1 v' (bk.length + 1) (bk.map (Value.int .u8) ++ [.int .u8 x])) (loc : v'.ownBlock = v.ownBlock ∨ v'.ownBlock = some wA.heap.size) : Lw w w' B c v' (bk ++ [x]) (putS s c bk.length bk.length x) (D + 1) R := by
  have e : putB bk (bk.length : Int) x = bk ++ [x] := by unfold putB; rw [Int.toNat_natCast, if_pos rfl]
  have := h.put (v' := v') (w' := w') bk.length x hx hm ?_ ?_
  · rwa [e] at this
  · refine (hd.keptN hA).grow hg (fun g e => ⟨e, (ho.lt g e).1⟩) (fun k hk => ?_)
    rcases loc with l | l
    · exact .inl (by rw [← l]; exact hk)
    · rw [l] at hk
      have := (own.lt _ l).2
      rw [← Option.some.inj hk]
      exact .inr ⟨Nat.le_refl _, this⟩
  · rw [e, List.length_append, List.map_append]
    exact own
/-- A page anew: the book is written on. -/
theorem Lw.putE {w wr wc wA : World} {B c g cap p : Nat} {bk : List Int} {s : Ds} {D R : Nat} (h : Lw w wr B c (.slice (some ⟨g, 0, none⟩) bk.length cap) bk s D R) (x : Int) (hx : 0 ≤ x ∧ x ≤ 255) (hm : mayW bk.length c (p : Int) = true) (hp : p < bk.length)
    (hd : Dw w wc B (fun k => (Value.slice (some ⟨g, 0, none⟩) bk.length cap).ownBlock = some k) (putS s c bk.length p x)) (ho : wc.ownsRow w.heap.size 5 1 (.slice (some ⟨g, 0, none⟩) bk.length cap) bk.length (bk.map (Value.int .u8))) (hA : wc.grownBy wA none) :
    Lw w (wA.setCell ⟨g, p, none⟩ (.int .u8 x)) B c (.slice (some ⟨g, 0, none⟩) bk.length cap) (bk.set p x) (putS s c bk.length p x) (D + 1) R := by
  have e : putB bk (p : Int) x = bk.set p x := by unfold putB; rw [Int.toNat_natCast, if_neg (by omega)]
  have := h.put (v' := .slice (some ⟨g, 0, none⟩) bk.length cap) (w' := wA.setCell ⟨g, p, none⟩ (.int .u8 x)) p x hx hm ?_ ?_
  · rwa [e] at this
  · exact (hd.keptN hA).grow (grown_cell wA g p (.int .u8 x)) (fun k e => ⟨e, (ho.lt k e).1⟩) (fun k hk => .inl hk)
  · rw [e, List.length_set, List.map_set]
    exact owns_setIn (ho.kept hA (Classical.em _)) p _

theorem cell_one12 (w : World) (a : Value) (t : TypeId) : ∀ j u, [a][j]? = some u → (w.alloc (.cells #[a] t)).cell? ((⟨w.heap.size, 0, none⟩ : Addr).add j) = some u := by
  intro j u hu
  rw [Addr.add_lit, Nat.zero_add, cell_of_row _ w.heap.size j _ _ (0, 0) (heap_alloc_new w _)]
  simpa using hu
theorem rep_at (n : Nat) (x : Int) (j : Nat) (hj : j < n) : (List.replicate n x).getD j 0 = x := by
  rw [List.getD, List.getElem?_replicate, if_pos hj]; rfl
theorem fp_at (x : Int) (j : Nat) (hj : j < 4096) : (fp x).getD j 0 = x := rep_at 4096 x j hj
theorem getD_left (a b : List Int) (j : Nat) (h : j < a.length) : (a ++ b).getD j 0 = a.getD j 0 := by simp [List.getD, List.getElem?_append_left h]
theorem getD_right (a b : List Int) (j : Nat) (h : a.length ≤ j) : (a ++ b).getD j 0 = b.getD (j - a.length) 0 := by simp [List.getD, List.getElem?_append_right h]
theorem flat_any (f : Int → List Int) (n : Nat) (hn : 0 < n) (hf : ∀ x, (f x).length = n) (hx : ∀ x j, j < n → (f x).getD j 0 = x) (bk : List Int) (j : Nat) (hj : j < n * bk.length) : (bk.map f).flatten.getD j 0 = bk.getD (j / n) 0 := by
  induction bk generalizing j with
  | nil => simp at hj
  | cons x bk ih =>
    rw [List.map_cons, List.flatten_cons]
    by_cases h : j < n
    · rw [getD_left _ _ _ (by rw [hf]; exact h), hx x j h, Nat.div_eq_of_lt h]
      rfl
    · rw [List.length_cons, Nat.mul_add, Nat.mul_one] at hj
      rw [getD_right _ _ _ (by rw [hf]; omega), hf, ih (j - n) (by omega)]
      have e : j / n = (j - n) / n + 1 := Nat.div_eq_sub_div hn (by omega)
      rw [e]
      simp
theorem flat_fp (bk : List Int) (j : Nat) (hj : j < 4096 * bk.length) : (bk.map fp).flatten.getD j 0 = bk.getD (j / 4096) 0 := flat_any fp 4096 (by omega) fp_len fp_at bk j hj
end Go.Proofs.Ytiljdhhfhjhhiaa
