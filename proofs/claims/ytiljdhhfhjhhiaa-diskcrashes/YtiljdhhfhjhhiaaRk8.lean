import Derived.Test.YtiljdhhfhjhhiaaRk7
import Derived.Test.YtiljdhhfhjhhiaaDkRt
namespace Go.Proofs.Ytiljdhhfhjhhiaa
open Go.RowKit Go.MuLone

theorem wcells_set (l : List (Nat × Nat × List Int)) (k : Nat) (p : Nat × Nat × List Int) : wcells (l.set k p) = ((wcells l).set (k * 2) (.int .i64 p.1)).set (k * 2 + 1) (pv p.2.1) := by
  induction l generalizing k with
  | nil => simp [wcells]
  | cons q l ih =>
    cases k with
    | zero => simp [wcells]
    | succ k =>
      have := ih k
      rw [show (k + 1) * 2 = k * 2 + 2 by omega]
      simp only [wcells, List.set_cons_succ, List.flatMap_cons, List.cons_append, List.nil_append] at this ⊢
      rw [this]
/-- Another write stands at k. -/
theorem Rm.swapP {w : World} {F G : Nat → Prop} {d : Dd} {gP cap k g i : Nat} {z : List Int} (h : Rm w F d) (hv : d.vP = .slice (some ⟨gP, 0, none⟩) d.pl.length cap) (hg : Rw w g z) (hl : z.length = 4096) (bt : Bt z) (hi : i < 524288) (hG : ∀ k, F k → G k) (hGg : G g) (low : ∀ k, G k → k < w.heap.size) :
    Rm ((w.setCell ⟨gP, k * 2, none⟩ (.int .i64 i)).setCell ⟨gP, k * 2 + 1, none⟩ (pv g)) G { d with pl := d.pl.set k (i, g, z) } := by
  have own := h.pr
  rw [hv] at own
  obtain ⟨cur, hc⟩ := row_block h.pr (k := gP) (by rw [hv]; rfl)
  have gs : w.grownBy ((w.setCell ⟨gP, k * 2, none⟩ (.int .i64 i)).setCell ⟨gP, k * 2 + 1, none⟩ (pv g)) (some gP) := grown_trans (grown_cell _ _ _ _) (grown_cell _ _ _ _)
  have ne : ∀ (q : Nat) (cs : Array Value) (t : TypeId) (fz : Nat × Nat), w.heap[q]? = some (.cells cs t fz) → t ≠ 90 → ((w.setCell ⟨gP, k * 2, none⟩ (.int .i64 i)).setCell ⟨gP, k * 2 + 1, none⟩ (pv g)).heap[q]? = w.heap[q]? := by
    intro q cs t fz hk ht
    refine gs.block q (Array.getElem?_eq_some_iff.1 hk).1 (fun e => ?_)
    rw [Option.some.inj e, hc] at hk
    simp only [Option.some.injEq, Obj.cells.injEq] at hk
    exact ht hk.2.1.symm
  refine ⟨owns_same h.lr fun q hk => ?_, fun q hk => hG q (h.fl q hk), ?_, fun q hk => hG q (h.fp q hk), fun x hx => ((h.bp x hx).same (ne _ _ _ _ (h.bp x hx).at_ (by decide))).wide (hG _ (h.bp x hx).mem), fun p hp => ?_, by rw [List.length_set]; exact h.pc, fun q hk => by have := low q hk; have := gs.size; omega⟩
  · obtain ⟨cur2, hc2⟩ := row_block h.lr hk
    exact ne _ _ _ _ hc2 (by decide)
  · show World.ownsRow _ 0 90 2 d.vP (d.pl.set k (i, g, z)).length (wcells (d.pl.set k (i, g, z)))
    rw [List.length_set, wcells_set, hv]
    refine ⟨by rw [List.length_set, List.length_set]; exact own.1, ?_⟩
    rcases own.2 with ⟨h0, _⟩ | ⟨g', cap', cur', hv', a1, a2, a3, a4, a5, a6⟩
    · cases h0
    · injection hv' with e1 e2 e3
      injection e1 with e1
      injection e1 with e4
      subst e4 e3
      refine .inr ⟨gP, cap, _, rfl, a1, heap_setCell_same _ gP (k * 2 + 1) _ _ (pv g) (heap_setCell_same w gP (k * 2) _ _ (.int .i64 i) a2), a3, a4, by simp [a5], ?_⟩
      rw [Array.toList_setIfInBounds, Array.toList_setIfInBounds, ← a6, List.take_set, List.take_set]
  · rcases List.mem_or_eq_of_mem_set hp with e | e
    · exact ⟨((h.pp p e).1.same (ne _ _ _ _ (h.pp p e).1.at_ (by decide))).wide (hG _ (h.pp p e).1.mem), (h.pp p e).2⟩
    · subst e
      exact ⟨⟨(ne _ _ _ _ hg (by decide)).trans hg, hl, bt, hGg⟩, hi⟩

set_option maxHeartbeats 2000000 in
theorem rrot_no {w : World} {B : Nat} {F : Nat → Prop} {d : Dd} (hk : Rk w B F d) (i at_ x : Int) (hi : i < 0 ∨ (d.bl.length : Int) ≤ i) : Calls Try.prog 41 #[.pointer (some ⟨B, 0, none⟩), .int .i64 i, .int .i64 at_, .int .i64 x] w fun e w' => e = .returned (.int .i64 121) ∧ w' = w := by
  have c1 := hk.bx.c1
  obtain ⟨al, cl, ev⟩ := owns_slice hk.dm.lr
  rw [ev] at c1
  by_cases h0 : i < 0
  · go_enter Try.func41, Try.ntmps41
    go_wp2
    go_ret
    exact ⟨rfl, rfl⟩
  · have h1 : (d.bl.length : Int) ≤ i := by omega
    go_enter Try.func41, Try.ntmps41
    go_wp2
    go_ret
    exact ⟨rfl, rfl⟩
set_option maxHeartbeats 4000000 in
theorem rrot_arg {w : World} {B : Nat} {F : Nat → Prop} {d : Dd} (hk : Rk w B F d) (i at_ x : Int) (hi : 0 ≤ i ∧ i < (d.bl.length : Int)) (ha : at_ < 0 ∨ 4096 ≤ at_ ∨ x < 1 ∨ 255 < x) : Calls Try.prog 41 #[.pointer (some ⟨B, 0, none⟩), .int .i64 i, .int .i64 at_, .int .i64 x] w fun e w' => e = .returned (.int .i64 124) ∧ w' = w := by
  have c1 := hk.bx.c1
  obtain ⟨al, cl, ev⟩ := owns_slice hk.dm.lr
  rw [ev] at c1
  obtain ⟨hi0, hi1⟩ := hi
  by_cases a1 : at_ < 0
  · go_enter Try.func41, Try.ntmps41
    go_wp2
    go_ret
    exact ⟨rfl, rfl⟩
  have a1' : 0 ≤ at_ := by omega
  by_cases a2 : 4096 ≤ at_
  · go_enter Try.func41, Try.ntmps41
    go_wp2
    go_ret
    exact ⟨rfl, rfl⟩
  have a2' : at_ < 4096 := by omega
  by_cases a3 : x < 1
  · go_enter Try.func41, Try.ntmps41
    go_wp2
    go_ret
    exact ⟨rfl, rfl⟩
  have a3' : 1 ≤ x := by omega
  have a4 : 255 < x := by omega
  go_enter Try.func41, Try.ntmps41
  go_wp2
  go_ret
  exact ⟨rfl, rfl⟩
end Go.Proofs.Ytiljdhhfhjhhiaa
