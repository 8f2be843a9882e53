import Derived.Test.YtpoflmcmlnghhaaRr1
namespace Go.Proofs.Ytpoflmcmlnghhaa
open Go.RowKit Go.Maps

/-! ### the document's pool in memory -/
structure Ro where
  c : Int
  k : Int
  l : List (Int × Int)
  ps : List Int

/-- The cells of a list of free numbers. -/
def fcs (l : List (Int × Int)) : List Value := l.flatMap fun p => [.int .i64 p.1, .int .i64 p.2]
theorem fcs_app (a b : List (Int × Int)) : fcs (a ++ b) = fcs a ++ fcs b := by simp [fcs]
theorem fcs_len (l : List (Int × Int)) : (fcs l).length = l.length * 2 := by
  induction l with
  | nil => rfl
  | cons p l ih => simp [fcs] at ih ⊢; omega
theorem fcs_at (l : List (Int × Int)) (j : Nat) (h : j < l.length) : (fcs l)[j * 2]? = some (.int .i64 (l.getD j (0, 0)).1) ∧ (fcs l)[j * 2 + 1]? = some (.int .i64 (l.getD j (0, 0)).2) := by
  induction l generalizing j with
  | nil => simp at h
  | cons q l ih =>
    cases j with
    | zero => simp [fcs]
    | succ j =>
      have := ih j (by simpa using h)
      have e1 : (j + 1) * 2 = j * 2 + 2 := by omega
      rw [e1, show (j * 2 + 2 + 1) = j * 2 + 1 + 2 by omega]
      simpa [fcs] using this
structure Rf (w : World) (F : Nat → Prop) (R : Nat) (r : Ro) (vL vP : Value) : Prop where
  bx : w.heap[R]? = some (.cells #[.int .i64 r.c, .int .i64 r.k, vL, vP] 64 (0, 0))
  lr : w.ownsRow 0 79 2 vL r.l.length (fcs r.l)
  pr : w.ownsRow 0 3 1 vP r.ps.length (r.ps.map (Value.int .i64))
  fR : F R
  fL : ∀ g, vL.ownBlock = some g → F g
  fP : ∀ g, vP.ownBlock = some g → F g
  low : ∀ i, F i → i < w.heap.size
theorem Rf.cell {w : World} {F : Nat → Prop} {R : Nat} {r : Ro} {vL vP : Value} (h : Rf w F R r vL vP) (i : Nat) : w.cell? ⟨R, i, none⟩ = (#[.int .i64 r.c, .int .i64 r.k, vL, vP] : Array Value)[i]? := cell_of_row w R i _ _ _ h.bx
theorem Rf.c0 {w : World} {F : Nat → Prop} {R : Nat} {r : Ro} {vL vP : Value} (h : Rf w F R r vL vP) : w.cell? ⟨R, 0, none⟩ = some (.int .i64 r.c) := h.cell 0
theorem Rf.c1 {w : World} {F : Nat → Prop} {R : Nat} {r : Ro} {vL vP : Value} (h : Rf w F R r vL vP) : w.cell? ⟨R, 1, none⟩ = some (.int .i64 r.k) := h.cell 1
theorem Rf.c2 {w : World} {F : Nat → Prop} {R : Nat} {r : Ro} {vL vP : Value} (h : Rf w F R r vL vP) : w.cell? ⟨R, 2, none⟩ = some vL := h.cell 2
theorem Rf.c3 {w : World} {F : Nat → Prop} {R : Nat} {r : Ro} {vL vP : Value} (h : Rf w F R r vL vP) : w.cell? ⟨R, 3, none⟩ = some vP := h.cell 3
theorem Rf.fz {w : World} {F : Nat → Prop} {R : Nat} {r : Ro} {vL vP : Value} (h : Rf w F R r vL vP) (i : Nat) : w.frozen? ⟨R, i, none⟩ = false := frozen_of_row w R i _ _ h.bx
theorem own_same {w w' : World} {base sz n : Nat} {e : TypeId} {v : Value} {xs : List Value} (h : w.ownsRow base e sz v n xs) (hs : ∀ g, v.ownBlock = some g → w'.heap[g]? = w.heap[g]?) : w'.ownsRow base e sz v n xs := by
  refine ⟨h.1, ?_⟩
  rcases h.2 with h0 | ⟨g, cap, cur, rfl, hb, hc, r⟩
  · exact .inl h0
  · exact .inr ⟨g, cap, cur, rfl, hb, (hs g rfl).trans hc, r⟩
theorem Rf.same {w w' : World} {F : Nat → Prop} {R : Nat} {r : Ro} {vL vP : Value} (h : Rf w F R r vL vP) (hs : w.heap.size ≤ w'.heap.size) (e : ∀ i, F i → w'.heap[i]? = w.heap[i]?) : Rf w' F R r vL vP :=
  ⟨(e R h.fR).trans h.bx, own_same h.lr (fun g hg => e g (h.fL g hg)), own_same h.pr (fun g hg => e g (h.fP g hg)), h.fR, h.fL, h.fP, fun i hi => Nat.lt_of_lt_of_le (h.low i hi) hs⟩
theorem Rf.keptN {w w' : World} {F : Nat → Prop} {R : Nat} {r : Ro} {vL vP : Value} (h : Rf w F R r vL vP) (hg : w.grownBy w' none) : Rf w' F R r vL vP := h.same hg.size fun i hi => hg.block i (h.low i hi) (by simp)
theorem Rf.fr {w w' : World} {F G : Nat → Prop} {R : Nat} {r : Ro} {vL vP : Value} (h : Rf w F R r vL vP) (hf : Fr w w' G) (hd : ∀ i, F i → ¬ G i) : Rf w' F R r vL vP := h.same hf.size fun i hi => hf.block i (h.low i hi) (hd i hi)
/-- The document's pool. -/
def Rz (w : World) (F : Nat → Prop) (R : Nat) (r : Ro) : Prop := ∃ vL vP, Rf w F R r vL vP
theorem Rz.keptN {w w' : World} {F : Nat → Prop} {R : Nat} {r : Ro} (h : Rz w F R r) (hg : w.grownBy w' none) : Rz w' F R r := by
  obtain ⟨vL, vP, h⟩ := h
  exact ⟨vL, vP, h.keptN hg⟩
theorem Rz.fr {w w' : World} {F G : Nat → Prop} {R : Nat} {r : Ro} (h : Rz w F R r) (hf : Fr w w' G) (hd : ∀ i, F i → ¬ G i) : Rz w' F R r := by
  obtain ⟨vL, vP, h⟩ := h
  exact ⟨vL, vP, h.fr hf hd⟩
theorem Rz.low {w : World} {F : Nat → Prop} {R : Nat} {r : Ro} (h : Rz w F R r) : ∀ i, F i → i < w.heap.size := by
  obtain ⟨vL, vP, h⟩ := h
  exact h.low
/-- A list of free numbers: each number and its since. -/
theorem own_pairs {w : World} {base : Nat} {v : Value} {l : List (Int × Int)} (h : w.ownsRow base 79 2 v l.length (fcs l)) : ∃ ao cap, v = .slice ao l.length cap ∧ l.length ≤ cap ∧ cap ≤ 9223372036854775807 ∧ (∀ i, i < l.length → ∃ g, ao = some ⟨g, 0, none⟩ ∧ w.cell? ⟨g, i * 2, none⟩ = some (.int .i64 (l.getD i (0, 0)).1) ∧ w.cell? ⟨g, i * 2 + 1, none⟩ = some (.int .i64 (l.getD i (0, 0)).2)) := by
  rcases h.2 with ⟨rfl, h0⟩ | ⟨g, cap, cur, rfl, hb, hc, h1, h2, h3, h4⟩
  · rw [h0]
    exact ⟨none, 0, rfl, Nat.le_refl _, by omega, fun i hi => by omega⟩
  · refine ⟨_, cap, rfl, h1, by unfold maxLen at h2; omega, fun i hi => ⟨g, rfl, ?_⟩⟩
    have a1 := fcs_at l i hi
    have e : ∀ j, j < l.length * 2 → w.cell? ⟨g, j, none⟩ = (fcs l)[j]? := fun j hj => by
      rw [cell_of_row w g j _ _ _ hc, ← h4, List.getElem?_take_of_lt hj, Array.getElem?_toList]
    exact ⟨(e _ (by omega)).trans a1.1, (e _ (by omega)).trans a1.2⟩
theorem info_rfree : (Try.prog.info? 79).map (fun i => (i.zero, i.size, i.bytes)) = some (some (.agg #[.int .i64 0, .int .i64 0]), 2, 16) := by kernel_rfl

set_option maxHeartbeats 1000000 in
set_option maxRecDepth 100000 in
/-- Free: all that is free, rising. -/
theorem rfree_any {w : World} {F : Nat → Prop} {R : Nat} {r : Ro} (h : Rz w F R r) (hs : r.l.length ≤ 2000000) :
    Calls Try.prog 29 #[.pointer (some ⟨R, 0, none⟩)] w fun e w' => ∃ v, e = .returned v ∧ w'.ownsRow w.heap.size 3 1 v r.l.length ((r.l.map (·.1)).map (Value.int .i64)) ∧ w.grownBy w' none := by
  obtain ⟨i1, hi1, hy0, hy1, hy2⟩ := info_parts info_int
  obtain ⟨vL, vP, h⟩ := h
  obtain ⟨ao, cp, rfl, hc1, hc2, hat⟩ := own_pairs h.lr
  have c2 := h.c2
  have HR := hid_intro h
  have HA := hid_intro hat
  clear h hat
  obtain ⟨n, hn⟩ : ∃ n, n = r.l.length := ⟨_, rfl⟩
  rw [← hn] at hs hc1 c2
  have HN := hid_intro hn
  go_enter Try.func29, Try.ntmps29
  rw [← hn]
  clear hn
  go_wp2
  go_loopw [3, 4] (fun sv si wr => ∃ i : Nat, i ≤ n ∧ si = .int .i64 i ∧ wr.ownsRow w.heap.size 3 1 sv i (((r.l.map (·.1)).take i).map (Value.int .i64)) ∧ w.grownBy wr none) (fun _ si _ => n - (zOf si).toNat)
  case atStart => exact ⟨0, Nat.zero_le _, rfl, own_nil _ _ _ _, World.grownBy.refl _ _⟩
  case round =>
    obtain ⟨i, hi, rfl, hown, hg⟩ := hrel
    have HO := hid_intro hown
    have HG := hid_intro hg
    have d2 := hg.cell c2 (by simp)
    clear hown hg
    by_cases hlt : i < n
    · obtain ⟨gL, rfl, q1, -⟩ := HA.out i (by rw [← HN.out]; exact hlt)
      have e1 := HG.out.cell q1 (by simp)
      have HTK : Hid ((r.l.map (·.1)).take (i + 1) = (r.l.map (·.1)).take i ++ [(r.l.getD i (0, 0)).1]) := by
        have hl : i < (r.l.map (·.1)).length := by rw [List.length_map, ← HN.out]; exact hlt
        have := take_snoc hl
        show _ = _
        rw [this]
        congr 2
        have hl2 : i < r.l.length := by rw [← HN.out]; exact hlt
        simp [List.getD, List.getElem?_eq_getElem hl2]
      clear q1
      generalize (r.l.getD i (0, 0)).1 = x at *
      go_wp2_with (first
        | (at_builtin; refine wpList_append_own _ rfl _ _ 22 rfl w.heap.size 3 i1 (.int .i64 0) 1 8 Try.underlying22 hi1 hy0 hy1 hy2 rfl (by decide) u3 i (((r.l.map (·.1)).take i).map (Value.int .i64)) rfl (HO.out.alloc _) ⟨wr.heap.size, 0, none⟩ 1 1 [.int .i64 x] rfl rfl (cell_one_new _ _ _) (by intro u hu; simp at hu; subst hu; rfl) (by unfold maxLen; omega) (by omega) (by have := HG.out.size; simp; omega) ?_; intro v' w10 ho hg10 _)
        | go_in)
      have HO4 := hid_intro ho
      have HG4 := hid_intro (grown_app5 HG.out HO.out (Nat.le_refl _) hg10)
      clear ho hg10
      go_wp2
      go_roundw
      case rel => exact ⟨i + 1, by omega, by go_num, by rw [HTK.out, List.map_append]; exact HO4.out, HG4.out⟩
      case measure => simp [zOf]; omega
    · have hin : i = n := by omega
      subst hin
      have HO5 : Hid (wr.ownsRow w.heap.size 3 1 u3 i ((r.l.map (·.1)).map (Value.int .i64))) := by
        have := HO.out
        rw [HN.out] at this ⊢
        rw [List.take_of_length_le (by simp)] at this
        exact this
      go_wp2
      go_ret
      exact ⟨_, rfl, HO5.out, HG.out⟩
end Go.Proofs.Ytpoflmcmlnghhaa
