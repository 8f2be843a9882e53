import Derived.Test.YthebdbdahdegfaaBackG
namespace Go.Proofs.Ythebdbdahdegfaa
open Go.RowKit

theorem info_int : (Try.prog.info? 3).map (fun i => (i.zero, i.size, i.bytes)) = some (some (.int .i64 0), 1, 8) := by kernel_rfl

theorem hid_intro {p : Prop} (h : p) : Hid p := h

theorem owns_base {w : World} {base base' n : Nat} {e : TypeId} {v : Value} {xs : List Value} (h : w.ownsRow base e 1 v n xs) (hb : base' ≤ base) : w.ownsRow base' e 1 v n xs := by
  refine ⟨h.1, ?_⟩
  rcases h.2 with h2 | ⟨g, cap, cur, hv, hg, r⟩
  · exact Or.inl h2
  · exact Or.inr ⟨g, cap, cur, hv, by omega, r⟩

/-- What holds at each round's head of the first loop. -/
def PutRel (w : World) (B L : Nat) (X : Nat → Nat) (D : Nat → Int) (vb ve si : Value) (wr : World) : Prop :=
  ∃ k : Nat, k ≤ L ∧ si = .int .i64 k ∧ wr.ownsRow B 5 1 vb (acc X D k).length ((acc X D k).map (Value.int .u8)) ∧ wr.ownsRow B 3 1 ve k (endsL X D k) ∧ w.grownBy wr none ∧ B ≤ wr.heap.size

theorem grown_own' {w wr w1 : World} {o : Obj} {base n : Nat} {v : Value} {xs : List Value} (hg : w.grownBy wr none) (hown : wr.ownsRow base 3 1 v n xs) (hb : w.heap.size ≤ base) (h : (wr.alloc o).grownBy w1 v.ownBlock) : w.grownBy w1 none := by
  refine ⟨h.os.trans hg.os, h.tape.trans hg.tape, h.output.trans hg.output, ?_, fun k hk _ => ?_⟩
  · have := h.size; have := hg.size; simp at *; omega
  · have hk2 : k < wr.heap.size := Nat.lt_of_lt_of_le hk hg.size
    rw [h.block k (by simp; omega) (by intro e; have := (hown.lt k e.symm).1; omega), Below.heap_alloc wr o k hk2]
    exact hg.block k hk (by simp)

/-- A number has been put, and its end appended. -/
theorem PutRel.next {w wr w3 w4 : World} {B L k g m : Nat} {X : Nat → Nat} {D : Nat → Int} {ve ve' : Value} (hB : w.heap.size ≤ B) (hk : k < L) (hg : w.grownBy wr none) (hBs : B ≤ wr.heap.size) (hend : wr.ownsRow B 3 1 ve k (endsL X D k))
    (o : Obj) (hgw : wr.grownBy w3 none) (hm : m = (acc X D (k + 1)).length)
    (hown : w3.ownsRow B 5 1 (.slice (some ⟨g, 0, none⟩) m m) m ((acc X D (k + 1)).map (Value.int .u8)))
    (h4 : w4.ownsRow B 3 1 ve' (k + 1) (endsL X D k ++ [.int .i64 (m : Nat)])) (hg4 : (w3.alloc o).grownBy w4 ve.ownBlock) (I : Int) (hI : I = (k : Int) + 1) :
    PutRel w B L X D (.slice (some ⟨g, 0, none⟩) m m) ve' (.int .i64 I) w4 := by
  subst hI
  have hend3 : w3.ownsRow B 3 1 ve k (endsL X D k) := hend.kept hgw (by cases ve.ownBlock <;> simp)
  have hne := own_apart hown hend3
  refine ⟨k + 1, by omega, by go_num, ?_, ?_, ?_, ?_⟩
  · rw [← hm]
    exact (hown.alloc o).kept hg4 hne
  · rw [endsL_succ, ← hm]; exact h4
  · refine grown_own' (grown_trans hg hgw) hend3 hB hg4
  · have := hg4.size; have := hgw.size; simp at *; omega

/-- What holds at each round's head of the second loop. -/
def BackRel (w5 : World) (R G L C : Nat) (X : Nat → Nat) (D : Nat → Int) (sf si : Value) (W : World) : Prop :=
  ∃ j : Nat, j ≤ L ∧ sf = .int .i64 ((acc X D j).length : Nat) ∧ si = .int .i64 j ∧ (acc X D j).length ≤ C ∧ Rd W R G ((acc X D L).take C) (acc X D j).length 0 ∧ w5.grownBy W (some R)

theorem owns_shape' {w : World} {base n : Nat} {v : Value} {xs : List Value} (h : w.ownsRow base 3 1 v n xs) (hn : 0 < n) :
    ∃ g cap, v = .slice (some ⟨g, 0, none⟩) n cap ∧ base ≤ g ∧ g < w.heap.size ∧ n ≤ cap := by
  rcases h.2 with ⟨_, h0⟩ | ⟨g, cap, cur, hv, hb, hg, hc, _⟩
  · omega
  · exact ⟨g, cap, hv, hb, (Array.getElem?_eq_some_iff.1 hg).1, hc⟩

end Go.Proofs.Ythebdbdahdegfaa
