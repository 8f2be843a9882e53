import Derived.Test.YtlhjociijkhimaaGreatDoorFirst
import Derived.Laws.AppendOwnNone
namespace Go.Proofs.YtlhjociijkhimaaGreatDoor
open Go.RowKit

theorem Byt.heap {w w' : World} {ao : Option Addr} {n cap : Nat} {zs : List Int} (h : Byt w ao n cap zs) (e : w'.heap = w.heap) : Byt w' ao n cap zs :=
  ⟨h.len, h.nil, fun ad had j u hu => (World.cell?_of_block (by rw [e])).trans (h.cells ad had j u hu)⟩

/-- 'append(out, ts...)', out the call's own, ts whatever bytes can be read, nil too. -/
theorem wpList_append_byt {w : World} {ops : Array Oper} {rest : List Oper} {o : Oper} {a : Act} {Q : Exit → Act → World → Prop} (hgd : o.guard = none) (s x : Operand)
    (ho : o.op = .call { callee := .builtin .append, args := #[s, x], argTypes := #[41, 41] })
    (base : Nat) (v : Value) (n : Nat) (zs : List Int) (hs : a.eval s = v) (hown : w.ownsRow base 5 1 v n (zs.map (Value.int .u8)))
    (ao : Option Addr) (m c : Nat) (ts : List Int) (hx : a.eval x = .slice ao m c) (hb : Byt w ao m c ts) (h63 : n + m ≤ 140737488355328) (hbase : base ≤ w.heap.size)
    (h : ∀ v' w', w'.ownsRow base 5 1 v' (n + m) ((zs ++ ts).map (Value.int .u8)) → w.grownBy w' v.ownBlock → wpList Tryz.prog ops Q rest (a.put o.dst v') w') : wpList Tryz.prog ops Q (o :: rest) a w := by
  obtain ⟨i0, hi, hz0, hz1, hz2⟩ := info_parts info_u8
  cases ao with
  | none =>
    obtain ⟨rfl, rfl⟩ := hb.nil rfl
    have ht : ts = [] := List.length_eq_zero_iff.1 hb.len
    subst ht
    refine wpList_append_own_none hgd s x 41 ho base 5 i0 1 Tryz.underlying41 hi v n _ hs hown hx ?_
    exact h v w (by rw [List.append_nil]; exact hown) (World.grownBy.refl _ _)
  | some ad =>
    refine wpList_append_own w hgd s x 41 ho base 5 i0 (.int .u8 0) 1 1 Tryz.underlying41 hi hz0 hz1 hz2 rfl (by decide) v n _ hs hown ad m c (ts.map (Value.int .u8)) hx (by rw [List.length_map, hb.len, Nat.mul_one]) (hb.cells ad rfl) (ints_oneCell _ _) (by unfold maxLen; omega) (by omega) hbase ?_
    intro v' w' h1 h2 _
    exact h v' w' (by rw [List.map_append]; exact h1) h2

/-- What owns at least one element is a slice at the head of a row. -/
theorem owns_shape {w : World} {base n : Nat} {v : Value} {xs : List Value} (h : w.ownsRow base 5 1 v n xs) (hn : 0 < n) :
    ∃ g cap, v = .slice (some ⟨g, 0, none⟩) n cap ∧ base ≤ g ∧ g < w.heap.size ∧ n ≤ cap := by
  rcases h.2 with ⟨_, h0⟩ | ⟨g, cap, cur, hv, hb, hg, hc, _⟩
  · omega
  · exact ⟨g, cap, hv, hb, (Array.getElem?_eq_some_iff.1 hg).1, hc⟩

set_option maxHeartbeats 400000 in
/-- coppiceref.Bytes: a copy. -/
theorem refBytes_any (ao : Option Addr) (n cap : Nat) (zs : List Int) (w : World) (hb : Byt w ao n cap zs) (hn : n ≤ 140737488351232) :
    Calls Tryz.prog 16 #[.slice ao n cap] w fun e w' =>
      e = .returned (.slice (some ⟨w.heap.size, 0, none⟩) n n) ∧
      w'.ownsRow w.heap.size 5 1 (.slice (some ⟨w.heap.size, 0, none⟩) n n) n (zs.map (Value.int .u8)) ∧ w.grownBy w' none ∧ w.heap.size < w'.heap.size := by
  obtain ⟨i0, hi, hz0, hz1, hz2⟩ := info_parts info_u8
  have HB : Hid (Byt w ao n cap zs) := hb
  clear hb
  go_enter Tryz.func16, Tryz.ntmps16
  go_wp2_with (at_make; refine wpList_make_own _ rfl _ _ 41 rfl w.heap.size 5 i0 (.int .u8 0) 1 Tryz.underlying41 hi hz0 hz1 _ _ _ n rfl rfl rfl ?b2 ?b3 (Nat.le_refl _) ?_)
  case b2 => rw [hz2]; omega
  case b3 => unfold maxLen; omega
  intro w0 hown0 hgrow0
  have hb0 := HB.out.keptN hgrow0
  go_wp2_with (at_builtin; refine wpList_append_fits_any _ rfl _ _ 41 rfl w.heap.size 5 i0 1 Tryz.underlying41 hi hz1 w.heap.size 0 n _ rfl hown0 _ n _ (zs.map (Value.int .u8)) rfl (by rw [List.length_map, hb0.len, Nat.mul_one]) hb0.nil hb0.cells (ints_oneCell _ _) (by omega) ?_)
  intro w1 hown1 hgrow1
  have hg : w.grownBy w1 none := ⟨hgrow1.os.trans hgrow0.os, hgrow1.tape.trans hgrow0.tape, hgrow1.output.trans hgrow0.output, Nat.le_trans hgrow0.size hgrow1.size,
    fun k hk _ => (hgrow1.block k (by have := hgrow0.size; omega) (by intro e; have := Option.some.inj e; omega)).trans (hgrow0.block k hk (by simp))⟩
  have hs : w.heap.size < w1.heap.size := (hown1.lt w.heap.size rfl).2
  go_wp2
  go_ret
  exact ⟨rfl, hown1, hg, hs⟩
theorem owns_any {w : World} {base n : Nat} {v : Value} {zs : List Int} (h : w.ownsRow base 5 1 v n (zs.map (Value.int .u8))) :
    ∃ ao cap, v = .slice ao n cap ∧ Byt w ao n cap zs := by
  rcases h.2 with ⟨rfl, rfl⟩ | ⟨g, cap, cur, rfl, _⟩
  · have : zs = [] := by have := h.1; simpa using this
    subst this
    exact ⟨none, 0, rfl, Byt.empty w⟩
  · exact ⟨_, cap, rfl, Byt.of_owns h⟩

theorem grown_own {w wr w1 : World} {o : Obj} {base n : Nat} {v : Value} {xs : List Value} (hg : w.grownBy wr none) (hown : wr.ownsRow base 5 1 v n xs) (hb : w.heap.size ≤ base) (h : (wr.alloc o).grownBy w1 v.ownBlock) : w.grownBy w1 none := by
  refine ⟨h.os.trans hg.os, h.tape.trans hg.tape, h.output.trans hg.output, ?_, fun k hk _ => ?_⟩
  · have := h.size; have := hg.size; simp at *; omega
  · have hk2 : k < wr.heap.size := Nat.lt_of_lt_of_le hk hg.size
    rw [h.block k (by simp; omega) (by intro e; have := (hown.lt k e.symm).1; omega), Below.heap_alloc wr o k hk2]
    exact hg.block k hk (by simp)
theorem lb_mod : ∀ (k x : Nat), lb k (x % 256 ^ k) = lb k x
  | 0, _ => rfl
  | k + 1, x => by
    rw [lb, lb, Nat.pow_succ, Nat.mul_comm, ← lb_mod k (x / 256), Nat.mod_mul_right_mod, Nat.mod_mul_right_div_self]

end Go.Proofs.YtlhjociijkhimaaGreatDoor
