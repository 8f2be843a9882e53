import Derived.Test.YtcjgmiilfjjbcaaGreatDoorRows
import Derived.Test.YtcjgmiilfjjbcaaGreatDoorMem
import Derived.Laws.BytesArg
import Derived.Laws.AppendOwnNone
namespace Go.Proofs.YtcjgmiilfjjbcaaGreatDoor
open Go.RowKit

theorem info_u8 : (Tryz.prog.info? 5).map (fun i => (i.zero, i.size, i.bytes)) = some (some (.int .u8 0), 1, 1) := by kernel_rfl



theorem conv_str {w : World} {ao : Option Addr} {n cap : Nat} {zs : List Int} (hb : Byt w ao n cap zs) :
    (convert 32 9 (.slice ao n cap)).run Tryz.prog w = .ok (.string (strOfNums zs)) w := by
  cases ao with
  | none =>
    obtain ⟨rfl, rfl⟩ := hb.nil rfl
    have : zs = [] := List.length_eq_zero_iff.1 hb.len
    subst this
    exact run_convert_bytes_nil w 32 5 Tryz.underlying32 Tryz.underlying5 0 0 9 Tryz.underlying9
  | some ad =>
    rw [run_convert_bytes_string w 32 9 5 _ n cap Tryz.underlying32 Tryz.underlying5 Tryz.underlying9]
    have hl : (loadCells ad n).run Tryz.prog w = .ok (zs.map (Value.int .u8)).toArray w := by
      have := run_loadCells_list (P := Tryz.prog) w ad (zs.map (Value.int .u8)) (hb.cells ad rfl)
      rwa [List.length_map, hb.len] at this
    rw [run_bytesToString w ad n cap zs hl, foldl_push_bytes]
    simp [strOfNums]

theorem str_inj {a b : List Int} (ha : Bt a) (hb : Bt b) (h : strOfNums a = strOfNums b) : a = b := by
  have h1 : a.map (fun n => UInt8.ofNat n.toNat) = b.map (fun n => UInt8.ofNat n.toNat) := by
    have := congrArg (fun s : ByteArray => s.data.toList) h
    simpa [strOfNums_data] using this
  have hl : a.length = b.length := by have := congrArg List.length h1; simpa using this
  apply List.ext_getElem hl
  intro i h2 h3
  have := congrArg (fun l : List UInt8 => l[i]?) h1
  simp only [List.getElem?_map, List.getElem?_eq_getElem h2, List.getElem?_eq_getElem h3, Option.map_some, Option.some.injEq] at this
  have e := congrArg UInt8.toNat this
  have ga := ha a[i] (List.getElem_mem h2)
  have gb := hb b[i] (List.getElem_mem h3)
  simp at e
  omega

set_option maxHeartbeats 400000 in
theorem same_yes (ao bo : Option Addr) (n m c d : Nat) (za zb : List Int) (w : World) (ha : Byt w ao n c za) (hb : Byt w bo m d zb) (e : za = zb) :
    Calls Tryz.prog 63 #[.slice ao n c, .slice bo m d] w fun en w' => en = .returned (.bool true) ∧ w' = w := by
  subst e
  have h1 := conv_str ha
  have h2 := conv_str hb
  clear ha hb
  go_enter Tryz.func63, Tryz.ntmps63
  go_wp2
  go_ret
  exact ⟨rfl, rfl⟩

set_option maxHeartbeats 400000 in
theorem same_no (ao bo : Option Addr) (n m c d : Nat) (za zb : List Int) (w : World) (ha : Byt w ao n c za) (hb : Byt w bo m d zb) (ba : Bt za) (bb : Bt zb) (e : za ≠ zb) :
    Calls Tryz.prog 63 #[.slice ao n c, .slice bo m d] w fun en w' => en = .returned (.bool false) ∧ w' = w := by
  have hne : ((strOfNums za).toList == (strOfNums zb).toList) = false := by
    rw [beq_eq_false_iff_ne, ByteArray.toList_eq, ByteArray.toList_eq]
    intro h
    refine e (str_inj ba bb ?_)
    have := Array.toList_inj.1 h
    cases hx : strOfNums za; cases hy : strOfNums zb; simp_all
  have h1 := conv_str ha
  have h2 := conv_str hb
  clear ha hb
  go_enter Tryz.func63, Tryz.ntmps63
  go_wp2
  go_ret
  exact ⟨rfl, rfl⟩



theorem Byt.heap {w w' : World} {ao : Option Addr} {n cap : Nat} {zs : List Int} (h : Byt w ao n cap zs) (e : w'.heap = w.heap) : Byt w' ao n cap zs :=
  ⟨h.len, h.nil, fun ad had j u hu => (World.cell?_of_block (by rw [e])).trans (h.cells ad had j u hu)⟩

/-- 'append(out, ts...)', out the call's own, ts whatever bytes can be read, nil too. -/
theorem wpList_append_byt {w : World} {ops : Array Oper} {rest : List Oper} {o : Oper} {a : Act} {Q : Exit → Act → World → Prop} (hgd : o.guard = none) (s x : Operand)
    (ho : o.op = .call { callee := .builtin .append, args := #[s, x], argTypes := #[32, 32] })
    (base : Nat) (v : Value) (n : Nat) (zs : List Int) (hs : a.eval s = v) (hown : w.ownsRow base 5 1 v n (zs.map (Value.int .u8)))
    (ao : Option Addr) (m c : Nat) (ts : List Int) (hx : a.eval x = .slice ao m c) (hb : Byt w ao m c ts) (h63 : n + m ≤ 140737488355328) (hbase : base ≤ w.heap.size)
    (h : ∀ v' w', w'.ownsRow base 5 1 v' (n + m) ((zs ++ ts).map (Value.int .u8)) → w.grownBy w' v.ownBlock → wpList Tryz.prog ops Q rest (a.put o.dst v') w') : wpList Tryz.prog ops Q (o :: rest) a w := by
  obtain ⟨i0, hi, hz0, hz1, hz2⟩ := info_parts info_u8
  cases ao with
  | none =>
    obtain ⟨rfl, rfl⟩ := hb.nil rfl
    have ht : ts = [] := List.length_eq_zero_iff.1 hb.len
    subst ht
    refine wpList_append_own_none hgd s x 32 ho base 5 i0 1 Tryz.underlying32 hi v n _ hs hown hx ?_
    exact h v w (by rw [List.append_nil]; exact hown) (World.grownBy.refl _ _)
  | some ad =>
    refine wpList_append_own w hgd s x 32 ho base 5 i0 (.int .u8 0) 1 1 Tryz.underlying32 hi hz0 hz1 hz2 rfl (by decide) v n _ hs hown ad m c (ts.map (Value.int .u8)) hx (by rw [List.length_map, hb.len, Nat.mul_one]) (hb.cells ad rfl) (ints_oneCell _ _) (by unfold maxLen; omega) (by omega) hbase ?_
    intro v' w' h1 h2 _
    exact h v' w' (by rw [List.map_append]; exact h1) h2

/-- What owns at least one element is a slice at the head of a row. -/
theorem owns_shape {w : World} {base n : Nat} {v : Value} {xs : List Value} (h : w.ownsRow base 5 1 v n xs) (hn : 0 < n) :
    ∃ g cap, v = .slice (some ⟨g, 0, none⟩) n cap ∧ base ≤ g ∧ g < w.heap.size ∧ n ≤ cap := by
  rcases h.2 with ⟨_, h0⟩ | ⟨g, cap, cur, hv, hb, hg, hc, _⟩
  · omega
  · exact ⟨g, cap, hv, hb, (Array.getElem?_eq_some_iff.1 hg).1, hc⟩

set_option maxHeartbeats 400000 in
/-- coppiceref.Bytes: a copy. -/
theorem refBytes_any (ao : Option Addr) (n cap : Nat) (zs : List Int) (w : World) (hb : Byt w ao n cap zs) (hn : n ≤ 140737488351232) :
    Calls Tryz.prog 16 #[.slice ao n cap] w fun e w' =>
      e = .returned (.slice (some ⟨w.heap.size, 0, none⟩) n n) ∧
      w'.ownsRow w.heap.size 5 1 (.slice (some ⟨w.heap.size, 0, none⟩) n n) n (zs.map (Value.int .u8)) ∧ w.grownBy w' none ∧ w.heap.size < w'.heap.size := by
  obtain ⟨i0, hi, hz0, hz1, hz2⟩ := info_parts info_u8
  have HB : Hid (Byt w ao n cap zs) := hb
  clear hb
  go_enter Tryz.func16, Tryz.ntmps16
  go_wp2_with (at_make; refine wpList_make_own _ rfl _ _ 32 rfl w.heap.size 5 i0 (.int .u8 0) 1 Tryz.underlying32 hi hz0 hz1 _ _ _ n rfl rfl rfl ?b2 ?b3 (Nat.le_refl _) ?_)
  case b2 => rw [hz2]; omega
  case b3 => unfold maxLen; omega
  intro w0 hown0 hgrow0
  have hb0 := HB.out.keptN hgrow0
  go_wp2_with (at_builtin; refine wpList_append_fits_any _ rfl _ _ 32 rfl w.heap.size 5 i0 1 Tryz.underlying32 hi hz1 w.heap.size 0 n _ rfl hown0 _ n _ (zs.map (Value.int .u8)) rfl (by rw [List.length_map, hb0.len, Nat.mul_one]) hb0.nil hb0.cells (ints_oneCell _ _) (by omega) ?_)
  intro w1 hown1 hgrow1
  have hg : w.grownBy w1 none := ⟨hgrow1.os.trans hgrow0.os, hgrow1.tape.trans hgrow0.tape, hgrow1.output.trans hgrow0.output, Nat.le_trans hgrow0.size hgrow1.size,
    fun k hk _ => (hgrow1.block k (by have := hgrow0.size; omega) (by intro e; have := Option.some.inj e; omega)).trans (hgrow0.block k hk (by simp))⟩
  have hs : w.heap.size < w1.heap.size := (hown1.lt w.heap.size rfl).2
  go_wp2
  go_ret
  exact ⟨rfl, hown1, hg, hs⟩
theorem owns_any {w : World} {base n : Nat} {v : Value} {zs : List Int} (h : w.ownsRow base 5 1 v n (zs.map (Value.int .u8))) :
    ∃ ao cap, v = .slice ao n cap ∧ Byt w ao n cap zs := by
  rcases h.2 with ⟨rfl, rfl⟩ | ⟨g, cap, cur, rfl, _⟩
  · have : zs = [] := by have := h.1; simpa using this
    subst this
    exact ⟨none, 0, rfl, Byt.empty w⟩
  · exact ⟨_, cap, rfl, Byt.of_owns h⟩

theorem grown_own {w wr w1 : World} {o : Obj} {base n : Nat} {v : Value} {xs : List Value} (hg : w.grownBy wr none) (hown : wr.ownsRow base 5 1 v n xs) (hb : w.heap.size ≤ base) (h : (wr.alloc o).grownBy w1 v.ownBlock) : w.grownBy w1 none := by
  refine ⟨h.os.trans hg.os, h.tape.trans hg.tape, h.output.trans hg.output, ?_, fun k hk _ => ?_⟩
  · have := h.size; have := hg.size; simp at *; omega
  · have hk2 : k < wr.heap.size := Nat.lt_of_lt_of_le hk hg.size
    rw [h.block k (by simp; omega) (by intro e; have := (hown.lt k e.symm).1; omega), Below.heap_alloc wr o k hk2]
    exact hg.block k hk (by simp)
/-- Nothing but draws. -/
structure Qt (w w' : World) : Prop where
  os : w'.os = w.os
  tape : w'.tape = w.tape
  output : w'.output = w.output
  heap : w'.heap = w.heap

theorem Qt.refl (w : World) : Qt w w := ⟨rfl, rfl, rfl, rfl⟩
theorem Qt.drew {w w' : World} (h : Qt w w') : Qt w w'.drew := ⟨h.os, h.tape, h.output, h.heap⟩
theorem Qt.trans {a b c : World} (h : Qt a b) (k : Qt b c) : Qt a c := ⟨k.os.trans h.os, k.tape.trans h.tape, k.output.trans h.output, k.heap.trans h.heap⟩
theorem Qt.grown {w w' : World} (h : Qt w w') (row : Option Nat) : w.grownBy w' row := ⟨h.os, h.tape, h.output, by rw [h.heap]; exact Nat.le_refl _, fun _ _ _ => by rw [h.heap]⟩
theorem Qt.cell {w w' : World} (h : Qt w w') (a : Addr) : w'.cell? a = w.cell? a := World.cell?_of_block (by rw [h.heap])

theorem grown_trans {a b c : World} {row : Option Nat} (h : a.grownBy b row) (k : b.grownBy c row) : a.grownBy c row :=
  ⟨k.os.trans h.os, k.tape.trans h.tape, k.output.trans h.output, Nat.le_trans h.size k.size, fun i hi hne => (k.block i (Nat.lt_of_lt_of_le hi h.size) hne).trans (h.block i hi hne)⟩

theorem grown_any {a b : World} {row : Option Nat} (h : a.grownBy b none) : a.grownBy b row := ⟨h.os, h.tape, h.output, h.size, fun i hi _ => h.block i hi (by simp)⟩

theorem Qt.drewN (w : World) (n : Nat) : Qt w (w.drewN n) := ⟨rfl, rfl, rfl, rfl⟩
theorem hid_intro {p : Prop} (h : p) : Hid p := h
theorem ret_true {b : Bool} (h : b = true) : Ending.returned (.bool b) = .returned (.bool true) := by rw [h]

theorem grown_new {a b c : World} {R : Nat} (h : a.grownBy b none) (k : b.grownBy c (some R)) (hR : a.heap.size ≤ R) : a.grownBy c none :=
  ⟨k.os.trans h.os, k.tape.trans h.tape, k.output.trans h.output, Nat.le_trans h.size k.size,
    fun i hi _ => (k.block i (Nat.lt_of_lt_of_le hi h.size) (by intro e; have := Option.some.inj e; omega)).trans (h.block i hi (by simp))⟩

end Go.Proofs.YtcjgmiilfjjbcaaGreatDoor
