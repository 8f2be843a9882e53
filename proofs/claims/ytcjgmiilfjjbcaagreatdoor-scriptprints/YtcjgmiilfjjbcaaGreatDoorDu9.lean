import Derived.Test.YtcjgmiilfjjbcaaGreatDoorGrpE
import Derived.Lib.FrozenHead
namespace Go.Proofs.YtcjgmiilfjjbcaaGreatDoor
open Go.RowKit

/-! ### A row of bytes of the call's own that came out of a text: a mark behind its end -/
theorem store_free (P : Program) (g o : Nat) (t : TypeId) (fz : Nat × Nat) : ∀ (vs : List Value) (i : Nat) (cur : Array Value) (w : World), w.heap[g]? = some (.cells cur t fz) → (cur.size ≤ fz.1 ∨ fz.2 ≤ o + i) → o + i + vs.length ≤ cur.size → (∀ v ∈ vs, v.oneCell' = true) →
    (storeCells ⟨g, o, none⟩ vs i).run P w = .ok () (w.setRow g (cur.toList.take (o + i) ++ vs ++ cur.toList.drop (o + i + vs.length)).toArray)
  | [], i, cur, w, hg, _, _, _ => by
    simp only [storeCells, List.append_nil, List.length_nil, Nat.add_zero, List.take_append_drop, Array.toArray_toList]
    rw [setRow_self w g cur t fz hg]
    rfl
  | v :: rest, i, cur, w, hg, hfz, hl, h1 => by
    have hi : o + i < cur.size := by simp at hl; omega
    have hadd : (⟨g, o, none⟩ : Addr).add i = ⟨g, o + i, none⟩ := by unfold Addr.add; split <;> simp_all
    have hcell : w.cell? ⟨g, o + i, none⟩ = some cur[o + i] := by simp [World.cell?, hg, hi]
    have hfro : w.frozen? ⟨g, o + i, none⟩ = false := by
      obtain ⟨lo, hi'⟩ := fz
      simp only [World.frozen?, hg, Bool.and_eq_false_iff, decide_eq_false_iff_not]
      simp only at hfz
      rcases hfz with h | h
      · left; omega
      · right; omega
    have hst : (store ((⟨g, o, none⟩ : Addr).add i) v).run P w = .ok () (w.setRow g (cur.setIfInBounds (o + i) v)) := by
      rw [hadd, run_store P w _ v _ (h1 v (by simp)), hcell]
      simp [hfro, setCell_eq_setRow w g (o + i) cur t fz v hg]
    have ih := store_free P g o t fz rest (i + 1) (cur.setIfInBounds (o + i) v) (w.setRow g (cur.setIfInBounds (o + i) v)) (setRow_heap w g cur _ t _ hg) (by simp; omega) (by simp at hl ⊢; omega) (fun x hx => h1 x (by simp [hx]))
    simp only [storeCells, Sem.run_bind, hst, Result.andThen_ok, ih, setRow_setRow]
    congr 3
    have e := list_seg_step cur.toList (o + i) v rest (by simp at hl ⊢; omega)
    simpa [Array.toList_setIfInBounds, Nat.add_assoc] using e
def Og (w : World) (base : Nat) (v : Value) (t : List UInt8) : Prop :=
  ∃ g cap cur fz, v = .slice (some ⟨g, 0, none⟩) t.length cap ∧ base ≤ g ∧ w.heap[g]? = some (.cells cur 5 fz) ∧ (cur.size ≤ fz.1 ∨ fz.2 ≤ t.length) ∧ t.length ≤ cap ∧ cap ≤ maxLen ∧ cur.size = cap ∧ cur.toList.take t.length = Lib.byteCells t
theorem Og.kept {w w' : World} {base : Nat} {v : Value} {t : List UInt8} (h : Og w base v t) (hg : w.grownBy w' none) : Og w' base v t := by
  obtain ⟨g, cap, cur, fz, h1, h2, h3, h4⟩ := h
  exact ⟨g, cap, cur, fz, h1, h2, (hg.block g (Array.getElem?_eq_some_iff.1 h3).1 (by simp)).trans h3, h4⟩
theorem Og.heap {w w' : World} {base : Nat} {v : Value} {t : List UInt8} (h : Og w base v t) (hg : w'.heap = w.heap) : Og w' base v t := by
  obtain ⟨g, cap, cur, fz, h1, h2, h3, h4⟩ := h
  exact ⟨g, cap, cur, fz, h1, h2, by rw [hg]; exact h3, h4⟩
theorem Og.shape {w : World} {base : Nat} {v : Value} {t : List UInt8} (h : Og w base v t) : ∃ a c, v = .slice a t.length c := by
  obtain ⟨g, cap, cur, fz, h1, h2, h3, h4⟩ := h
  exact ⟨_, _, h1⟩
theorem Og.byt {w : World} {base : Nat} {a : Option Addr} {n c : Nat} {t : List UInt8} (h : Og w base (.slice a n c) t) : n = t.length ∧ Byt w a n c (dz t) := by
  obtain ⟨g, cap, cur, fz, h1, h2, h3, h4, h5, h6, h7, h8⟩ := h
  simp only [Value.slice.injEq] at h1
  obtain ⟨rfl, rfl, rfl⟩ := h1
  refine ⟨rfl, Byt.of_cells (dz_len t) fun i hi => ?_⟩
  rw [Nat.zero_add, cell_of_row w g i cur 5 fz h3]
  have e : (cur.toList.take t.length)[i]? = (Lib.byteCells t)[i]? := by rw [h8]
  rw [List.getElem?_take, if_pos hi] at e
  rw [← Array.getElem?_toList, e]
  unfold Lib.byteCells dz
  simp [List.getD, List.getElem?_eq_getElem hi]
theorem Og.lt {w : World} {base : Nat} {v : Value} {t : List UInt8} (h : Og w base v t) {k : Nat} (hk : v.ownBlock = some k) : base ≤ k := by
  obtain ⟨g, cap, cur, fz, h1, h2, h3, h4⟩ := h
  rw [h1] at hk
  simp only [Value.ownBlock, Option.some.injEq] at hk
  omega
theorem conv_og (w : World) (t : List UInt8) (ht : t.length ≤ 100000000000) : Og (Lib.bytesWorld w 5 (tstr t)) w.heap.size (.slice (some ⟨w.heap.size, 0, none⟩) (tstr t).size (grownCap w (tstr t).size 0 5)) t := by
  have hge := grownCap_ge w (tstr t).size 0 5
  have hle := grownCap_le_maxLen w (tstr t).size 0 5 (by rw [tstr_size]; unfold maxLen; omega)
  have hsz := tstr_size t
  have hbs : (Lib.bytesCells w 5 (tstr t)).size = grownCap w (tstr t).size 0 5 := by
    unfold Lib.bytesCells
    simp
    omega
  refine ⟨w.heap.size, _, _, _, by rw [hsz], Nat.le_refl _, Lib.bytesWorld_at_new w 5 (tstr t), .inl (Nat.le_refl _), by omega, hle, hbs, ?_⟩
  unfold Lib.bytesCells
  rw [Array.toList_append, List.take_append_of_le_length (by simp [tstr])]
  unfold Lib.byteCells
  rw [List.take_of_length_le (by simp [tstr])]
  simp [tstr]
theorem run_append_og {P : Program} (w : World) (base : Nat) (t u ty : TypeId) (i : TypeInfo) (ht : P.underlying t = some (.slice 5)) (hu : P.underlying u = some .string) (hi : P.info? 5 = some i) (hz : i.zero = some (.int .u8 0))
    (hsize : i.size = 1) (hby : i.bytes = 1) (v : Value) (x : List UInt8) (hown : Og w base v x) (y : List UInt8)
    (hbytes : x.length + y.length ≤ 140737488355328) (hbase : base ≤ w.heap.size) :
    ∃ v' w', (Builtin.append_ #[t, u] ty #[v, .string (tstr y)]).run P w = .ok v' w' ∧ Og w' base v' (x ++ y) ∧ w.grownBy w' v.ownBlock := by
  obtain ⟨g, cap, cur, fz, rfl, hbg, hg, hfz, hnc, hcm, hcs, htake⟩ := hown
  have hys := tstr_size y
  have hcl : (Lib.strCells (tstr y)).length = y.length := by rw [Lib.strCells_length, hys]
  by_cases hroom : x.length + y.length ≤ cap
  · have hf := Lib.run_firstCells_string (P := P) w 1 (tstr y)
    have hst := store_free P g x.length 5 fz (Lib.strCells (tstr y)) 0 cur w hg (by omega) (by omega) (Lib.strCells_oneCell (tstr y))
    simp only [Nat.add_zero, hcl] at hst
    rw [hys] at hf
    have hr : (Builtin.append_ #[t, u] ty #[.slice (some ⟨g, 0, none⟩) x.length cap, .string (tstr y)]).run P w = .ok (.slice (some ⟨g, 0, none⟩) (x.length + y.length) cap) (w.setRow g (cur.toList.take x.length ++ Lib.strCells (tstr y) ++ cur.toList.drop (x.length + y.length)).toArray) := by
      simp [Builtin.append_, run_underlying ht, run_underlying hu, sizeOf, typeInfo, hi, hsize, Builtin.lenOf, hys, hroom, hf, Addr.add_lit, hst]
    refine ⟨_, _, hr, ⟨g, cap, _, fz, by rw [List.length_append], hbg, setRow_heap w g cur _ 5 _ hg, ?_, by rw [List.length_append]; exact hroom, hcm, ?_, ?_⟩, ⟨rfl, rfl, rfl, by simp, fun k _ hk => setRow_other w g k _ (fun e => hk (by simp [Value.ownBlock, e]))⟩⟩
    · rcases hfz with h | h
      · left
        simp only [List.size_toArray, List.length_append, List.length_take, List.length_drop, Array.length_toList, hcl]
        omega
      · right; rw [List.length_append]; omega
    · simp only [List.size_toArray, List.length_append, List.length_take, List.length_drop, Array.length_toList, hcl]
      omega
    · rw [htake, Lib.byteCells_append, List.length_append]
      have e1 : (Lib.byteCells x ++ Lib.strCells (tstr y)).length = x.length + y.length := by rw [List.length_append, hcl, Lib.byteCells_length]
      show List.take (x.length + y.length) (Lib.byteCells x ++ Lib.strCells (tstr y) ++ _) = _
      rw [← e1, List.take_left]
      rfl
  · have holds : ∀ j u, (Lib.byteCells x)[j]? = some u → w.cell? ((⟨g, 0, none⟩ : Addr).add j) = some u := by
      intro j u hju
      have hj : j < x.length := by have := (List.getElem?_eq_some_iff.1 hju).1; simpa [Lib.byteCells_length] using this
      rw [Addr.add_lit, Nat.zero_add, cell_of_row w g j cur 5 fz hg]
      have e : (cur.toList.take x.length)[j]? = (Lib.byteCells x)[j]? := by rw [htake]
      rw [List.getElem?_take, if_pos hj] at e
      rw [← Array.getElem?_toList, e, hju]
    have hr := Lib.run_append_grow_string (P := P) w t u ty 5 i (.int .u8 0) ht hu hi hz ⟨g, 0, none⟩ x.length cap (Lib.byteCells x) (by rw [hsize, Lib.byteCells_length]; omega) holds (tstr y) (by omega) (by omega) (by rw [hby]; exact growslice_fits (by omega) (by omega))
    have hge := grownCap_ge w (x.length + (tstr y).size) cap 5
    have hcm2 : grownCap w (x.length + (tstr y).size) cap 5 ≤ maxLen := grownCap_le_maxLen w (x.length + (tstr y).size) cap 5 (by unfold maxLen; omega)
    refine ⟨_, _, hr, ⟨w.heap.size, _, _, (0, 0), by rw [List.length_append, hys], hbase, heap_alloc_new w.drew _, .inr (Nat.zero_le _), by rw [List.length_append]; omega, hcm2, ?_, ?_⟩, ⟨rfl, rfl, rfl, by simp, fun k hk _ => Lib.alloc_old w.drew _ k hk⟩⟩
    · have hz1 : (Value.int IntKind.u8 0).cells.size = 1 := rfl
      simp only [Array.size_append, List.size_toArray, size_zeroCells, hz1, Lib.byteCells_length, hcl]
      omega
    · simp only [Array.toList_append, List.append_assoc]
      rw [← List.append_assoc, Lib.byteCells_append]
      have e1 : (Lib.byteCells x ++ Lib.strCells (tstr y)).length = (x ++ y).length := by rw [List.length_append, hcl, Lib.byteCells_length, List.length_append]
      show List.take (x ++ y).length (Lib.byteCells x ++ Lib.strCells (tstr y) ++ _) = _
      rw [← e1, List.take_left]
      rfl
theorem step_append_og {ops : Array Oper} {o : Oper} {a : Act} {w : World} {K : Act → World → Prop} {Q : Exit → Act → World → Prop} {E : Prop} (hgd : o.guard = none) (s x : Operand)
    (ho : o.op = .call { callee := .builtin .append, args := #[s, x], argTypes := #[32, 9] })
    (base : Nat) (v : Value) (p : List UInt8) (hs : a.eval s = v) (hown : Og w base v p) (S : ByteArray) (y : List UInt8) (hS : S = tstr y) (hx : a.eval x = .string S)
    (hbytes : p.length + y.length ≤ 140737488355328) (hbase : base ≤ w.heap.size)
    (h : ∀ v' w', Og w' base v' (p ++ y) → w.grownBy w' v.ownBlock → K (a.put o.dst v') w') :
    if Region.wanted o (yielded ops a.tmps) = true then Oper.wp Tryz.prog o a w K Q else E := by
  obtain ⟨i0, hi, hz0, hz1, hz2⟩ := info_parts info_u8
  have hw : Region.wanted o (yielded ops a.tmps) = true := by simp [Region.wanted, hgd]
  rw [if_pos hw]
  subst hS
  obtain ⟨v', w', hrun, r1, r2⟩ := run_append_og (P := Tryz.prog) w base 32 9 o.type i0 Tryz.underlying32 Tryz.underlying9 hi hz0 hz1 hz2 v p hown y hbytes hbase
  unfold Oper.wp
  simp [execOp, ho, resolve, invoke, builtin, hs, hx, hrun, Result.andThen]
  exact h v' w' r1 r2
theorem grown_og {w w7 w8 w3 : World} {B : Nat} {v : Value} {t : List UInt8} (h : w.grownBy w7 none) (ho : Og w3 B v t) (hB : w.heap.size ≤ B) (hg : w7.grownBy w8 v.ownBlock) : w.grownBy w8 none :=
  ⟨hg.os.trans h.os, hg.tape.trans h.tape, hg.output.trans h.output, Nat.le_trans h.size hg.size, fun k hk hn => (hg.block k (by have := h.size; omega) (fun e => by have := ho.lt e.symm; omega)).trans (h.block k hk hn)⟩
theorem bytesW_grownD (w : World) (e : TypeId) (s : ByteArray) : w.grownBy (Lib.bytesWorld w e s) none :=
  ⟨rfl, rfl, rfl, by rw [Lib.bytesWorld_size]; omega, fun i hi _ => Lib.bytesWorld_at_old w e s i hi⟩
theorem jdg_take {l : List Pq} {i : Nat} {p : Pq} (hp : l[i]? = some p) : jdg [] l = jdg (ahd l i) (l.drop i) → jdg [] l = if flt (ahd l i) p = 0 then jdg (ahd l (i + 1)) (l.drop (i + 1)) else flt (ahd l i) p := by
  intro hh
  rw [hh, jdg_drop _ hp]
  have : ahd l (i + 1) = p.1 := by simp [ahd, hp]
  rw [this]
end Go.Proofs.YtcjgmiilfjjbcaaGreatDoor
