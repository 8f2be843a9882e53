import Derived.Test.YtioleabkbkmggaaDoorDu8
import Derived.Lib.FrozenHead
namespace Go.Proofs.YtioleabkbkmggaaDoor
open Go.RowKit

/-! ### A row of bytes of the call's own that came out of a text: a mark behind its end -/
theorem store_free (P : Program) (g o : Nat) (t : TypeId) (fz : Nat × Nat) : ∀ (vs : List Value) (i : Nat) (cur : Array Value) (w : World), w.heap[g]? = some (.cells cur t fz) → (cur.size ≤ fz.1 ∨ fz.2 ≤ o + i) → o + i + vs.length ≤ cur.size → (∀ v ∈ vs, v.oneCell' = true) →
    (storeCells ⟨g, o, none⟩ vs i).run P w = .ok () (w.setRow g (cur.toList.take (o + i) ++ vs ++ cur.toList.drop (o + i + vs.length)).toArray)
  | [], i, cur, w, hg, _, _, _ => by
    simp only [storeCells, List.append_nil, List.length_nil, Nat.add_zero, List.take_append_drop, Array.toArray_toList]
    rw [setRow_self w g cur t fz hg]
    rfl
  | v :: rest, i, cur, w, hg, hfz, hl, h1 => by
    have hi : o + i < cur.size := by simp at hl; omega
    have hadd : (⟨g, o, none⟩ : Addr).add i = ⟨g, o + i, none⟩ := by unfold Addr.add; split <;> simp_all
    have hcell : w.cell? ⟨g, o + i, none⟩ = some cur[o + i] := by simp [World.cell?, hg, hi]
    have hfro : w.frozen? ⟨g, o + i, none⟩ = false := by
      obtain ⟨lo, hi'⟩ := fz
      simp only [World.frozen?, hg, Bool.and_eq_false_iff, decide_eq_false_iff_not]
      simp only at hfz
      rcases hfz with h | h
      · left; omega
      · right; omega
    have hst : (store ((⟨g, o, none⟩ : Addr).add i) v).run P w = .ok () (w.setRow g (cur.setIfInBounds (o + i) v)) := by
      rw [hadd, run_store P w _ v _ (h1 v (by simp)), hcell]
      simp [hfro, setCell_eq_setRow w g (o + i) cur t fz v hg]
    have ih := store_free P g o t fz rest (i + 1) (cur.setIfInBounds (o + i) v) (w.setRow g (cur.setIfInBounds (o + i) v)) (setRow_heap w g cur _ t _ hg) (by simp; omega) (by simp at hl ⊢; omega) (fun x hx => h1 x (by simp [hx]))
    simp only [storeCells, Sem.run_bind, hst, Result.andThen_ok, ih, setRow_setRow]
    congr 3
    have e := list_seg_step cur.toList (o + i) v rest (by simp at hl ⊢; omega)
    simpa [Array.toList_setIfInBounds, Nat.add_assoc] using e
def Og (w : World) (base : Nat) (v : Value) (t : List UInt8) : Prop :=
  ∃ g cap cur fz, v = .slice (some ⟨g, 0, none⟩) t.length cap ∧ base ≤ g ∧ w.heap[g]? = some (.cells cur 5 fz) ∧ (cur.size ≤ fz.1 ∨ fz.2 ≤ t.length) ∧ t.length ≤ cap ∧ cap ≤ maxLen ∧ cur.size = cap ∧ cur.toList.take t.length = Lib.byteCells t
theorem Og.kept {w w' : World} {base : Nat} {v : Value} {t : List UInt8} (h : Og w base v t) (hg : w.grownBy w' none) : Og w' base v t := by
  obtain ⟨g, cap, cur, fz, h1, h2, h3, h4⟩ := h
  exact ⟨g, cap, cur, fz, h1, h2, (hg.block g (Array.getElem?_eq_some_iff.1 h3).1 (by simp)).trans h3, h4⟩
theorem Og.heap {w w' : World} {base : Nat} {v : Value} {t : List UInt8} (h : Og w base v t) (hg : w'.heap = w.heap) : Og w' base v t := by
  obtain ⟨g, cap, cur, fz, h1, h2, h3, h4⟩ := h
  exact ⟨g, cap, cur, fz, h1, h2, by rw [hg]; exact h3, h4⟩
theorem Og.shape {w : World} {base : Nat} {v : Value} {t : List UInt8} (h : Og w base v t) : ∃ a c, v = .slice a t.length c := by
  obtain ⟨g, cap, cur, fz, h1, h2, h3, h4⟩ := h
  exact ⟨_, _, h1⟩
theorem Og.byt {w : World} {base : Nat} {a : Option Addr} {n c : Nat} {t : List UInt8} (h : Og w base (.slice a n c) t) : n = t.length ∧ Byt w a n c (dz t) := by
  obtain ⟨g, cap, cur, fz, h1, h2, h3, h4, h5, h6, h7, h8⟩ := h
  simp only [Value.slice.injEq] at h1
  obtain ⟨rfl, rfl, rfl⟩ := h1
  refine ⟨rfl, Byt.of_cells (dz_len t) fun i hi => ?_⟩
  rw [Nat.zero_add, cell_of_row w g i cur 5 fz h3]
  have e : (cur.toList.take t.length)[i]? = (Lib.byteCells t)[i]? := by rw [h8]
  rw [List.getElem?_take, if_pos hi] at e
  rw [← Array.getElem?_toList, e]
  unfold Lib.byteCells dz
  simp [List.getD, List.getElem?_eq_getElem hi]
theorem Og.lt {w : World} {base : Nat} {v : Value} {t : List UInt8} (h : Og w base v t) {k : Nat} (hk : v.ownBlock = some k) : base ≤ k := by
  obtain ⟨g, cap, cur, fz, h1, h2, h3, h4⟩ := h
  rw [h1] at hk
  simp only [Value.ownBlock, Option.some.injEq] at hk
  omega
theorem conv_og (w : World) (t : List UInt8) (ht : t.length ≤ 100000000000) : Og (Lib.bytesWorld w 5 (tstr t)) w.heap.size (.slice (some ⟨w.heap.size, 0, none⟩) (tstr t).size (grownCap w (tstr t).size 0 5)) t := by
  have hge := grownCap_ge w (tstr t).size 0 5
  have hle := grownCap_le_maxLen w (tstr t).size 0 5 (by rw [tstr_size]; unfold maxLen; omega)
  have hsz := tstr_size t
  have hbs : (Lib.bytesCells w 5 (tstr t)).size = grownCap w (tstr t).size 0 5 := by
    unfold Lib.bytesCells
    simp
    omega
  refine ⟨w.heap.size, _, _, _, by rw [hsz], Nat.le_refl _, Lib.bytesWorld_at_new w 5 (tstr t), .inl (Nat.le_refl _), by omega, hle, hbs, ?_⟩
  unfold Lib.bytesCells
  rw [Array.toList_append, List.take_append_of_le_length (by simp [tstr])]
  unfold Lib.byteCells
  rw [List.take_of_length_le (by simp [tstr])]
  simp [tstr]
theorem run_append_og {P : Program} (w : World) (base : Nat) (t u ty : TypeId) (i : TypeInfo) (ht : P.underlying t = some (.slice 5)) (hu : P.underlying u = some .string) (hi : P.info? 5 = some i) (hz : i.zero = some (.int .u8 0))
    (hsize : i.size = 1) (hby : i.bytes = 1) (v : Value) (x : List UInt8) (hown : Og w base v x) (y : List UInt8)
    (hbytes : x.length + y.length ≤ 140737488355328) (hbase : base ≤ w.heap.size) :
    ∃ v' w', (Builtin.append_ #[t, u] ty #[v, .string (tstr y)]).run P w = .ok v' w' ∧ Og w' base v' (x ++ y) ∧ w.grownBy w' v.ownBlock := by
  obtain ⟨g, cap, cur, fz, rfl, hbg, hg, hfz, hnc, hcm, hcs, htake⟩ := hown
  have hys := tstr_size y
  have hcl : (Lib.strCells (tstr y)).length = y.length := by rw [Lib.strCells_length, hys]
  by_cases hroom : x.length + y.length ≤ cap
  · have hf := Lib.run_firstCells_string (P := P) w 1 (tstr y)
    have hst := store_free P g x.length 5 fz (Lib.strCells (tstr y)) 0 cur w hg (by omega) (by omega) (Lib.strCells_oneCell (tstr y))
    simp only [Nat.add_zero, hcl] at hst
    rw [hys] at hf
    have hr : (Builtin.append_ #[t, u] ty #[.slice (some ⟨g, 0, none⟩) x.length cap, .string (tstr y)]).run P w = .ok (.slice (some ⟨g, 0, none⟩) (x.length + y.length) cap) (w.setRow g (cur.toList.take x.length ++ Lib.strCells (tstr y) ++ cur.toList.drop (x.length + y.length)).toArray) := by
      simp [Builtin.append_, run_underlying ht, run_underlying hu, sizeOf, typeInfo, hi, hsize, Builtin.lenOf, hys, hroom, hf, Addr.add_lit, hst]
    refine ⟨_, _, hr, ⟨g, cap, _, fz, by rw [List.length_append], hbg, setRow_heap w g cur _ 5 _ hg, ?_, by rw [List.length_append]; exact hroom, hcm, ?_, ?_⟩, ⟨rfl, rfl, rfl, by simp, fun k _ hk => setRow_other w g k _ (fun e => hk (by simp [Value.ownBlock, e]))⟩⟩
    · rcases hfz with h | h
      · left
        simp only [List.size_toArray, List.length_append, List.length_take, List.length_drop, Array.length_toList, hcl]
        omega
      · right; rw [List.length_append]; omega
    · simp only [List.size_toArray, List.length_append, List.length_take, List.length_drop, Array.length_toList, hcl]
      omega
    · rw [htake, Lib.byteCells_append, List.length_append]
      have e1 : (Lib.byteCells x ++ Lib.strCells (tstr y)).length = x.length + y.length := by rw [List.length_append, hcl, Lib.byteCells_length]
      show List.take (x.length + y.length) (Lib.byteCells x ++ Lib.strCells (tstr y) ++ _) = _
      rw [← e1, List.take_left]
      rfl
  · have holds : ∀ j u, (Lib.byteCells x)[j]? = some u → w.cell? ((⟨g, 0, none⟩ : Addr).add j) = some u := by
      intro j u hju
      have hj : j < x.length := by have := (List.getElem?_eq_some_iff.1 hju).1; simpa [Lib.byteCells_length] using this
      rw [Addr.add_lit, Nat.zero_add, cell_of_row w g j cur 5 fz hg]
      have e : (cur.toList.take x.length)[j]? = (Lib.byteCells x)[j]? := by rw [htake]
      rw [List.getElem?_take, if_pos hj] at e
      rw [← Array.getElem?_toList, e, hju]
    have hr := Lib.run_append_grow_string (P := P) w t u ty 5 i (.int .u8 0) ht hu hi hz ⟨g, 0, none⟩ x.length cap (Lib.byteCells x) (by rw [hsize, Lib.byteCells_length]; omega) holds (tstr y) (by omega) (by omega) (by rw [hby]; exact growslice_fits (by omega) (by omega))
    have hge := grownCap_ge w (x.length + (tstr y).size) cap 5
    have hcm2 : grownCap w (x.length + (tstr y).size) cap 5 ≤ maxLen := grownCap_le_maxLen w (x.length + (tstr y).size) cap 5 (by unfold maxLen; omega)
    refine ⟨_, _, hr, ⟨w.heap.size, _, _, (0, 0), by rw [List.length_append, hys], hbase, heap_alloc_new w.drew _, .inr (Nat.zero_le _), by rw [List.length_append]; omega, hcm2, ?_, ?_⟩, ⟨rfl, rfl, rfl, by simp, fun k hk _ => Lib.alloc_old w.drew _ k hk⟩⟩
    · have hz1 : (Value.int IntKind.u8 0).cells.size = 1 := rfl
      simp only [Array.size_append, List.size_toArray, size_zeroCells, hz1, Lib.byteCells_length, hcl]
      omega
    · simp only [Array.toList_append, List.append_assoc]
      rw [← List.append_assoc, Lib.byteCells_append]
      have e1 : (Lib.byteCells x ++ Lib.strCells (tstr y)).length = (x ++ y).length := by rw [List.length_append, hcl, Lib.byteCells_length, List.length_append]
      show List.take (x ++ y).length (Lib.byteCells x ++ Lib.strCells (tstr y) ++ _) = _
      rw [← e1, List.take_left]
      rfl
theorem step_append_og {ops : Array Oper} {o : Oper} {a : Act} {w : World} {K : Act → World → Prop} {Q : Exit → Act → World → Prop} {E : Prop} (hgd : o.guard = none) (s x : Operand)
    (ho : o.op = .call { callee := .builtin .append, args := #[s, x], argTypes := #[22, 9] })
    (base : Nat) (v : Value) (p : List UInt8) (hs : a.eval s = v) (hown : Og w base v p) (S : ByteArray) (y : List UInt8) (hS : S = tstr y) (hx : a.eval x = .string S)
    (hbytes : p.length + y.length ≤ 140737488355328) (hbase : base ≤ w.heap.size)
    (h : ∀ v' w', Og w' base v' (p ++ y) → w.grownBy w' v.ownBlock → K (a.put o.dst v') w') :
    if Region.wanted o (yielded ops a.tmps) = true then Oper.wp Tryd.prog o a w K Q else E := by
  obtain ⟨i0, hi, hz0, hz1, hz2⟩ := info_parts info_u8
  have hw : Region.wanted o (yielded ops a.tmps) = true := by simp [Region.wanted, hgd]
  rw [if_pos hw]
  subst hS
  obtain ⟨v', w', hrun, r1, r2⟩ := run_append_og (P := Tryd.prog) w base 22 9 o.type i0 Tryd.underlying22 Tryd.underlying9 hi hz0 hz1 hz2 v p hown y hbytes hbase
  unfold Oper.wp
  simp [execOp, ho, resolve, invoke, builtin, hs, hx, hrun, Result.andThen]
  exact h v' w' r1 r2
theorem grown_og {w w7 w8 w3 : World} {B : Nat} {v : Value} {t : List UInt8} (h : w.grownBy w7 none) (ho : Og w3 B v t) (hB : w.heap.size ≤ B) (hg : w7.grownBy w8 v.ownBlock) : w.grownBy w8 none :=
  ⟨hg.os.trans h.os, hg.tape.trans h.tape, hg.output.trans h.output, Nat.le_trans h.size hg.size, fun k hk hn => (hg.block k (by have := h.size; omega) (fun e => by have := ho.lt e.symm; omega)).trans (h.block k hk hn)⟩
theorem bytesW_grownD (w : World) (e : TypeId) (s : ByteArray) : w.grownBy (Lib.bytesWorld w e s) none :=
  ⟨rfl, rfl, rfl, by rw [Lib.bytesWorld_size]; omega, fun i hi _ => Lib.bytesWorld_at_old w e s i hi⟩
theorem jdg_take {l : List Pq} {i : Nat} {p : Pq} (hp : l[i]? = some p) : jdg [] l = jdg (ahd l i) (l.drop i) → jdg [] l = if flt (ahd l i) p = 0 then jdg (ahd l (i + 1)) (l.drop (i + 1)) else flt (ahd l i) p := by
  intro hh
  rw [hh, jdg_drop _ hp]
  have : ahd l (i + 1) = p.1 := by simp [ahd, hp]
  rw [this]
set_option maxHeartbeats 8000000 in
set_option maxRecDepth 100000 in
theorem refText_any (a : Option Addr) (n c : Nat) (l : List Pq) (w : World) (h : Pm w a l) (hn : l.length = n) (hm : n ≤ 100000000) :
    Calls Tryd.prog 20 #[.slice a n c] w fun en w' => en = .returned (.tuple #[.string (tstr (txt l)), .int .i64 (jdg [] l)]) ∧ w.grownBy w' none := by
  have HP := hid_intro h
  have HL := hid_intro hn
  clear h hn
  go_enter Tryd.func20, Tryd.ntmps20
  go_wp2_with fail
  refine (refDecimal_any 9 n w (by omega) (by omega)).mono ?_
  rintro en w1 ⟨rfl, k, hw1⟩
  have hg1 : w.grownBy w1 none := by rw [hw1]; exact (Qt.drewN w k).grown none
  have hdl := dec_len 9 n (by omega)
  have HH : Hid ((⟨#[99, 111, 112, 112, 105, 99, 101, 32]⟩ : ByteArray) ++ tstr (Lib.decDigits n) ++ (⟨#[10]⟩ : ByteArray) = tstr (hdr n)) := by
    show tstr ttl ++ tstr (Lib.decDigits n) ++ tstr [10] = _
    rw [tstr_app, tstr_app]; rfl
  have z1 : (tstr (Lib.decDigits n)).size ≤ 10 := by rw [tstr_size]; exact hdl
  generalize tstr (Lib.decDigits n) = D at *
  have z2 : ¬ (9223372036854775807 < 8 + D.size) := by omega
  have z3 : ¬ (9223372036854775807 < 8 + D.size + 1) := by omega
  have hcv := Lib.run_convert_string_bytes (P := Tryd.prog) w1 9 22 5 (tstr (hdr n)) (u := .string) Tryd.underlying9 Tryd.underlying22 Tryd.underlying5
  have OG := hid_intro (conv_og w1 (hdr n) (by have := hdr_len hm; omega))
  have HG2 := hid_intro (grown_trans hg1 (bytesW_grownD w1 5 (tstr (hdr n))))
  have hh := HH.out
  rw [← hh] at hcv OG HG2
  generalize Lib.bytesWorld w1 5 ((⟨#[99, 111, 112, 112, 105, 99, 101, 32]⟩ : ByteArray) ++ D ++ (⟨#[10]⟩ : ByteArray)) = w2 at *
  generalize grownCap w1 ((⟨#[99, 111, 112, 112, 105, 99, 101, 32]⟩ : ByteArray) ++ D ++ (⟨#[10]⟩ : ByteArray)).size 0 5 = cp at *
  clear hw1 hdl hh z1 HH
  have hs1 := hg1.size
  have HB := hid_intro hs1
  generalize w1.heap.size = B at *
  clear hg1 hs1
  have OG2 : Hid (Og w2 B (.slice (some ⟨B, 0, none⟩) (8 + D.size + 1) cp) (txi l 0)) := by
    have e1 : txi l 0 = hdr n := by unfold txi; rw [HL.out]; simp
    have e2 : ((⟨#[99, 111, 112, 112, 105, 99, 101, 32]⟩ : ByteArray) ++ D ++ (⟨#[10]⟩ : ByteArray)).size = 8 + D.size + 1 := by rw [ByteArray.size_append', ByteArray.size_append']; rfl
    rw [e1, ← e2]; exact OG.out
  clear OG
  go_wp2
  go_loopw [4, 5, 6] (fun sl si _ wr => ∃ i : Nat, i ≤ n ∧ si = .int .i64 (i : Nat) ∧ Og wr B sl (txi l i) ∧ w.grownBy wr none ∧ jdg [] l = jdg (ahd l i) (l.drop i) ∧ (txi l i).length ≤ 30 + i * 525000 ∧ B ≤ wr.heap.size) (fun _ si _ _ => n - (intOf si).toNat)
  case atStart =>
    refine ⟨0, Nat.zero_le _, rfl, OG2.out, HG2.out, rfl, ?_, ?_⟩
    · have e1 : txi l 0 = hdr n := by unfold txi; rw [HL.out]; simp
      rw [e1]; have := hdr_len hm; omega
    · obtain ⟨g, cap, cur, fz, h1, h2, h3, _⟩ := OG2.out
      have := (Array.getElem?_eq_some_iff.1 h3).1
      omega
  case round =>
    obtain ⟨i, hi, rfl, hog, hg, hj, hlen, hbs⟩ := hrel
    obtain ⟨so, sc, hso⟩ := hog.shape
    subst hso
    have HO := hid_intro hog
    have HG := hid_intro hg
    have HJ := hid_intro hj
    have HTL := hid_intro hlen
    clear hog hg hj hlen OG2 HG2
    generalize hLn : (txi l i).length = Ln at *
    have HLN := hid_intro hLn
    clear hLn
    by_cases hlt : i < n
    · obtain ⟨p, hp⟩ : ∃ p, l[i]? = some p := ⟨_, List.getElem?_eq_getElem (by have := HL.out; omega)⟩
      have HSN := hid_intro (txi_snoc hp)
      have HJT := hid_intro (jdg_take hp HJ.out)
      have HFC := hid_intro (refFault_any a n c i l wr (HP.out.keptN HG.out) HL.out hm p hp)
      obtain ⟨b, off, ao, c1, bo, d1, rfl, q1, q2, q3, q4, q5, q6⟩ := HP.out.el i p hp
      have HSM : Hid (flt (ahd l i) p = 0 → p.1.length ≤ 255 ∧ p.2.length ≤ 262144) := fun hf => by
        unfold flt at hf
        split at hf
        · cases hf
        · omega
      obtain ⟨ky, vl⟩ := p
      simp only at q1 q2 q3 q4 q5 q6
      generalize flt (ahd l i) (ky, vl) = ef at *
      by_cases hef : ef = 0
      · subst hef
        have hsm := HSM.out rfl
        simp only at hsm
        have hxl1 := (hx_len ky).1
        have hxl2 := (hx_len vl).1
        have HLL := hid_intro (lne_len (p := (ky, vl)) hsm)
        obtain ⟨n1, hn1⟩ : ∃ n1, ky.length = n1 := ⟨_, rfl⟩
        obtain ⟨n2, hn2⟩ : ∃ n2, vl.length = n2 := ⟨_, rfl⟩
        rw [hn1] at q1 q3 hsm hxl1
        rw [hn2] at q2 q5 hsm hxl2
        have HLNE : Hid (tstr (hx ky) ++ (⟨#[32]⟩ : ByteArray) ++ tstr (hx vl) ++ (⟨#[10]⟩ : ByteArray) = tstr (lne (ky, vl))) := by
          show tstr (hx ky) ++ tstr [32] ++ tstr (hx vl) ++ tstr [10] = _
          rw [tstr_app, tstr_app, tstr_app]; unfold lne lnh; simp
        have z1 : (tstr (hx ky)).size ≤ 511 := by rw [tstr_size]; omega
        have z2 : (tstr (hx vl)).size ≤ 524289 := by rw [tstr_size]; omega
        have HXK := hid_intro (refHex_any ao n1 c1 ky)
        have HXV := hid_intro (refHex_any bo n2 d1 vl)
        generalize tstr (hx ky) = S1 at *
        generalize tstr (hx vl) = S2 at *
        have z3 : ¬ (9223372036854775807 < S1.size + 1) := by omega
        have z4 : ¬ (9223372036854775807 < S1.size + 1 + S2.size) := by omega
        have z5 : ¬ (9223372036854775807 < S1.size + 1 + S2.size + 1) := by omega
        have gi0 : (0 : Int) ≤ (i : Int) := by omega
        have gi1 : (i : Int) < (n : Int) := by omega
        have HK := hid_intro (q3.keptN HG.out)
        have HV := hid_intro (q5.keptN HG.out)
        have HQ4 := hid_intro q4
        have HQ6 := hid_intro q6
        have HC1 := hid_intro q1
        have HC2 := hid_intro q2
        have c0 := HG.out.cell q1 (by simp)
        have c2 := HG.out.cell q2 (by simp)
        clear q1 q2 q3 q4 q5 q6 hn1 hn2 hp hxl1 hxl2
        go_wp2_with fail
        refine HFC.out.mono ?_
        rintro en w3 ⟨rfl, hq3⟩
        have Q3 := hid_intro hq3
        have d0 := (hq3.cell _).trans c0
        have d2 := (hq3.cell _).trans c2
        have HO3 := hid_intro (HO.out.heap hq3.heap)
        have HK3 := hid_intro (HK.out.heap hq3.heap)
        have HV3 := hid_intro (HV.out.heap hq3.heap)
        have HG3 := hid_intro (grown_trans HG.out (hq3.grown none))
        have hbs3 : B ≤ w3.heap.size := by rw [hq3.heap]; exact hbs
        clear hq3 c0 c2
        go_upto_region 8 with fail
        go_region_held3 (fun w' => w'.cell? ⟨b, off + i * 2, none⟩ = some (.slice ao n1 c1) ∧ w'.cell? ⟨b, off + i * 2 + 1, none⟩ = some (.slice bo n2 d1)) (first | exact ⟨d0, d2⟩ | exact T6.out | exact T7.out | exact T8.out | go_keep)
          (first
            | (go_at_call_of 13 (Value.slice ao n1 c1); refine (HXK.out w3.drew (HK3.out.heap rfl) HQ4.out (by omega)).mono ?_; rintro en w6 ⟨rfl, hg6⟩; have G6 := hid_intro (grown_undrew hg6); have T6 := hid_intro (And.intro (G6.out.cell d0 (by simp)) (G6.out.cell d2 (by simp))); clear hg6)
            | (go_at_call_of 13 (Value.slice bo n2 d1); refine (HXV.out w6 (HV3.out.keptN G6.out) HQ6.out (by omega)).mono ?_; rintro en w7 ⟨rfl, hg7⟩; have G7 := hid_intro (grown_trans G6.out hg7); have T7 := hid_intro (And.intro (G7.out.cell d0 (by simp)) (G7.out.cell d2 (by simp))); clear hg7)
            | (refine step_append_og rfl (.tmp 25) (.tmp 40) (by rfl) B (.slice so Ln sc) (txi l i) (by rfl) (by exact HO3.out.kept G7.out) _ (lne (ky, vl)) HLNE.out (by rfl) (by have := HLN.out; have := HTL.out; have := HLL.out; omega) (by have := G7.out.size; omega) ?_; intro v8 w8 ho8 hg8; obtain ⟨va, vc, hv8⟩ := ho8.shape; subst hv8; have O8 := hid_intro ho8; have G8 := hid_intro (grown_og (grown_trans HG3.out G7.out) HO3.out HB.out hg8); have T8 := hid_intro (And.intro (G8.out.cell HC1.out (by simp)) (G8.out.cell HC2.out (by simp))); clear ho8 hg8)
            | fail)
        have HJ2 : Hid (jdg [] l = jdg (ahd l (i + 1)) (l.drop (i + 1))) := by show _ = _; have hh := HJT.out; simpa using hh
        go_wp2
        go_roundw
        case rel =>
          refine ⟨i + 1, by omega, by go_num, ?_, G8.out, HJ2.out, ?_, ?_⟩
          · rw [HSN.out]; have h8 := O8.out; rw [List.length_append] at h8; exact h8
          · rw [HSN.out, List.length_append]; have := HLN.out; have := HTL.out; have := HLL.out; omega
          · obtain ⟨g, cap, cur, fz, h1, h2, h3, _⟩ := O8.out
            have := (Array.getElem?_eq_some_iff.1 h3).1
            omega
        case measure => simp [intOf]; omega
      · have g1 : (ef == 0) = false := by rw [beq_eq_false_iff_ne]; exact hef
        have g2 : (ef != 0) = true := by simp only [bne, g1]; rfl
        have HJ2 : Hid (jdg [] l = ef) := by show _ = _; rw [HJT.out, if_neg hef]
        clear hef q1 q2 q3 q4 q5 q6 HSM
        go_wp2_with fail
        refine HFC.out.mono ?_
        rintro en w3 ⟨rfl, hq3⟩
        have HG3 := hid_intro (grown_trans HG.out (hq3.grown none))
        clear hq3
        go_wp2
        go_ret2
        refine ⟨?_, HG3.out⟩
        have e1 : txt l = [] := by unfold txt; rw [if_neg]; rw [HJ2.out]; exact beq_eq_false_iff_ne.1 g1
        rw [e1, HJ2.out]
        rfl
    · obtain rfl : i = n := by omega
      have HJ2 : Hid (jdg [] l = 0) := by show _ = _; rw [HJ.out, ← HL.out, List.drop_length]; rfl
      have e1 : txi l i = tx l := by rw [← HL.out]; exact txi_all l
      have hb := HO.out.byt.2
      have hc := conv_str hb
      rw [dz_str, e1] at hc
      clear hb e1
      go_wp2
      go_ret2
      refine ⟨?_, HG.out⟩
      have e1 : txt l = tx l := by unfold txt; rw [if_pos HJ2.out]
      rw [e1, HJ2.out]
      rfl
end Go.Proofs.YtioleabkbkmggaaDoor
