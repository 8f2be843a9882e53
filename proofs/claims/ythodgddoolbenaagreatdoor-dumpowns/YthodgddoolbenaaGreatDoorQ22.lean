import Derived.Test.YthodgddoolbenaaGreatDoorQ21
import Derived.Lib.FrozenHead
namespace Go.Proofs.YthodgddoolbenaaGreatDoor
open Go.RowKit
theorem store_free (P : Program) (g o : Nat) (t : TypeId) (fz : Nat × Nat) : ∀ (vs : List Value) (i : Nat) (cur : Array Value) (w : World), w.heap[g]? = some (.cells cur t fz) → (cur.size ≤ fz.1 ∨ fz.2 ≤ o + i) → o + i + vs.length ≤ cur.size → (∀ v ∈ vs, v.oneCell' = true) →
  (storeCells ⟨g, o, none⟩ vs i).run P w = .ok () (w.setRow g (cur.toList.take (o + i) ++ vs ++ cur.toList.drop (o + i + vs.length)).toArray)
 | [], i, cur, w, hg, _, _, _ => by
  simp only [storeCells, List.append_nil, List.length_nil, Nat.add_zero, List.take_append_drop, Array.toArray_toList]
  rw [setRow_self w g cur t fz hg]
  rfl
 | v :: rest, i, cur, w, hg, hfz, hl, h1 => by
  have hi : o + i < cur.size := by simp at hl; omega
  have hadd : (⟨g, o, none⟩ : Addr).add i = ⟨g, o + i, none⟩ := by unfold Addr.add; split <;> simp_all
  have hcell : w.cell? ⟨g, o + i, none⟩ = some cur[o + i] := by simp [World.cell?, hg, hi]
  have hfro : w.frozen? ⟨g, o + i, none⟩ = false := by
   obtain ⟨lo, hi'⟩ := fz
   simp only [World.frozen?, hg, Bool.and_eq_false_iff, decide_eq_false_iff_not]
   simp only at hfz
   rcases hfz with h | h
   ·left; omega
   ·right; omega
  have hst : (store ((⟨g, o, none⟩ : Addr).add i) v).run P w = .ok () (w.setRow g (cur.setIfInBounds (o + i) v)) := by
   rw [hadd, run_store P w _ v _ (h1 v (by simp)), hcell]
   simp [hfro, setCell_eq_setRow w g (o + i) cur t fz v hg]
  have ih := store_free P g o t fz rest (i + 1) (cur.setIfInBounds (o + i) v) (w.setRow g (cur.setIfInBounds (o + i) v)) (setRow_heap w g cur _ t _ hg) (by simp; omega) (by simp at hl ⊢; omega) (fun x hx => h1 x (by simp [hx]))
  simp only [storeCells, Sem.run_bind, hst, Result.andThen_ok, ih, setRow_setRow]
  congr 3
  have e := list_seg_step cur.toList (o + i) v rest (by simp at hl ⊢; omega)
  simpa [Array.toList_setIfInBounds, Nat.add_assoc] using e
def Og (w : World) (base : Nat) (v : Value) (t : List UInt8) : Prop :=
 ∃ g cap cur fz, v = .slice (some ⟨g, 0, none⟩) t.length cap ∧ base ≤ g ∧ w.heap[g]? = some (.cells cur 5 fz) ∧ (cur.size ≤ fz.1 ∨ fz.2 ≤ t.length) ∧ t.length ≤ cap ∧ cap ≤ maxLen ∧ cur.size = cap ∧ cur.toList.take t.length = Lib.byteCells t
theorem Og.kept {w w' : World} {base : Nat} {v : Value} {t : List UInt8} (h : Og w base v t) (hg : w.grownBy w' none) : Og w' base v t := by
 obtain ⟨g, cap, cur, fz, h1, h2, h3, h4⟩ := h
 exact ⟨g, cap, cur, fz, h1, h2, (hg.block g (Array.getElem?_eq_some_iff.1 h3).1 (by simp)).trans h3, h4⟩
theorem Og.heap {w w' : World} {base : Nat} {v : Value} {t : List UInt8} (h : Og w base v t) (hg : w'.heap = w.heap) : Og w' base v t := by
 obtain ⟨g, cap, cur, fz, h1, h2, h3, h4⟩ := h
 exact ⟨g, cap, cur, fz, h1, h2, by rw [hg]; exact h3, h4⟩
theorem Og.shape {w : World} {base : Nat} {v : Value} {t : List UInt8} (h : Og w base v t) : ∃ a c, v = .slice a t.length c := by
 obtain ⟨g, cap, cur, fz, h1, h2, h3, h4⟩ := h
 exact ⟨_, _, h1⟩
theorem Og.byt {w : World} {base : Nat} {a : Option Addr} {n c : Nat} {t : List UInt8} (h : Og w base (.slice a n c) t) : n = t.length ∧ Byt w a n c (dz t) := by
 obtain ⟨g, cap, cur, fz, h1, h2, h3, h4, h5, h6, h7, h8⟩ := h
 simp only [Value.slice.injEq] at h1
 obtain ⟨rfl, rfl, rfl⟩ := h1
 refine ⟨rfl, Byt.of_cells (dz_len t) fun i hi => ?_⟩
 rw [Nat.zero_add, cell_of_row w g i cur 5 fz h3]
 have e : (cur.toList.take t.length)[i]? = (Lib.byteCells t)[i]? := by rw [h8]
 rw [List.getElem?_take, if_pos hi] at e
 rw [← Array.getElem?_toList, e]
 unfold Lib.byteCells dz
 simp [List.getD, List.getElem?_eq_getElem hi]
theorem Og.lt {w : World} {base : Nat} {v : Value} {t : List UInt8} (h : Og w base v t) {k : Nat} (hk : v.ownBlock = some k) : base ≤ k := by
 obtain ⟨g, cap, cur, fz, h1, h2, h3, h4⟩ := h
 rw [h1] at hk
 simp only [Value.ownBlock, Option.some.injEq] at hk
 omega
theorem conv_og (w : World) (t : List UInt8) (ht : t.length ≤ 100000000000) : Og (Lib.bytesWorld w 5 (tstr t)) w.heap.size (.slice (some ⟨w.heap.size, 0, none⟩) (tstr t).size (grownCap w (tstr t).size 0 5)) t := by
 have hge := grownCap_ge w (tstr t).size 0 5
 have hle := grownCap_le_maxLen w (tstr t).size 0 5 (by rw [tstr_size]; unfold maxLen; omega)
 have hsz := tstr_size t
 have hbs : (Lib.bytesCells w 5 (tstr t)).size = grownCap w (tstr t).size 0 5 := by
  unfold Lib.bytesCells
  simp
  omega
 refine ⟨w.heap.size, _, _, _, by rw [hsz], Nat.le_refl _, Lib.bytesWorld_at_new w 5 (tstr t), .inl (Nat.le_refl _), by omega, hle, hbs, ?_⟩
 unfold Lib.bytesCells
 rw [Array.toList_append, List.take_append_of_le_length (by simp [tstr])]
 unfold Lib.byteCells
 rw [List.take_of_length_le (by simp [tstr])]
 simp [tstr]
theorem run_append_og {P : Program} (w : World) (base : Nat) (t u ty : TypeId) (i : TypeInfo) (ht : P.underlying t = some (.slice 5)) (hu : P.underlying u = some .string) (hi : P.info? 5 = some i) (hz : i.zero = some (.int .u8 0))
  (hsize : i.size = 1) (hby : i.bytes = 1) (v : Value) (x : List UInt8) (hown : Og w base v x) (y : List UInt8)
  (hbytes : x.length + y.length ≤ 140737488355328) (hbase : base ≤ w.heap.size) :
  ∃ v' w', (Builtin.append_ #[t, u] ty #[v, .string (tstr y)]).run P w = .ok v' w' ∧ Og w' base v' (x ++ y) ∧ w.grownBy w' v.ownBlock := by
 obtain ⟨g, cap, cur, fz, rfl, hbg, hg, hfz, hnc, hcm, hcs, htake⟩ := hown
 have hys := tstr_size y
 have hcl : (Lib.strCells (tstr y)).length = y.length := by rw [Lib.strCells_length, hys]
 by_cases hroom : x.length + y.length ≤ cap
 ·have hf := Lib.run_firstCells_string (P := P) w 1 (tstr y)
  have hst := store_free P g x.length 5 fz (Lib.strCells (tstr y)) 0 cur w hg (by omega) (by omega) (Lib.strCells_oneCell (tstr y))
  simp only [Nat.add_zero, hcl] at hst
  rw [hys] at hf
  have hr : (Builtin.append_ #[t, u] ty #[.slice (some ⟨g, 0, none⟩) x.length cap, .string (tstr y)]).run P w = .ok (.slice (some ⟨g, 0, none⟩) (x.length + y.length) cap) (w.setRow g (cur.toList.take x.length ++ Lib.strCells (tstr y) ++ cur.toList.drop (x.length + y.length)).toArray) := by
   simp [Builtin.append_, run_underlying ht, run_underlying hu, sizeOf, typeInfo, hi, hsize, Builtin.lenOf, hys, hroom, hf, Addr.add_lit, hst]
  refine ⟨_, _, hr, ⟨g, cap, _, fz, by rw [List.length_append], hbg, setRow_heap w g cur _ 5 _ hg, ?_, by rw [List.length_append]; exact hroom, hcm, ?_, ?_⟩, ⟨rfl, rfl, rfl, by simp, fun k _ hk => setRow_other w g k _ (fun e => hk (by simp [Value.ownBlock, e]))⟩⟩
  ·rcases hfz with h | h
   ·left
    simp only [List.size_toArray, List.length_append, List.length_take, List.length_drop, Array.length_toList, hcl]
    omega
   ·right; rw [List.length_append]; omega
  ·simp only [List.size_toArray, List.length_append, List.length_take, List.length_drop, Array.length_toList, hcl]
   omega
  ·rw [htake, Lib.byteCells_append, List.length_append]
   have e1 : (Lib.byteCells x ++ Lib.strCells (tstr y)).length = x.length + y.length := by rw [List.length_append, hcl, Lib.byteCells_length]
   show List.take (x.length + y.length) (Lib.byteCells x ++ Lib.strCells (tstr y) ++ _) = _
   rw [← e1, List.take_left]
   rfl
 ·have holds : ∀ j u, (Lib.byteCells x)[j]? = some u → w.cell? ((⟨g, 0, none⟩ : Addr).add j) = some u := by
   intro j u hju
   have hj : j < x.length := by have := (List.getElem?_eq_some_iff.1 hju).1; simpa [Lib.byteCells_length] using this
   rw [Addr.add_lit, Nat.zero_add, cell_of_row w g j cur 5 fz hg]
   have e : (cur.toList.take x.length)[j]? = (Lib.byteCells x)[j]? := by rw [htake]
   rw [List.getElem?_take, if_pos hj] at e
   rw [← Array.getElem?_toList, e, hju]
  have hr := Lib.run_append_grow_string (P := P) w t u ty 5 i (.int .u8 0) ht hu hi hz ⟨g, 0, none⟩ x.length cap (Lib.byteCells x) (by rw [hsize, Lib.byteCells_length]; omega) holds (tstr y) (by omega) (by omega) (by rw [hby]; exact growslice_fits (by omega) (by omega))
  have hge := grownCap_ge w (x.length + (tstr y).size) cap 5
  have hcm2 : grownCap w (x.length + (tstr y).size) cap 5 ≤ maxLen := grownCap_le_maxLen w (x.length + (tstr y).size) cap 5 (by unfold maxLen; omega)
  refine ⟨_, _, hr, ⟨w.heap.size, _, _, (0, 0), by rw [List.length_append, hys], hbase, heap_alloc_new w.drew _, .inr (Nat.zero_le _), by rw [List.length_append]; omega, hcm2, ?_, ?_⟩, ⟨rfl, rfl, rfl, by simp, fun k hk _ => Lib.alloc_old w.drew _ k hk⟩⟩
  ·have hz1 : (Value.int IntKind.u8 0).cells.size = 1 := rfl
   simp only [Array.size_append, List.size_toArray, size_zeroCells, hz1, Lib.byteCells_length, hcl]
   omega
  ·simp only [Array.toList_append, List.append_assoc]
   rw [← List.append_assoc, Lib.byteCells_append]
   have e1 : (Lib.byteCells x ++ Lib.strCells (tstr y)).length = (x ++ y).length := by rw [List.length_append, hcl, Lib.byteCells_length, List.length_append]
   show List.take (x ++ y).length (Lib.byteCells x ++ Lib.strCells (tstr y) ++ _) = _
   rw [← e1, List.take_left]
   rfl
theorem step_append_og {ops : Array Oper} {o : Oper} {a : Act} {w : World} {K : Act → World → Prop} {Q : Exit → Act → World → Prop} {E : Prop} (hgd : o.guard = none) (s x : Operand)
  (ho : o.op = .call { callee := .builtin .append, args := #[s, x], argTypes := #[49, 9] })
  (base : Nat) (v : Value) (p : List UInt8) (hs : a.eval s = v) (hown : Og w base v p) (S : ByteArray) (y : List UInt8) (hS : S = tstr y) (hx : a.eval x = .string S)
  (hbytes : p.length + y.length ≤ 140737488355328) (hbase : base ≤ w.heap.size)
  (h : ∀ v' w', Og w' base v' (p ++ y) → w.grownBy w' v.ownBlock → K (a.put o.dst v') w') :
  if Region.wanted o (yielded ops a.tmps) = true then Oper.wp Tryz.prog o a w K Q else E := by
 obtain ⟨i0, hi, hz0, hz1, hz2⟩ := info_parts info_u8
 have hw : Region.wanted o (yielded ops a.tmps) = true := by simp [Region.wanted, hgd]
 rw [if_pos hw]
 subst hS
 obtain ⟨v', w', hrun, r1, r2⟩ := run_append_og (P := Tryz.prog) w base 49 9 o.type i0 Tryz.underlying49 Tryz.underlying9 hi hz0 hz1 hz2 v p hown y hbytes hbase
 unfold Oper.wp
 simp [execOp, ho, resolve, invoke, builtin, hs, hx, hrun, Result.andThen]
 exact h v' w' r1 r2
theorem grown_og {w w7 w8 w3 : World} {B : Nat} {v : Value} {t : List UInt8} (h : w.grownBy w7 none) (ho : Og w3 B v t) (hB : w.heap.size ≤ B) (hg : w7.grownBy w8 v.ownBlock) : w.grownBy w8 none :=
 ⟨hg.os.trans h.os, hg.tape.trans h.tape, hg.output.trans h.output, Nat.le_trans h.size hg.size, fun k hk hn => (hg.block k (by have := h.size; omega) (fun e => by have := ho.lt e.symm; omega)).trans (h.block k hk hn)⟩
theorem bytesW_grownD (w : World) (e : TypeId) (s : ByteArray) : w.grownBy (Lib.bytesWorld w e s) none :=
 ⟨rfl, rfl, rfl, by rw [Lib.bytesWorld_size]; omega, fun i hi _ => Lib.bytesWorld_at_old w e s i hi⟩
theorem jdg_take {l : List Pq} {i : Nat} {p : Pq} (hp : l[i]? = some p) : jdg [] l = jdg (ahd l i) (l.drop i) → jdg [] l = if flt (ahd l i) p = 0 then jdg (ahd l (i + 1)) (l.drop (i + 1)) else flt (ahd l i) p := by
 intro hh
 rw [hh, jdg_drop _ hp]
 have : ahd l (i + 1) = p.1 := by simp [ahd, hp]
 rw [this]
set_option maxHeartbeats 8000000 in
set_option maxRecDepth 100000 in
theorem refText_any (a : Option Addr) (n c : Nat) (l : List Pq) (w : World) (h : Pm w a l) (hn : l.length = n) (hm : n ≤ 100000000) :
  Calls Tryz.prog 6 #[.slice a n c] w fun en w' => en = .returned (.tuple #[.string (tstr (txt l)), .int .i64 (jdg [] l)]) ∧ w.grownBy w' none := by
 have HP := hid_intro h
 have HL := hid_intro hn
 clear h hn
 go_enter Tryz.func6, Tryz.ntmps6
 go_wp2_with fail
 refine (refDecimal_any 9 n w (by omega) (by omega)).mono ?_
 rintro en w1 ⟨rfl, k, hw1⟩
 have hg1 : w.grownBy w1 none := by rw [hw1]; exact (Qt.drewN w k).grown none
 have hdl := dec_len 9 n (by omega)
 have HH : Hid ((⟨#[99, 111, 112, 112, 105, 99, 101, 32]⟩ : ByteArray) ++ tstr (Lib.decDigits n) ++ (⟨#[10]⟩ : ByteArray) = tstr (hdr n)) := by
  show tstr ttl ++ tstr (Lib.decDigits n) ++ tstr [10] = _
  rw [tstr_app, tstr_app]; rfl
 have z1 : (tstr (Lib.decDigits n)).size ≤ 10 := by rw [tstr_size]; exact hdl
 generalize tstr (Lib.decDigits n) = D at *
 have z2 : ¬ (9223372036854775807 < 8 + D.size) := by omega
 have z3 : ¬ (9223372036854775807 < 8 + D.size + 1) := by omega
 have hcv := Lib.run_convert_string_bytes (P := Tryz.prog) w1 9 49 5 (tstr (hdr n)) (u := .string) Tryz.underlying9 Tryz.underlying49 Tryz.underlying5
 have OG := hid_intro (conv_og w1 (hdr n) (by have := hdr_len hm; omega))
 have HG2 := hid_intro (grown_trans hg1 (bytesW_grownD w1 5 (tstr (hdr n))))
 have hh := HH.out
 rw [← hh] at hcv OG HG2
 generalize Lib.bytesWorld w1 5 ((⟨#[99, 111, 112, 112, 105, 99, 101, 32]⟩ : ByteArray) ++ D ++ (⟨#[10]⟩ : ByteArray)) = w2 at *
 generalize grownCap w1 ((⟨#[99, 111, 112, 112, 105, 99, 101, 32]⟩ : ByteArray) ++ D ++ (⟨#[10]⟩ : ByteArray)).size 0 5 = cp at *
 clear hw1 hdl hh z1 HH
 have hs1 := hg1.size
 have HB := hid_intro hs1
 generalize w1.heap.size = B at *
 clear hg1 hs1
 have OG2 : Hid (Og w2 B (.slice (some ⟨B, 0, none⟩) (8 + D.size + 1) cp) (txi l 0)) := by
  have e1 : txi l 0 = hdr n := by unfold txi; rw [HL.out]; simp
  have e2 : ((⟨#[99, 111, 112, 112, 105, 99, 101, 32]⟩ : ByteArray) ++ D ++ (⟨#[10]⟩ : ByteArray)).size = 8 + D.size + 1 := by rw [ByteArray.size_append', ByteArray.size_append']; rfl
  rw [e1, ← e2]; exact OG.out
 clear OG
 go_wp2
 go_loopw [4, 5, 6] (fun sl si _ wr => ∃ i : Nat, i ≤ n ∧ si = .int .i64 (i : Nat) ∧ Og wr B sl (txi l i) ∧ w.grownBy wr none ∧ jdg [] l = jdg (ahd l i) (l.drop i) ∧ (txi l i).length ≤ 30 + i * 525000 ∧ B ≤ wr.heap.size) (fun _ si _ _ => n - (intOf si).toNat)
 case atStart =>
  refine ⟨0, Nat.zero_le _, rfl, OG2.out, HG2.out, rfl, ?_, ?_⟩
  ·have e1 : txi l 0 = hdr n := by unfold txi; rw [HL.out]; simp
   rw [e1]; have := hdr_len hm; omega
  ·obtain ⟨g, cap, cur, fz, h1, h2, h3, _⟩ := OG2.out
   have := (Array.getElem?_eq_some_iff.1 h3).1
   omega
 case round =>
  obtain ⟨i, hi, rfl, hog, hg, hj, hlen, hbs⟩ := hrel
  obtain ⟨so, sc, hso⟩ := hog.shape
  subst hso
  have HO := hid_intro hog
  have HG := hid_intro hg
  have HJ := hid_intro hj
  have HTL := hid_intro hlen
  clear hog hg hj hlen OG2 HG2
  generalize hLn : (txi l i).length = Ln at *
  have HLN := hid_intro hLn
  clear hLn
  by_cases hlt : i < n
  ·obtain ⟨p, hp⟩ : ∃ p, l[i]? = some p := ⟨_, List.getElem?_eq_getElem (by have := HL.out; omega)⟩
   have HSN := hid_intro (txi_snoc hp)
   have HJT := hid_intro (jdg_take hp HJ.out)
   have HFC := hid_intro (refFault_any a n c i l wr (HP.out.keptN HG.out) HL.out hm p hp)
   obtain ⟨b, off, ao, c1, bo, d1, rfl, q1, q2, q3, q4, q5, q6⟩ := HP.out.el i p hp
   have HSM : Hid (flt (ahd l i) p = 0 → p.1.length ≤ 255 ∧ p.2.length ≤ 262144) := fun hf => by
    unfold flt at hf
    split at hf
    ·cases hf
    ·omega
   obtain ⟨ky, vl⟩ := p
   simp only at q1 q2 q3 q4 q5 q6
   generalize flt (ahd l i) (ky, vl) = ef at *
   by_cases hef : ef = 0
   ·subst hef
    have hsm := HSM.out rfl
    simp only at hsm
    have hxl1 := (hx_len ky).1
    have hxl2 := (hx_len vl).1
    have HLL := hid_intro (lne_len (p := (ky, vl)) hsm)
    obtain ⟨n1, hn1⟩ : ∃ n1, ky.length = n1 := ⟨_, rfl⟩
    obtain ⟨n2, hn2⟩ : ∃ n2, vl.length = n2 := ⟨_, rfl⟩
    rw [hn1] at q1 q3 hsm hxl1
    rw [hn2] at q2 q5 hsm hxl2
    have HLNE : Hid (tstr (hx ky) ++ (⟨#[32]⟩ : ByteArray) ++ tstr (hx vl) ++ (⟨#[10]⟩ : ByteArray) = tstr (lne (ky, vl))) := by
     show tstr (hx ky) ++ tstr [32] ++ tstr (hx vl) ++ tstr [10] = _
     rw [tstr_app, tstr_app, tstr_app]; unfold lne lnh; simp
    have z1 : (tstr (hx ky)).size ≤ 511 := by rw [tstr_size]; omega
    have z2 : (tstr (hx vl)).size ≤ 524289 := by rw [tstr_size]; omega
    have HXK := hid_intro (refHex_any ao n1 c1 ky)
    have HXV := hid_intro (refHex_any bo n2 d1 vl)
    generalize tstr (hx ky) = S1 at *
    generalize tstr (hx vl) = S2 at *
    have z3 : ¬ (9223372036854775807 < S1.size + 1) := by omega
    have z4 : ¬ (9223372036854775807 < S1.size + 1 + S2.size) := by omega
    have z5 : ¬ (9223372036854775807 < S1.size + 1 + S2.size + 1) := by omega
    have gi0 : (0 : Int) ≤ (i : Int) := by omega
    have gi1 : (i : Int) < (n : Int) := by omega
    have HK := hid_intro (q3.keptN HG.out)
    have HV := hid_intro (q5.keptN HG.out)
    have HQ4 := hid_intro q4
    have HQ6 := hid_intro q6
    have HC1 := hid_intro q1
    have HC2 := hid_intro q2
    have c0 := HG.out.cell q1 (by simp)
    have c2 := HG.out.cell q2 (by simp)
    clear q1 q2 q3 q4 q5 q6 hn1 hn2 hp hxl1 hxl2
    go_wp2_with fail
    refine HFC.out.mono ?_
    rintro en w3 ⟨rfl, hq3⟩
    have Q3 := hid_intro hq3
    have d0 := (hq3.cell _).trans c0
    have d2 := (hq3.cell _).trans c2
    have HO3 := hid_intro (HO.out.heap hq3.heap)
    have HK3 := hid_intro (HK.out.heap hq3.heap)
    have HV3 := hid_intro (HV.out.heap hq3.heap)
    have HG3 := hid_intro (grown_trans HG.out (hq3.grown none))
    have hbs3 : B ≤ w3.heap.size := by rw [hq3.heap]; exact hbs
    clear hq3 c0 c2
    go_upto_region 8 with fail
    go_region_held3 (fun w' => w'.cell? ⟨b, off + i * 2, none⟩ = some (.slice ao n1 c1) ∧ w'.cell? ⟨b, off + i * 2 + 1, none⟩ = some (.slice bo n2 d1)) (first | exact ⟨d0, d2⟩ | exact T6.out | exact T7.out | exact T8.out | go_keep)
     (first
      | (go_at_call_of 12 (Value.slice ao n1 c1); refine (HXK.out w3.drew (HK3.out.heap rfl) HQ4.out (by omega)).mono ?_; rintro en w6 ⟨rfl, hg6⟩; have G6 := hid_intro (grown_undrew hg6); have T6 := hid_intro (And.intro (G6.out.cell d0 (by simp)) (G6.out.cell d2 (by simp))); clear hg6)
      | (go_at_call_of 12 (Value.slice bo n2 d1); refine (HXV.out w6 (HV3.out.keptN G6.out) HQ6.out (by omega)).mono ?_; rintro en w7 ⟨rfl, hg7⟩; have G7 := hid_intro (grown_trans G6.out hg7); have T7 := hid_intro (And.intro (G7.out.cell d0 (by simp)) (G7.out.cell d2 (by simp))); clear hg7)
      | (refine step_append_og rfl (.tmp 25) (.tmp 40) (by rfl) B (.slice so Ln sc) (txi l i) (by rfl) (by exact HO3.out.kept G7.out) _ (lne (ky, vl)) HLNE.out (by rfl) (by have := HLN.out; have := HTL.out; have := HLL.out; omega) (by have := G7.out.size; omega) ?_; intro v8 w8 ho8 hg8; obtain ⟨va, vc, hv8⟩ := ho8.shape; subst hv8; have O8 := hid_intro ho8; have G8 := hid_intro (grown_og (grown_trans HG3.out G7.out) HO3.out HB.out hg8); have T8 := hid_intro (And.intro (G8.out.cell HC1.out (by simp)) (G8.out.cell HC2.out (by simp))); clear ho8 hg8)
      | fail)
    have HJ2 : Hid (jdg [] l = jdg (ahd l (i + 1)) (l.drop (i + 1))) := by show _ = _; have hh := HJT.out; simpa using hh
    go_wp2
    go_roundw
    case rel =>
     refine ⟨i + 1, by omega, by go_num, ?_, G8.out, HJ2.out, ?_, ?_⟩
     ·rw [HSN.out]; have h8 := O8.out; rw [List.length_append] at h8; exact h8
     ·rw [HSN.out, List.length_append]; have := HLN.out; have := HTL.out; have := HLL.out; omega
     ·obtain ⟨g, cap, cur, fz, h1, h2, h3, _⟩ := O8.out
      have := (Array.getElem?_eq_some_iff.1 h3).1
      omega
    case measure => simp [intOf]; omega
   ·have g1 : (ef == 0) = false := by rw [beq_eq_false_iff_ne]; exact hef
    have g2 : (ef != 0) = true := by simp only [bne, g1]; rfl
    have HJ2 : Hid (jdg [] l = ef) := by show _ = _; rw [HJT.out, if_neg hef]
    clear hef q1 q2 q3 q4 q5 q6 HSM
    go_wp2_with fail
    refine HFC.out.mono ?_
    rintro en w3 ⟨rfl, hq3⟩
    have HG3 := hid_intro (grown_trans HG.out (hq3.grown none))
    clear hq3
    go_wp2
    go_ret2
    refine ⟨?_, HG3.out⟩
    have e1 : txt l = [] := by unfold txt; rw [if_neg]; rw [HJ2.out]; exact beq_eq_false_iff_ne.1 g1
    rw [e1, HJ2.out]
    rfl
  ·obtain rfl : i = n := by omega
   have HJ2 : Hid (jdg [] l = 0) := by show _ = _; rw [HJ.out, ← HL.out, List.drop_length]; rfl
   have e1 : txi l i = tx l := by rw [← HL.out]; exact txi_all l
   have hb := HO.out.byt.2
   have hc := conv_str hb
   rw [dz_str, e1] at hc
   clear hb e1
   go_wp2
   go_ret2
   refine ⟨?_, HG.out⟩
   have e1 : txt l = tx l := by unfold txt; rw [if_pos HJ2.out]
   rw [e1, HJ2.out]
   rfl
theorem ixb_cut (x : UInt8) : ∀ t : List UInt8, Lib.indexByte t x = match cutC x t with | none => -1 | some p => (p.1.length : Int)
 | [] => by simp [Lib.indexByte, cutC]
 | c :: t => by
  have ih := ixb_cut x t
  unfold Lib.indexByte
  simp only [cutC]
  by_cases e : c = x
  ·subst e
   simp
  ·have e1 : (c == x) = false := by rw [beq_eq_false_iff_ne]; exact e
   rw [if_neg e, ih]
   cases cutC x t with
   | none => simp [e1]
   | some p =>
    simp only [Option.map_some]
    have : ¬ ((p.1.length : Int) = -1) := by omega
    simp [e1, this]
theorem ext_take (t : List UInt8) (k : Nat) : (tstr t).extract 0 k = tstr (t.take k) := by
 rw [Lib.extract_eq]; unfold tstr; simp
theorem ext_drop (t : List UInt8) (k : Nat) : (tstr t).extract k (tstr t).size = tstr (t.drop k) := by
 rw [Lib.extract_eq, tstr_size]; unfold tstr; simp
 rw [List.take_of_length_le (by simp)]
set_option maxHeartbeats 1000000 in
set_option maxRecDepth 100000 in
theorem liteCut_none (x : UInt8) (t : List UInt8) (w : World) (h : cutC x t = none) :
  Calls Tryz.prog 35 #[.string (tstr t), .string ⟨#[x]⟩] w fun en w' => en = .returned (.tuple #[.string (tstr t), .string ⟨#[]⟩, .bool false]) ∧ w' = w := by
 have hi := ixb_cut x t
 rw [h] at hi
 simp only at hi
 have HC := hid_intro (index_one_call (tstr t) x w)
 rw [tstr_data, hi] at HC
 clear hi h
 generalize tstr t = s at *
 go_enter Tryz.func35, Tryz.ntmps35
 go_wp2_with fail
 refine HC.out.mono ?_
 rintro en w' ⟨rfl, rfl⟩
 go_wp2
 go_ret3
 exact ⟨rfl, rfl⟩
set_option maxHeartbeats 1000000 in
set_option maxRecDepth 100000 in
theorem liteCut_some (x : UInt8) (t a b : List UInt8) (w : World) (h : cutC x t = some (a, b)) (ht : t.length ≤ 2000000000) :
  Calls Tryz.prog 35 #[.string (tstr t), .string ⟨#[x]⟩] w fun en w' => en = .returned (.tuple #[.string (tstr a), .string (tstr b), .bool true]) ∧ Qt w w' := by
 have hi := ixb_cut x t
 rw [h] at hi
 simp only at hi
 obtain ⟨hs, _⟩ := cutC_some h
 have HC := hid_intro (index_one_call (tstr t) x w)
 rw [tstr_data, hi] at HC
 have e1 : (tstr t).extract 0 a.length = tstr a := by rw [ext_take, hs]; simp
 have e2 : (tstr t).extract (a.length + 1) (tstr t).size = tstr b := by rw [ext_drop, hs]; simp
 have hz : (tstr t).size = a.length + b.length + 1 := by rw [tstr_size, hs]; simp; omega
 have hl := tstr_size t
 obtain ⟨k, hk⟩ : ∃ k, a.length = k := ⟨_, rfl⟩
 rw [hk] at HC e1 e2 hz
 clear hi h hs hk
 generalize tstr t = s at *
 generalize tstr a = sa at *
 generalize tstr b = sb at *
 have g0 : (0 : Int) ≤ (k : Int) := by omega
 have g1 : (k : Int) ≤ (s.size : Int) := by omega
 have g2 : (k : Int) + 1 ≤ (s.size : Int) := by omega
 have g3 : (0 : Int) ≤ (k : Int) + 1 := by omega
 have g4 : ((k : Int) + 1).toNat = k + 1 := by omega
 have g5 : IntKind.i64.wrap ((k : Int) + 1) = (k : Int) + 1 := wrap_small _ (by omega) (by omega)
 clear hz hl
 go_enter Tryz.func35, Tryz.ntmps35
 go_wp2_with fail
 refine HC.out.mono ?_
 rintro en w ⟨rfl, rfl⟩
 go_wp2
 go_quiet (fail)
 go_wp2
 go_ret3
 exact ⟨rfl, Qt.drewN _ _⟩
def cua (x : UInt8) (t : List UInt8) : List UInt8 := match cutC x t with | none => t | some p => p.1
def cub (x : UInt8) (t : List UInt8) : List UInt8 := match cutC x t with | none => [] | some p => p.2
theorem liteCut_any (x : UInt8) (t : List UInt8) (w : World) (ht : t.length ≤ 2000000000) :
  Calls Tryz.prog 35 #[.string (tstr t), .string ⟨#[x]⟩] w fun en w' => en = .returned (.tuple #[.string (tstr (cua x t)), .string (tstr (cub x t)), .bool (cutC x t).isSome]) ∧ Qt w w' := by
 unfold cua cub
 cases h : cutC x t with
 | none =>
  refine (liteCut_none x t w h).mono ?_
  rintro en w' ⟨rfl, rfl⟩
  exact ⟨rfl, Qt.refl _⟩
 | some p => exact liteCut_some x t p.1 p.2 w h ht
set_option maxHeartbeats 1000000 in
set_option maxRecDepth 100000 in
theorem cut_any (x : UInt8) (t : List UInt8) (w : World) (ht : t.length ≤ 2000000000) :
  Calls Tryz.prog 19 #[.string (tstr t), .string ⟨#[x]⟩] w fun en w' => en = .returned (.tuple #[.string (tstr (cua x t)), .string (tstr (cub x t)), .bool (cutC x t).isSome]) ∧ Qt w w' := by
 have HC := hid_intro (liteCut_any x t w ht)
 generalize tstr (cua x t) = sa at *
 generalize tstr (cub x t) = sb at *
 generalize (cutC x t).isSome = f at *
 generalize tstr t = s at *
 go_enter Tryz.func19, Tryz.ntmps19
 go_wp2_with fail
 refine HC.out.mono ?_
 rintro en w' ⟨rfl, hq⟩
 have HQ := hid_intro hq
 clear hq
 go_wp2
 go_ret3
 exact ⟨rfl, HQ.out⟩
theorem take_snocU {T : List UInt8} {i : Nat} (h : i < T.length) : T.take (i + 1) = T.take i ++ [T.getD i 0] := by
 rw [List.take_succ_eq_append_getElem h]
 simp [List.getD, List.getElem?_eq_getElem h]
theorem nb_no_dig {T : List UInt8} {i : Nat} (h : i < T.length) (hd : dig (T.getD i 0) = false) : nb T = none := by
 unfold nb
 rw [if_neg]
 rintro ⟨_, _, h3, _⟩
 have := List.all_eq_true.1 h3 (T.getD i 0) (by simp [List.getD, List.getElem?_eq_getElem h])
 rw [hd] at this; cases this
theorem val_app (n : Nat) (a b : List UInt8) : val n (a ++ b) = val (val n a) b := by unfold val; rw [List.foldl_append]
theorem nb_great {T : List UInt8} {i : Nat} (h : 2147483647 < val 0 (T.take i)) : nb T = none := by
 unfold nb
 rw [if_neg]
 rintro ⟨_, _, _, h4⟩
 have h1 : val 0 T = val (val 0 (T.take i)) (T.drop i) := by rw [← val_app, List.take_append_drop]
 have := val_mono (T.drop i) (val 0 (T.take i))
 omega
theorem nb_yes {T : List UInt8} (h0 : T ≠ []) (h1 : T.head? = some 48 → T = [48]) (h2 : T.all dig = true) (h3 : val 0 T ≤ 2147483647) : nb T = some (val 0 T) := by
 unfold nb
 rw [if_pos ⟨h0, h1, h2, h3⟩]
def NbP (w : World) (r : Option Nat) (en : Ending) (w' : World) : Prop := w.grownBy w' none ∧ ((r = none ∧ en = .returned (.tuple #[.int .i64 0, .bool false])) ∨ ∃ n : Nat, r = some n ∧ en = .returned (.tuple #[.int .i64 (n : Nat), .bool true]))
set_option maxHeartbeats 1000000 in
set_option maxRecDepth 100000 in
theorem number_none (w : World) : Calls Tryz.prog 37 #[.string ⟨#[]⟩] w fun en w' => en = .returned (.tuple #[.int .i64 0, .bool false]) ∧ w' = w := by
 go_enter Tryz.func37, Tryz.ntmps37
 go_wp2
 go_ret2
 exact ⟨rfl, rfl⟩
set_option maxHeartbeats 1000000 in
set_option maxRecDepth 100000 in
theorem number_zero (s : ByteArray) (w : World) (h0 : 0 < s.size) (h1 : (s.toList == []) = false) (h2 : (s.toList == [48]) = false) (h3 : (s[0]'h0).toNat = 48) : Calls Tryz.prog 37 #[.string s] w fun en w' => en = .returned (.tuple #[.int .i64 0, .bool false]) ∧ w' = w := by
 have g1 : (0 : Int) < (s.size : Int) := by omega
 go_enter Tryz.func37, Tryz.ntmps37
 go_wp2
 go_ret2
 exact ⟨rfl, rfl⟩
set_option maxHeartbeats 4000000 in
set_option maxRecDepth 100000 in
theorem number_some (s : ByteArray) (w : World) (h0 : 0 < s.size) (hs : s.size ≤ 2000000000) (h1 : (s.toList == []) = false) (h2 : (s[0]'h0).toNat = 48 → (s.toList == [48]) = true) (hh : s.data.toList.head? = some 48 → s.data.toList = [48]) :
  Calls Tryz.prog 37 #[.string s] w fun en w' => NbP w (nb s.data.toList) en w' := by
 have hl := size_data s
 have hgd := getD_data s
 have hne : s.data.toList ≠ [] := fun e => by rw [e] at hl; simp at hl; omega
 generalize hT : s.data.toList = T at *
 have HTL := hid_intro hl
 have HGD := hid_intro hgd
 have HH := hid_intro hh
 have HNE := hid_intro hne
 clear hl hgd hh hne
 have g1 : (0 : Int) < (s.size : Int) := by omega
 have e10 : (⟨#[48, 49, 50, 51, 52, 53, 54, 55, 56, 57, 97, 98, 99, 100, 101, 102]⟩ : ByteArray).extract 0 10 = decs := by
  apply ByteArray.ext; decide
 have H2 := hid_intro h2
 clear h2 hT
 by_cases h48 : (s[0]'h0).toNat = 48
 all_goals
  first
   | (have k2 := H2.out h48)
   | skip
  have k3 : ∀ b : Bool, (((s[0]'h0).toNat : Int) == 48) = b → (((s[0]'h0).toNat == 48) = b) := fun b hb => by rw [← hb]; rw [Bool.eq_iff_iff]; simp; omega
  have k4 : (((s[0]'h0).toNat : Int) == 48) = decide ((s[0]'h0).toNat = 48) := by rw [Bool.eq_iff_iff]; simp; omega
  first
   | (rw [decide_eq_true h48] at k4)
   | (rw [decide_eq_false h48] at k4)
  clear k3 H2
  go_enter Tryz.func37, Tryz.ntmps37
  go_wp2
  have IT : Hid ((w.iter s 0).heap[w.heap.size]? = some (.stringIter s 0)) := World.iter_heap w s 0
  have G1 : Hid (w.grownBy (w.iter s 0) none) := World.grownBy_alloc w _ none
  generalize w.iter s 0 = w1 at *
  go_loopw [4, 6, 7] (fun sn _ _ wr => ∃ pos : Nat, pos ≤ s.size ∧ w.grownBy wr none ∧ wr.heap[w.heap.size]? = some (.stringIter s pos) ∧ (T.take pos).all dig = true ∧ val 0 (T.take pos) ≤ 2147483647 ∧ sn = .int .i64 (val 0 (T.take pos) : Nat)) (fun _ _ _ wr => s.size - wr.iterPos w.heap.size)
  case atStart => exact ⟨0, Nat.zero_le _, G1.out, IT.out, rfl, (by show 0 ≤ 2147483647; decide), rfl⟩
  case round =>
   obtain ⟨pos, hp', hg, hit, hall, hval, rfl⟩ := hrel
   have HG := hid_intro hg
   have HIT := hid_intro hit
   have HAL := hid_intro hall
   clear G1 IT hg hit hall
   by_cases hp : pos < s.size
   ·have hnx : ∀ ty, (Instr.next (.pointer (some ⟨w.heap.size, 0, none⟩)) true ty).run Tryz.prog wr = _ := fun ty => Lib.run_next_any_at wr w.heap.size s pos ty HIT.out hp
    have HTK := hid_intro (take_snocU (T := T) (i := pos) (by have := HTL.out; omega))
    have hgp := HGD.out pos hp
    by_cases hasc : (s[pos]'hp).toNat < 128
    ·have hdec := decode_ascii s pos hp hasc
     rw [hdec] at hnx
     have hix := ixr_decs (s[pos]'hp).toNat hasc
     have hu : UInt8.ofNat (s[pos]'hp).toNat = s[pos]'hp := by simp
     rw [hu] at hix
     have GI := hid_intro (grown_iter HG.out (k := w.heap.size) (Nat.le_refl _) s (pos + 1))
     have II := hid_intro (Lib.iterAt_heap wr w.heap.size s pos (pos + 1) HIT.out)
     clear hdec hu
     cases hd : dig (s[pos]'hp) with
     | false =>
      rw [hd, if_neg (by decide)] at hix
      have HIX := hid_intro hix
      have HN := hid_intro (nb_no_dig (T := T) (i := pos) (by have := HTL.out; omega) (by rw [hgp]; exact hd))
      clear hix hd hgp
      go_wp2_with fail
      refine (indexRune_any decs _ _ decs_asc (by decide) (by decide) (by omega)).mono ?_
      rintro en w2 ⟨rfl, hg2⟩
      rw [HIX.out]
      have GE := hid_intro (grown_trans GI.out hg2)
      clear hg2
      go_wp2
      go_ret2
      exact ⟨GE.out, .inl ⟨HN.out, rfl⟩⟩
     | true =>
      rw [hd, if_pos rfl] at hix
      have HIX := hid_intro hix
      have hdg : 48 ≤ (s[pos]'hp).toNat ∧ (s[pos]'hp).toNat ≤ 57 := by simpa [dig] using hd
      have HV : Hid (val 0 (T.take (pos + 1)) = 10 * val 0 (T.take pos) + ((s[pos]'hp).toNat - 48)) := by
       show _ = _
       rw [HTK.out, val_snoc, hgp]
      have HAL2 : Hid ((T.take (pos + 1)).all dig = true) := by
       show _ = _
       rw [HTK.out, List.all_append, HAL.out, hgp]; simp [hd]
      obtain ⟨d, hdd⟩ : ∃ d, (s[pos]'hp).toNat - 48 = d := ⟨_, rfl⟩
      have hd2 : ((s[pos]'hp).toNat : Int) - 48 = (d : Int) := by omega
      rw [hdd] at HV
      rw [hd2] at HIX
      clear hix hd hgp
      obtain ⟨v, hv⟩ : ∃ v, val 0 (T.take pos) = v := ⟨_, rfl⟩
      rw [hv] at HV hval ⊢
      clear hv
      have v1 : 10 * (v : Int) + (d : Int) = ((10 * v + d : Nat) : Int) := by omega
      have v2 : (d : Int) ≤ 9 := by omega
      have v3 : (v : Int) ≤ 2147483647 := by omega
      go_wp2_with fail
      refine (indexRune_any decs _ _ decs_asc (by decide) (by decide) (by omega)).mono ?_
      rintro en w2 ⟨rfl, hg2⟩
      rw [HIX.out]
      have GE := hid_intro (grown_trans GI.out hg2)
      have i2 : w2.heap[w.heap.size]? = some (.stringIter s (pos + 1)) := by rw [hg2.block w.heap.size (Array.getElem?_eq_some_iff.1 II.out).1 (by simp)]; exact II.out
      have I2 := hid_intro i2
      have HMS : Hid (s.size - w2.iterPos w.heap.size < s.size - wr.iterPos w.heap.size) := by
       show _ < _
       simp only [World.iterPos, i2, HIT.out]
       omega
      clear hg2 i2 hnx hdg hdd hd2
      by_cases hgr : 2147483647 < 10 * v + d
      ·have g5 : (2147483647 : Int) < 10 * (v : Int) + (d : Int) := by omega
       have HN := hid_intro (nb_great (T := T) (i := pos + 1) (by rw [HV.out]; exact hgr))
       clear v1
       go_wp2
       go_ret2
       exact ⟨GE.out, .inl ⟨HN.out, rfl⟩⟩
      ·have g5 : ¬ (2147483647 : Int) < 10 * (v : Int) + (d : Int) := by omega
       clear v1
       go_wp2
       go_roundw
       case rel => exact ⟨pos + 1, by omega, GE.out, I2.out, HAL2.out, by rw [HV.out]; omega, by rw [HV.out]; go_num⟩
       case measure => exact HMS.out
    ·obtain ⟨hr1, hr2⟩ := decode_high s pos hp (by omega)
     have HX : Hid (ixr decs ((Utf8.decode s pos).1 : Nat) = -1) := by show _ = _; unfold ixr; rw [if_neg (by omega)]
     have GI := hid_intro (grown_iter HG.out (k := w.heap.size) (Nat.le_refl _) s (pos + (Utf8.decode s pos).2))
     have HN := hid_intro (nb_no_dig (T := T) (i := pos) (by have := HTL.out; omega) (by rw [hgp]; simp [dig]; omega))
     clear hgp
     generalize (Utf8.decode s pos).1 = rn at *
     generalize (Utf8.decode s pos).2 = wd at *
     go_wp2_with fail
     refine (indexRune_any decs _ _ decs_asc (by decide) (by decide) (by omega)).mono ?_
     rintro en w2 ⟨rfl, hg2⟩
     rw [HX.out]
     have GE := hid_intro (grown_trans GI.out hg2)
     clear hg2
     go_wp2
     go_ret2
     exact ⟨GE.out, .inl ⟨HN.out, rfl⟩⟩
   ·obtain rfl : pos = s.size := by omega
    have hnx : ∀ ty, (Instr.next (.pointer (some ⟨w.heap.size, 0, none⟩)) true ty).run Tryz.prog wr = _ := fun ty => Lib.run_next_end_at wr w.heap.size s s.size ty HIT.out hp
    have e : T.take s.size = T := by rw [← HTL.out, List.take_length]
    rw [e] at HAL hval ⊢
    have HN := hid_intro (nb_yes HNE.out HH.out HAL.out hval)
    clear e
    generalize val 0 T = v at *
    go_wp2
    go_ret2
    exact ⟨HG.out, .inr ⟨v, HN.out, rfl⟩⟩
theorem number_any (t : List UInt8) (w : World) (ht : t.length ≤ 2000000000) : Calls Tryz.prog 37 #[.string (tstr t)] w fun en w' => NbP w (nb t) en w' := by
 have hsz := tstr_size t
 by_cases h0 : t = []
 ·subst h0
  refine (number_none w).mono ?_
  rintro en w' ⟨rfl, rfl⟩
  exact ⟨World.grownBy.refl _ _, .inl ⟨rfl, rfl⟩⟩
 ·have hp : 0 < (tstr t).size := by rw [hsz]; exact List.length_pos_iff.2 h0
  have htl : (tstr t).toList = t := by rw [ByteArray.toList_eq]; rfl
  have hz := getD_data (tstr t) 0 hp
  rw [tstr_data] at hz
  have hhd : t.head? = some (t.getD 0 0) := by cases t with | nil => exact absurd rfl h0 | cons x r => rfl
  by_cases hb : t.head? = some 48 ∧ t ≠ [48]
  ·have h3 : ((tstr t)[0]'hp).toNat = 48 := by
    rw [← hz]
    rw [hhd] at hb
    rw [Option.some.inj hb.1]; rfl
   refine (number_zero (tstr t) w hp (by rw [htl, beq_eq_false_iff_ne]; exact h0) (by rw [htl, beq_eq_false_iff_ne]; exact hb.2) h3).mono ?_
   rintro en w' ⟨rfl, rfl⟩
   refine ⟨World.grownBy.refl _ _, .inl ⟨?_, rfl⟩⟩
   unfold nb
   rw [if_neg]
   rintro ⟨_, h4, _⟩
   exact hb.2 (h4 hb.1)
  ·have hh : t.head? = some 48 → t = [48] := fun e => Decidable.byContradiction fun ne => hb ⟨e, ne⟩
   refine number_some (tstr t) w hp (by omega) (by rw [htl, beq_eq_false_iff_ne]; exact h0) (fun h48 => ?_) hh
   rw [htl, beq_iff_eq]
   refine hh ?_
   rw [hhd, hz]
   congr 1
   exact UInt8.toNat_inj.1 h48
set_option maxHeartbeats 1000000 in
set_option maxRecDepth 100000 in
theorem count_any (t : List UInt8) (w : World) (ht : t.length ≤ 2000000000) : Calls Tryz.prog 20 #[.string (tstr t)] w fun en w' => NbP w (cnt t) en w' := by
 have HC := hid_intro (cutPrefix_call (tstr t) ⟨#[99, 111, 112, 112, 105, 99, 101, 32]⟩ w)
 rw [tstr_data] at HC
 have e1 : (⟨#[99, 111, 112, 112, 105, 99, 101, 32]⟩ : ByteArray).data.toList = ttl := rfl
 rw [e1] at HC
 by_cases hp : Lib.hasPrefix t ttl = true
 ·have e2 : Lib.trimPrefix t ttl = t.drop 8 := by unfold Lib.trimPrefix; rw [if_pos hp]; rfl
  have e3 : cnt t = nb (t.drop 8) := by unfold cnt; rw [if_pos hp]
  rw [e2, hp] at HC
  rw [e3]
  have HN := hid_intro (fun w => number_any (t.drop 8) w (by simp; omega))
  have e4 : (⟨(t.drop 8).toArray⟩ : ByteArray) = tstr (t.drop 8) := rfl
  rw [e4] at HC
  clear e1 e2 e3 e4 hp
  generalize nb (t.drop 8) = r at *
  generalize tstr (t.drop 8) = s2 at *
  generalize tstr t = s at *
  go_enter Tryz.func20, Tryz.ntmps20
  go_wp2_with fail
  refine HC.out.mono ?_
  rintro en w ⟨rfl, rfl⟩
  go_wp2_with fail
  refine (HN.out _).mono ?_
  rintro en w2 ⟨hg, ⟨hr, rfl⟩ | ⟨n, hr, rfl⟩⟩
  ·have HG := hid_intro hg
   have HR := hid_intro hr
   clear hg hr
   go_wp2
   go_ret2
   exact ⟨HG.out, .inl ⟨HR.out, rfl⟩⟩
  ·have HG := hid_intro hg
   have HR := hid_intro hr
   clear hg hr
   go_wp2
   go_ret2
   exact ⟨HG.out, .inr ⟨n, HR.out, rfl⟩⟩
 ·have hpf : Lib.hasPrefix t ttl = false := by simpa using hp
  have e3 : cnt t = none := by unfold cnt; rw [if_neg hp]
  rw [hpf] at HC
  rw [e3]
  clear e1 e3 hp hpf
  generalize (⟨(Lib.trimPrefix t ttl).toArray⟩ : ByteArray) = s2 at *
  generalize tstr t = s at *
  go_enter Tryz.func20, Tryz.ntmps20
  go_wp2_with fail
  refine HC.out.mono ?_
  rintro en w ⟨rfl, rfl⟩
  go_wp2
  go_ret2
  exact ⟨World.grownBy.refl _ _, .inl ⟨rfl, rfl⟩⟩
def szd (t : List UInt8) (lo hi : Nat) : Rs (List Int) := match uh t with
 | none => .error 201
 | some b => if b.length < lo ∨ hi < b.length then .error 41 else .ok b
def SzP (w : World) (r : Rs (List Int)) (en : Ending) (w' : World) : Prop := w.grownBy w' none ∧ ((∃ e : Int, r = .error e ∧ e ≠ 0 ∧ en = .returned (.tuple #[.slice none 0 0, .int .i64 e])) ∨
 ∃ b ao c, r = .ok b ∧ en = .returned (.tuple #[.slice ao b.length c, .int .i64 0]) ∧ Bt b ∧ w'.ownsRow w.heap.size 5 1 (.slice ao b.length c) b.length (b.map (Value.int .u8)))
set_option maxHeartbeats 1000000 in
set_option maxRecDepth 100000 in
theorem sized_any (t : List UInt8) (lo hi : Nat) (w : World) (ht : t.length ≤ 2000000000) :
  Calls Tryz.prog 39 #[.string (tstr t), .int .i64 (lo : Nat), .int .i64 (hi : Nat)] w fun en w' => SzP w (szd t lo hi) en w' := by
 have HC := hid_intro (unhex_any (tstr t) w (by rw [tstr_size]; exact ht))
 rw [tstr_data] at HC
 have HS : Hid (szd t lo hi = match uh t with | none => .error 201 | some b => if b.length < lo ∨ hi < b.length then .error 41 else .ok b) := rfl
 have HUB : Hid (∀ b, uh t = some b → Bt b ∧ 2 * b.length ≤ t.length) := fun b hb => ⟨(hx_uh hb).2, uh_len hb⟩
 generalize szd t lo hi = r at *
 generalize tstr t = s at *
 go_enter Tryz.func39, Tryz.ntmps39
 go_wp2_with fail
 refine HC.out.mono ?_
 rintro en w2 ⟨hg, ⟨hu, rfl⟩ | ⟨b, ao, c, hu, rfl, ho⟩⟩
 ·have HG := hid_intro hg
  have HR : Hid (r = .error 201) := by rw [HS.out, hu]; rfl
  clear hg hu
  go_wp2
  go_ret2
  exact ⟨HG.out, .inl ⟨201, HR.out, by decide, rfl⟩⟩
 ·have HG := hid_intro hg
  obtain ⟨hbt, hbl⟩ := HUB.out b hu
  have HR : Hid (r = if b.length < lo ∨ hi < b.length then .error 41 else .ok b) := by show _ = _; rw [HS.out, hu]
  have HO := hid_intro ho
  have HBT := hid_intro hbt
  clear hg ho hbt hu
  obtain ⟨n, hn⟩ : ∃ n, b.length = n := ⟨_, rfl⟩
  have HN := hid_intro hn
  rw [hn] at HR HO hbl ⊢
  clear hn
  by_cases h1 : n < lo
  ·have g1 : (n : Int) < (lo : Int) := by omega
   rw [if_pos (.inl h1)] at HR
   go_wp2
   go_ret2
   exact ⟨HG.out, .inl ⟨41, HR.out, by decide, rfl⟩⟩
  ·have g1 : ¬ (n : Int) < (lo : Int) := by omega
   by_cases h2 : hi < n
   ·have g2 : (hi : Int) < (n : Int) := by omega
    rw [if_pos (.inr h2)] at HR
    go_wp2
    go_ret2
    exact ⟨HG.out, .inl ⟨41, HR.out, by decide, rfl⟩⟩
   ·have g2 : ¬ (hi : Int) < (n : Int) := by omega
    rw [if_neg (by omega)] at HR
    go_wp2
    go_ret2
    exact ⟨HG.out, .inr ⟨b, ao, c, HR.out, by rw [HN.out]; rfl, HBT.out, by rw [HN.out]; exact HO.out⟩⟩
theorem pp_eq (a : List Int) (line : List UInt8) : pp a line = if cua 32 line = [] ∨ cub 32 line = [] ∨ 32 ∈ cub 32 line then .error 200 else
  match szd (cua 32 line) 1 255 with
  | .error e => .error e
  | .ok k => match szd (cub 32 line) 0 262144 with
   | .error e => .error e
   | .ok v => if cmpZ k a ≤ 0 then .error 30 else .ok (k, v) := by
 unfold pp cua cub
 cases h : cutC 32 line with
 | none => simp
 | some q =>
  obtain ⟨l, r⟩ := q
  simp only
  by_cases hc : l = [] ∨ r = [] ∨ 32 ∈ r
  ·rw [if_pos hc, if_pos hc]
  ·rw [if_neg hc, if_neg hc]
   unfold szd
   cases uh l with
   | none => rfl
   | some k =>
    simp only
    by_cases h1 : k.length < 1 ∨ 255 < k.length
    ·rw [if_pos h1, if_pos h1]
    ·rw [if_neg h1, if_neg h1]
     cases uh r with
     | none => rfl
     | some v =>
      simp only
      by_cases h2 : 262144 < v.length
      ·rw [if_pos h2, if_pos (.inr h2)]
      ·have h3 : ¬ (v.length < 0 ∨ 262144 < v.length) := by omega
       rw [if_neg h2, if_neg h3]
theorem size_pairD : (Tryz.prog.info? 54).map (fun i => i.size) = some 2 := by kernel_rfl
theorem results_pairD {fn : Func} {p u : Tmp} (h : fn.results = #[.cell p 54, .tmp u]) (tmps : Array Value) (w : World) (g : Nat) (x y : Value) (hp : tmps.getD p undef = .pointer (some ⟨g, 0, none⟩)) (hr : w.heap[g]? = some (.cells #[x, y] 54 (0, 0))) :
  (results fn tmps).run Tryz.prog w = .ok (.tuple #[.agg #[x, y], tmps.getD u undef]) w := by
 have hp' : tmps[p]?.getD undef = .pointer (some ⟨g, 0, none⟩) := by simpa using hp
 simp [results, h, hp', asAddr, run_loadVar_row w g 54 54 #[x, y] (0, 0) _ hr Tryz.underlying54 rfl (by rw [size_pairD]; rfl)]
theorem grown_cellD (w : World) (g i : Nat) (v : Value) : w.grownBy (w.setCell ⟨g, i, none⟩ v) (some g) :=
 ⟨rfl, rfl, rfl, by simp [World.setCell], fun k _ hk => Below.heap_setCell _ _ _ _ (fun e => hk (by rw [e]))⟩
theorem grown_transD {a b c : World} {r : Option Nat} (h : a.grownBy b r) (k : b.grownBy c r) : a.grownBy c r :=
 ⟨k.os.trans h.os, k.tape.trans h.tape, k.output.trans h.output, Nat.le_trans h.size k.size, fun j hj hn => (k.block j (Nat.lt_of_lt_of_le hj h.size) hn).trans (h.block j hj hn)⟩
theorem pair_putD {w : World} {g : Nat} {x y : Value} (e : w.heap[g]? = some (.cells #[x, y] 54 (0, 0))) (u v : Value) : ((w.setCell ⟨g, 0, none⟩ u).setCell ⟨g, 1, none⟩ v).heap[g]? = some (.cells #[u, v] 54 (0, 0)) ∧ w.grownBy ((w.setCell ⟨g, 0, none⟩ u).setCell ⟨g, 1, none⟩ v) (some g) := by
 have k1 := heap_setCell_same w g 0 _ _ u e
 have k2 := heap_setCell_same _ g 1 _ _ v k1
 refine ⟨?_, grown_transD (grown_cellD w g 0 u) (grown_cellD _ g 1 v)⟩
 rw [k2]
 rfl
theorem grown_boxD {w w1 w2 : World} {g : Nat} (h : w.grownBy w1 none) (k : w1.grownBy w2 (some g)) (hg : w.heap.size ≤ g) : w.grownBy w2 none :=
 ⟨k.os.trans h.os, k.tape.trans h.tape, k.output.trans h.output, Nat.le_trans h.size k.size, fun j hj hn => (k.block j (Nat.lt_of_lt_of_le hj h.size) (fun e => by have := Option.some.inj e; omega)).trans (h.block j hj hn)⟩
theorem own_boxD {w1 w2 : World} {g base e sz n : Nat} {v : Value} {xs : List Value} (h : w1.ownsRow base e sz v n xs) (k : w1.grownBy w2 (some g)) (hg : g < base) : w2.ownsRow base e sz v n xs := by
 refine h.kept k ?_
 cases hv : v.ownBlock with
 | none => exact .inl rfl
 | some b => exact .inr (fun e => by have := (h.lt b hv).1; have := Option.some.inj e; omega)
theorem own_keptD {w w' : World} {base e sz n : Nat} {v : Value} {xs : List Value} (h : w.ownsRow base e sz v n xs) (k : w.grownBy w' none) : w'.ownsRow base e sz v n xs := by
 refine h.kept k ?_
 cases v.ownBlock with
 | none => exact .inl rfl
 | some b => exact .inr (by simp)
theorem own_low {w : World} {base base' e sz n : Nat} {v : Value} {xs : List Value} (h : w.ownsRow base e sz v n xs) (hb : base' ≤ base) : w.ownsRow base' e sz v n xs := by
 refine ⟨h.1, ?_⟩
 rcases h.2 with h | ⟨g, cap, cur, h1, h2, h3⟩
 ·exact .inl h
 ·exact .inr ⟨g, cap, cur, h1, Nat.le_trans hb h2, h3⟩
def PpP (w : World) (r : Rs Pq) (en : Ending) (w' : World) : Prop := w.grownBy w' none ∧ ((∃ e : Int, r = .error e ∧ e ≠ 0 ∧ en = .returned (.tuple #[.agg #[.slice none 0 0, .slice none 0 0], .int .i64 e])) ∨
 ∃ k v ao c bo d, r = .ok (k, v) ∧ en = .returned (.tuple #[.agg #[.slice ao k.length c, .slice bo v.length d], .int .i64 0]) ∧ Bt k ∧ Bt v ∧ w'.ownsRow w.heap.size 5 1 (.slice ao k.length c) k.length (k.map (Value.int .u8)) ∧ w'.ownsRow w.heap.size 5 1 (.slice bo v.length d) v.length (v.map (Value.int .u8)))
theorem cua_len (x : UInt8) (t : List UInt8) : (cua x t).length ≤ t.length ∧ (cub x t).length ≤ t.length := by
 unfold cua cub
 cases h : cutC x t with
 | none => simp
 | some p =>
  have := (cutC_some (a := p.1) (b := p.2) h).1
  rw [this]; simp; omega
theorem str_nil (t : List UInt8) : ((tstr t).toList == []) = decide (t = []) := by
 have : (tstr t).toList = t := by rw [ByteArray.toList_eq]; rfl
 rw [this]
 cases t <;> rfl
set_option maxHeartbeats 8000000 in
set_option maxRecDepth 100000 in
theorem parsePair_any (line : List UInt8) (ka : Option Addr) (kn kc : Nat) (za : List Int) (w : World) (hb : Byt w ka kn kc za) (bt : Bt za) (ht : line.length ≤ 2000000000) :
  Calls Tryz.prog 21 #[.string (tstr line), .slice ka kn kc] w fun en w' => PpP w (pp za line) en w' := by
 have HE := hid_intro (pp_eq za line)
 obtain ⟨hl1, hl2⟩ := cua_len 32 line
 have g1 := World.grownBy_alloc w (.cells #[.slice none 0 0, .slice none 0 0] 54) none
 have x1 : (w.alloc (.cells #[.slice none 0 0, .slice none 0 0] 54)).heap[w.heap.size]? = some (.cells #[.slice none 0 0, .slice none 0 0] 54 (0, 0)) := heap_alloc_new w _
 have HB := hid_intro (hb.keptN g1)
 have HCU := hid_intro (fun W => cut_any 32 line W ht)
 have HSL := hid_intro (fun W => sized_any (cua 32 line) 1 255 W (by omega))
 have HSR := hid_intro (fun W => sized_any (cub 32 line) 0 262144 W (by omega))
 have hA := str_nil (cua 32 line)
 have hBn := str_nil (cub 32 line)
 have HCO := hid_intro (fun W => contains_one_call (tstr (cub 32 line)) 32 W)
 have hco : decide (0 ≤ Lib.indexByte (tstr (cub 32 line)).data.toList 32) = decide (32 ∈ cub 32 line) := by
  rw [tstr_data, ixb_cut]
  cases hc : cutC 32 (cub 32 line) with
  | none => rw [decide_eq_false (cutC_none.1 hc)]; rfl
  | some q =>
   have := (cutC_some (a := q.1) (b := q.2) hc).1
   rw [decide_eq_true (show (32 : UInt8) ∈ cub 32 line by rw [this]; simp), decide_eq_true (by simp only; omega)]
 rw [hco] at HCO
 generalize pp za line = R at *
 generalize (cutC 32 line).isSome = f at *
 generalize tstr line = s at *
 generalize hsl : tstr (cua 32 line) = sl at *
 generalize hsr : tstr (cub 32 line) = sr at *
 generalize szd (cua 32 line) 1 255 = RL at *
 generalize szd (cub 32 line) 0 262144 = RR at *
 generalize cua 32 line = L at *
 generalize cub 32 line = Rr at *
 have HX1 := hid_intro x1
 have HG1 := hid_intro g1
 have hsz : w.heap.size < (w.alloc (.cells #[.slice none 0 0, .slice none 0 0] 54)).heap.size := by simp
 clear hsl hsr hco hb x1 g1 hl1 hl2 ht
 go_enter Tryz.func21, Tryz.ntmps21
 go_upto_region 1 with fail
 generalize w.alloc (.cells #[.slice none 0 0, .slice none 0 0] 54) = w1 at *
 generalize hGb : w.heap.size = G at *
 have HGb := hid_intro hGb
 clear hGb
 go_wp2_with fail
 refine (HCU.out w1).mono ?_
 rintro en w2 ⟨rfl, hq2⟩
 have X2 : Hid (w2.heap[G]? = some (.cells #[.slice none 0 0, .slice none 0 0] 54 (0, 0))) := by rw [hq2.heap]; exact HX1.out
 have G2 := hid_intro (grown_trans HG1.out (hq2.grown none))
 have B2 := hid_intro (HB.out.heap hq2.heap)
 have hsz2 : G < w2.heap.size := by rw [hq2.heap]; exact hsz
 have d0 : w2.cell? ⟨G, 0, none⟩ = some (.slice none 0 0) := by rw [Lib.cell_of_heap X2.out]; rfl
 have d1 : w2.cell? ⟨G, 1, none⟩ = some (.slice none 0 0) := by rw [Lib.cell_of_heap X2.out]; rfl
 have f0 : w2.frozen? ⟨G, 0, none⟩ = false := Lib.frozen_of_heap X2.out 0
 have f1 : w2.frozen? ⟨G, 1, none⟩ = false := Lib.frozen_of_heap X2.out 1
 clear hq2 HX1 HG1 HB hsz
 by_cases hL : L = []
 ·rw [decide_eq_true hL] at hA
  have HR : Hid (R = .error 200) := by show _ = _; rw [HE.out, if_pos (.inl hL)]
  clear hL
  go_wp2
  obtain ⟨y1, y2⟩ := pair_putD X2.out (.slice none 0 0) (.slice none 0 0)
  refine bodyPost_ret (results_pairD rfl _ _ G _ _ rfl y1) rfl ?_
  exact ⟨grown_boxD G2.out y2 (by have := HGb.out; omega), .inl ⟨200, HR.out, by decide, rfl⟩⟩
 ·rw [decide_eq_false hL] at hA
  by_cases hRn : Rr = []
  ·rw [decide_eq_true hRn] at hBn
   have HR : Hid (R = .error 200) := by show _ = _; rw [HE.out, if_pos (.inr (.inl hRn))]
   clear hL hRn
   go_wp2
   obtain ⟨y1, y2⟩ := pair_putD X2.out (.slice none 0 0) (.slice none 0 0)
   refine bodyPost_ret (results_pairD rfl _ _ G _ _ rfl y1) rfl ?_
   exact ⟨grown_boxD G2.out y2 (by have := HGb.out; omega), .inl ⟨200, HR.out, by decide, rfl⟩⟩
  ·rw [decide_eq_false hRn] at hBn
   by_cases hS : 32 ∈ Rr
   ·rw [decide_eq_true hS] at HCO
    have HR : Hid (R = .error 200) := by show _ = _; rw [HE.out, if_pos (.inr (.inr hS))]
    clear hL hRn hS
    go_wp2_with fail
    refine (HCO.out _).mono ?_
    rintro en w3 ⟨rfl, hw3⟩
    subst hw3
    go_wp2
    obtain ⟨y1, y2⟩ := pair_putD X2.out (.slice none 0 0) (.slice none 0 0)
    refine bodyPost_ret (results_pairD rfl _ _ G _ _ rfl y1) rfl ?_
    exact ⟨grown_boxD G2.out y2 (by have := HGb.out; omega), .inl ⟨200, HR.out, by decide, rfl⟩⟩
   ·rw [decide_eq_false hS] at HCO
    rw [if_neg (by simp only [not_or]; exact ⟨hL, hRn, hS⟩)] at HE
    clear hL hRn hS
    go_wp2_with fail
    refine (HCO.out _).mono ?_
    rintro en w3 ⟨rfl, hw3⟩
    subst hw3
    clear d0 d1 f0 f1
    go_wp2_with fail
    refine (HSL.out _).mono ?_
    rintro en w4 ⟨hg4, ⟨e, hr, he, rfl⟩ | ⟨k, ao, c, hr, rfl, hbt, ho⟩⟩
    ·have X4 : Hid (w4.heap[G]? = some (.cells #[.slice none 0 0, .slice none 0 0] 54 (0, 0))) := (hg4.block G hsz2 (by simp)).trans X2.out
     have G4 := hid_intro (grown_trans G2.out hg4)
     have HR : Hid (R = .error e) := by show _ = _; rw [HE.out, hr]
     have d0 : w4.cell? ⟨G, 0, none⟩ = some (.slice none 0 0) := by rw [Lib.cell_of_heap X4.out]; rfl
     have d1 : w4.cell? ⟨G, 1, none⟩ = some (.slice none 0 0) := by rw [Lib.cell_of_heap X4.out]; rfl
     have f0 : w4.frozen? ⟨G, 0, none⟩ = false := Lib.frozen_of_heap X4.out 0
     have f1 : w4.frozen? ⟨G, 1, none⟩ = false := Lib.frozen_of_heap X4.out 1
     have k1 : (e == 0) = false := by rw [beq_eq_false_iff_ne]; exact he
     have k2 : (e != 0) = true := by simp only [bne, k1]; rfl
     have HE0 := hid_intro he
     clear hg4 hr he
     go_wp2
     obtain ⟨y1, y2⟩ := pair_putD X4.out (.slice none 0 0) (.slice none 0 0)
     refine bodyPost_ret (results_pairD rfl _ _ G _ _ rfl y1) rfl ?_
     exact ⟨grown_boxD G4.out y2 (by have := HGb.out; omega), .inl ⟨e, HR.out, HE0.out, rfl⟩⟩
    ·have X4 : Hid (w4.heap[G]? = some (.cells #[.slice none 0 0, .slice none 0 0] 54 (0, 0))) := (hg4.block G hsz2 (by simp)).trans X2.out
     have G4 := hid_intro (grown_trans G2.out hg4)
     have B4 := hid_intro (B2.out.keptN hg4)
     rw [hr] at HE
     simp only at HE
     have O4 := hid_intro (own_low ho (show G + 1 ≤ w3.heap.size by omega))
     have BK := hid_intro hbt
     have hsz4 : G < w4.heap.size := by have := hg4.size; omega
     clear hg4 hr ho hbt
     go_wp2_with fail
     refine (HSR.out _).mono ?_
     rintro en w5 ⟨hg5, ⟨e, hr, he, rfl⟩ | ⟨v, bo, d, hr, rfl, hbt, ho⟩⟩
     ·have X5 : Hid (w5.heap[G]? = some (.cells #[.slice none 0 0, .slice none 0 0] 54 (0, 0))) := (hg5.block G hsz4 (by simp)).trans X4.out
      have G5 := hid_intro (grown_trans G4.out hg5)
      have HR : Hid (R = .error e) := by show _ = _; rw [HE.out, hr]
      have d0 : w5.cell? ⟨G, 0, none⟩ = some (.slice none 0 0) := by rw [Lib.cell_of_heap X5.out]; rfl
      have d1 : w5.cell? ⟨G, 1, none⟩ = some (.slice none 0 0) := by rw [Lib.cell_of_heap X5.out]; rfl
      have f0 : w5.frozen? ⟨G, 0, none⟩ = false := Lib.frozen_of_heap X5.out 0
      have f1 : w5.frozen? ⟨G, 1, none⟩ = false := Lib.frozen_of_heap X5.out 1
      have k1 : (e == 0) = false := by rw [beq_eq_false_iff_ne]; exact he
      have k2 : (e != 0) = true := by simp only [bne, k1]; rfl
      have HE0 := hid_intro he
      clear hg5 hr he
      go_wp2
      obtain ⟨y1, y2⟩ := pair_putD X5.out (.slice none 0 0) (.slice none 0 0)
      refine bodyPost_ret (results_pairD rfl _ _ G _ _ rfl y1) rfl ?_
      exact ⟨grown_boxD G5.out y2 (by have := HGb.out; omega), .inl ⟨e, HR.out, HE0.out, rfl⟩⟩
     ·have X5 : Hid (w5.heap[G]? = some (.cells #[.slice none 0 0, .slice none 0 0] 54 (0, 0))) := (hg5.block G hsz4 (by simp)).trans X4.out
      have G5 := hid_intro (grown_trans G4.out hg5)
      have B5 := hid_intro (B4.out.keptN hg5)
      rw [hr] at HE
      simp only at HE
      have O5 := hid_intro (own_keptD O4.out hg5)
      have V5 := hid_intro (own_low ho (show G + 1 ≤ w4.heap.size by omega))
      have BV := hid_intro hbt
      have d0 : w5.cell? ⟨G, 0, none⟩ = some (.slice none 0 0) := by rw [Lib.cell_of_heap X5.out]; rfl
      have d1 : w5.cell? ⟨G, 1, none⟩ = some (.slice none 0 0) := by rw [Lib.cell_of_heap X5.out]; rfl
      have f0 : w5.frozen? ⟨G, 0, none⟩ = false := Lib.frozen_of_heap X5.out 0
      have f1 : w5.frozen? ⟨G, 1, none⟩ = false := Lib.frozen_of_heap X5.out 1
      obtain ⟨ao2, c2, e2, hbk⟩ := owns_any O5.out
      simp only [Value.slice.injEq] at e2
      obtain ⟨rfl, _, rfl⟩ := e2
      have HBK := hid_intro hbk
      have HBT := hid_intro bt
      obtain ⟨nk, hnk⟩ : ∃ nk, k.length = nk := ⟨_, rfl⟩
      obtain ⟨nv, hnv⟩ : ∃ nv, v.length = nv := ⟨_, rfl⟩
      rw [hnk] at HBK O5 ⊢
      rw [hnv] at V5 ⊢
      have HNK := hid_intro hnk
      have HNV := hid_intro hnv
      clear hg5 hr ho hbt hbk hnk hnv O4 HSL HSR HCU HCO
      go_wp2_with fail
      refine (behind_any _ ka nk kn _ kc k za _ HBK.out B5.out BK.out HBT.out).mono ?_
      rintro en w6 ⟨rfl, hw6⟩
      subst hw6
      by_cases hc : cmpZ k za ≤ 0
      ·rw [decide_eq_false (by omega)]
       have HR : Hid (R = .error 30) := by show _ = _; rw [HE.out, if_pos hc]
       clear hc
       go_wp2
       obtain ⟨y1, y2⟩ := pair_putD X5.out (.slice none 0 0) (.slice none 0 0)
       refine bodyPost_ret (results_pairD rfl _ _ G _ _ rfl y1) rfl ?_
       exact ⟨grown_boxD G5.out y2 (by have := HGb.out; omega), .inl ⟨30, HR.out, by decide, rfl⟩⟩
      ·rw [decide_eq_true (by omega)]
       have HR : Hid (R = .ok (k, v)) := by show _ = _; rw [HE.out, if_neg hc]
       clear hc
       go_wp2
       obtain ⟨y1, y2⟩ := pair_putD X5.out (.slice ao nk c) (.slice bo nv d)
       refine bodyPost_ret (results_pairD rfl _ _ G _ _ rfl y1) rfl ?_
       refine ⟨grown_boxD G5.out y2 (by have := HGb.out; omega), .inr ⟨k, v, ao, c, bo, d, HR.out, ?_, BK.out, BV.out, ?_, ?_⟩⟩
       ·rw [HNK.out, HNV.out]; rfl
       ·rw [HNK.out]; exact own_low (own_boxD O5.out y2 (Nat.lt_succ_self _)) (by have := HGb.out; omega)
       ·rw [HNV.out]; exact own_low (own_boxD V5.out y2 (Nat.lt_succ_self _)) (by have := HGb.out; omega)
theorem info_pairD : (Tryz.prog.info? 54).map (fun i => (i.zero, i.size, i.bytes)) = some (some (.agg #[.slice none 0 0, .slice none 0 0]), 2, 48) := by kernel_rfl
structure Pw (w : World) (xs : List Value) (l : List Pq) : Prop where
 len : xs.length = l.length * 2
 el : ∀ i p, l[i]? = some p → ∃ ao c bo d, xs[i * 2]? = some (.slice ao p.1.length c) ∧ xs[i * 2 + 1]? = some (.slice bo p.2.length d) ∧ w.ownsRow 0 5 1 (.slice ao p.1.length c) p.1.length (p.1.map (Value.int .u8)) ∧ w.ownsRow 0 5 1 (.slice bo p.2.length d) p.2.length (p.2.map (Value.int .u8)) ∧ Bt p.1 ∧ Bt p.2
theorem Pw.nil (w : World) : Pw w [] [] := ⟨rfl, fun i p h => by simp at h⟩
theorem Pw.keptN {w w' : World} {xs : List Value} {l : List Pq} (h : Pw w xs l) (hg : w.grownBy w' none) : Pw w' xs l :=
 ⟨h.len, fun i p hp => by
  obtain ⟨ao, c, bo, d, h1, h2, h3, h4, h5⟩ := h.el i p hp
  exact ⟨ao, c, bo, d, h1, h2, own_keptD h3 hg, own_keptD h4 hg, h5⟩⟩
theorem own_neD {w : World} {b1 b2 e1 e2 s1 s2 n1 n2 : Nat} {v1 v2 : Value} {x1 x2 : List Value} (h : w.ownsRow b1 e1 s1 v1 n1 x1) (k : w.ownsRow b2 e2 s2 v2 n2 x2) (hne : e1 ≠ e2) : v1.ownBlock = none ∨ v1.ownBlock ≠ v2.ownBlock := by
 rcases h.2 with ⟨h1, _⟩ | ⟨g, cap, cur, h1, _, h3, _⟩
 ·left; rw [h1]; rfl
 ·right
  rcases k.2 with ⟨k1, _⟩ | ⟨g', cap', cur', k1, _, k3, _⟩
  ·rw [h1, k1]; simp [Value.ownBlock]
  ·rw [h1, k1]
   simp only [Value.ownBlock, ne_eq, Option.some.injEq]
   intro e
   subst e
   rw [h3] at k3
   simp only [Option.some.injEq, Obj.cells.injEq] at k3
   exact hne k3.2.1
theorem Pw.app {w w' : World} {xs : List Value} {l : List Pq} {base n : Nat} {v : Value} {ys : List Value} (h : Pw w xs l) (ho : w.ownsRow base 54 2 v n ys) (hg : w.grownBy w' v.ownBlock) : Pw w' xs l :=
 ⟨h.len, fun i p hp => by
  obtain ⟨ao, c, bo, d, h1, h2, h3, h4, h5⟩ := h.el i p hp
  exact ⟨ao, c, bo, d, h1, h2, h3.kept hg (own_neD h3 ho (by decide)), h4.kept hg (own_neD h4 ho (by decide)), h5⟩⟩
theorem Pw.snoc {w : World} {xs : List Value} {l : List Pq} {p : Pq} {ao bo : Option Addr} {c d : Nat} (h : Pw w xs l) (h3 : w.ownsRow 0 5 1 (.slice ao p.1.length c) p.1.length (p.1.map (Value.int .u8))) (h4 : w.ownsRow 0 5 1 (.slice bo p.2.length d) p.2.length (p.2.map (Value.int .u8))) (hb : Bt p.1 ∧ Bt p.2) : Pw w (xs ++ [.slice ao p.1.length c, .slice bo p.2.length d]) (l ++ [p]) := by
 have hl := h.len
 refine ⟨by simp [hl]; omega, fun i q hq => ?_⟩
 by_cases hi : i < l.length
 ·rw [List.getElem?_append_left hi] at hq
  obtain ⟨ao', c', bo', d', h1, h2, h3', h4', h5⟩ := h.el i q hq
  exact ⟨ao', c', bo', d', by rw [List.getElem?_append_left (by omega)]; exact h1, by rw [List.getElem?_append_left (by omega)]; exact h2, h3', h4', h5⟩
 ·rw [List.getElem?_append_right (by omega)] at hq
  have hi2 : i - l.length = 0 := by
   cases hk : i - l.length with
   | zero => rfl
   | succ k => rw [hk] at hq; simp at hq
  rw [hi2] at hq
  simp only [List.getElem?_cons_zero, Option.some.injEq] at hq
  subst hq
  have hi3 : i = l.length := by omega
  subst hi3
  refine ⟨ao, c, bo, d, ?_, ?_, h3, h4, hb⟩
  ·rw [List.getElem?_append_right (by omega), hl, Nat.sub_self]; rfl
  ·rw [List.getElem?_append_right (by omega), hl, Nat.add_sub_cancel_left]; rfl
theorem byt_of_ownD {w : World} {base n c : Nat} {a : Option Addr} {zs : List Int} (h : w.ownsRow base 5 1 (.slice a n c) n (zs.map (Value.int .u8))) : Byt w a n c zs := by
 obtain ⟨a', c', e, hb⟩ := owns_any h
 simp only [Value.slice.injEq] at e
 obtain ⟨rfl, _, rfl⟩ := e
 exact hb
theorem Pw.pm {w : World} {xs : List Value} {l : List Pq} {base n : Nat} {a : Option Addr} {c : Nat} (h : Pw w xs l) (ho : w.ownsRow base 54 2 (.slice a n c) n xs) : Pm w a l ∧ l.length = n := by
 have hl := h.len
 have ho1 := ho.1
 have hn : l.length = n := by omega
 refine ⟨⟨fun i p hp => ?_⟩, hn⟩
 have hi := (List.getElem?_eq_some_iff.1 hp).1
 obtain ⟨ao, c1, bo, d1, h1, h2, h3, h4, h5, h6⟩ := h.el i p hp
 rcases ho.2 with ⟨_, e2⟩ | ⟨g, cap, cur, e1, _, e3, e4, e5, e6, e7⟩
 ·omega
 ·simp only [Value.slice.injEq] at e1
  obtain ⟨rfl, _, rfl⟩ := e1
  have hc : ∀ j u, xs[j]? = some u → w.cell? ⟨g, j, none⟩ = some u := by
   intro j u hu
   rw [cell_of_row w g j cur _ _ e3, ← Array.getElem?_toList]
   rw [← e7, List.getElem?_take] at hu
   split at hu
   ·exact hu
   ·cases hu
  exact ⟨g, 0, ao, c1, bo, d1, rfl, by rw [Nat.zero_add]; exact hc _ _ h1, by rw [Nat.zero_add]; exact hc _ _ h2, byt_of_ownD h3, h5, byt_of_ownD h4, h6⟩
def Pa.pre (l : List Pq) : Pa → Pa
 | .ok m => .ok (l ++ m)
 | .error (k, e) => .error (k, e)
theorem Pa.pre_nil (r : Pa) : r.pre [] = r := by cases r <;> rfl
theorem Pa.pre_cons (l : List Pq) (p : Pq) (r : Pa) : (r.cons p).pre l = r.pre (l ++ [p]) := by cases r <;> simp [Pa.pre, Pa.cons]
def PaP (w : World) (r : Pa) (en : Ending) (w' : World) : Prop := w.grownBy w' none ∧ ((∃ (k : Nat) (e : Int), r = .error (k, e) ∧ en = .returned (.tuple #[.slice none 0 0, .int .i64 (k : Nat), .int .i64 e])) ∨
 ∃ l a c xs, r = .ok l ∧ en = .returned (.tuple #[.slice a l.length c, .int .i64 0, .int .i64 0]) ∧ w'.ownsRow w.heap.size 54 2 (.slice a l.length c) l.length xs ∧ Pw w' xs l)
theorem cnt_le {t : List UInt8} {n : Nat} (h : cnt t = some n) : n ≤ 2147483647 := by
 unfold cnt at h
 split at h
 ·exact (dec_nb h).2
 ·cases h
theorem cell_two20 (w : World) (e : TypeId) (a b : Value) : ∀ j u, [a, b][j]? = some u → (w.alloc (.cells #[a, b] e)).drew.cell? ((⟨w.heap.size, 0, none⟩ : Addr).add j) = some u := fun j u h => cell_two_new w e a b j u h
theorem alloc_cell20 {w5 : World} {X : Nat} {x y : Value} (h : w5.heap[X]? = some (.cells #[x, y] 54 (0, 0))) (hl : X < w5.heap.size) (o : Obj) : (w5.alloc o).cell? ⟨X, 0, none⟩ = some x := by
 have h8 : (w5.alloc o).heap[X]? = some (.cells #[x, y] 54 (0, 0)) := (Below.heap_alloc w5 o X hl).trans h
 rw [Lib.cell_of_heap h8]; rfl
theorem box_cell20 {w5 w8 : World} {X : Nat} {x y : Value} {o : Obj} {v : Value} (h : w5.heap[X]? = some (.cells #[x, y] 54 (0, 0))) (hl : X < w5.heap.size) (hg : (w5.alloc o).grownBy w8 v.ownBlock) (hlt : ∀ g, v.ownBlock = some g → g < X) : w8.cell? ⟨X, 0, none⟩ = some x := by
 have h8 : w8.heap[X]? = some (.cells #[x, y] 54 (0, 0)) := by
  rw [hg.block X (by simp; omega) (fun e => by have := hlt X e.symm; omega), Below.heap_alloc w5 o X hl]
  exact h
 rw [Lib.cell_of_heap h8]; rfl
set_option maxHeartbeats 8000000 in
set_option maxRecDepth 100000 in
theorem parse_any (T : List UInt8) (w : World) (ht : T.length ≤ 2000000000) : Calls Tryz.prog 7 #[.string (tstr T)] w fun en w' => PaP w (prs T) en w' := by
 obtain ⟨ip, hip, hp0, hp1, hp2⟩ := info_parts info_pairD
 have HCU := hid_intro (cut_any 10 T w ht)
 obtain ⟨hl1, hl2⟩ := cua_len 10 T
 have HCN := hid_intro (fun W => count_any (cua 10 T) W (by omega))
 have HPR : Hid (prs T = match cutC 10 T with | none => .error (1, 200) | some p => match cnt p.1 with | none => .error (1, 200) | some n => pls n [] p.2 2) := by
  show _ = _
  unfold prs
  cases cutC 10 T <;> rfl
 cases hct : cutC 10 T with
 | none =>
  rw [hct] at HCU HPR
  simp only [Option.isSome_none] at HCU HPR
  generalize prs T = R at *
  generalize tstr (cua 10 T) = s1 at *
  generalize tstr (cub 10 T) = s2 at *
  generalize cnt (cua 10 T) = cn at *
  generalize tstr T = s at *
  go_enter Tryz.func7, Tryz.ntmps7
  go_wp2_with fail
  refine HCU.out.mono ?_
  rintro en w1 ⟨rfl, hq1⟩
  have Q1 := hid_intro (hq1.grown none)
  clear hq1
  go_wp2_with fail
  refine (HCN.out _).mono ?_
  rintro en w2 ⟨hg, ⟨hr, rfl⟩ | ⟨n, hr, rfl⟩⟩
  all_goals
   have HG := hid_intro (grown_trans Q1.out hg)
   clear hg hr
   go_wp2
   go_ret3
   exact ⟨HG.out, .inl ⟨1, 200, HPR.out, rfl⟩⟩
 | some q =>
  obtain ⟨ln, rs⟩ := q
  have e1 : cua 10 T = ln := by unfold cua; rw [hct]
  have e2 : cub 10 T = rs := by unfold cub; rw [hct]
  rw [hct] at HCU HPR
  simp only [Option.isSome_some] at HCU HPR
  rw [e1, e2] at HCU
  rw [e1] at HCN
  rw [e2] at hl2
  generalize prs T = R at *
  generalize tstr T = s at *
  clear e1 e2 hct hl1
  go_enter Tryz.func7, Tryz.ntmps7
  go_wp2_with fail
  refine HCU.out.mono ?_
  rintro en w1 ⟨rfl, hq1⟩
  have Q1 := hid_intro (hq1.grown none)
  clear hq1
  go_wp2_with fail
  refine (HCN.out _).mono ?_
  rintro en w2 ⟨hg, ⟨hr, rfl⟩ | ⟨n, hr, rfl⟩⟩
  ·have HG := hid_intro (grown_trans Q1.out hg)
   have HR : Hid (R = .error (1, 200)) := by show _ = _; rw [HPR.out, hr]
   clear hg hr HPR HCN HCU
   generalize tstr ln = s1 at *
   generalize tstr rs = s2 at *
   go_wp2
   go_ret3
   exact ⟨HG.out, .inl ⟨1, 200, HR.out, rfl⟩⟩
  ·have HG := hid_intro (grown_trans Q1.out hg)
   have HR : Hid (R = pls n [] rs 2) := by show _ = _; rw [HPR.out, hr]
   have hn := cnt_le hr
   clear hg hr HPR HCN HCU Q1
   generalize tstr ln = s1 at *
   go_wp2
   go_loopw [6, 7, 10, 11, 12, 13, 14, 15, 34] (fun s6 _ s10 s11 _ _ _ _ si wr => ∃ (i kn kc : Nat) (ka : Option Addr) (za : List Int) (Rl : List UInt8) (l : List Pq) (xs : List Value), i ≤ n ∧ si = .int .i64 (i : Nat) ∧ s6 = .string (tstr Rl) ∧ s11 = .slice ka kn kc ∧ Byt wr ka kn kc za ∧ Bt za ∧ l.length = i ∧ Rl.length ≤ T.length ∧ wr.ownsRow w.heap.size 54 2 s10 i xs ∧ Pw wr xs l ∧ w.grownBy wr none ∧ R = (pls (n - i) za Rl (i + 2)).pre l) (fun _ _ _ _ _ _ _ _ si _ => n - (intOf si).toNat)
   case atStart => exact ⟨0, 0, 0, none, [], rs, [], [], Nat.zero_le _, rfl, rfl, rfl, Byt.empty _, Bt.nil, rfl, hl2, ⟨rfl, .inl ⟨rfl, rfl⟩⟩, Pw.nil _, HG.out, by rw [Pa.pre_nil]; exact HR.out⟩
   case round =>
    obtain ⟨i, kn, kc, ka, za, Rl, l, xs, hi, rfl, rfl, rfl, hb, bt, hll, hrl, ho, hpw, hg, hR⟩ := hrel
    obtain ⟨so, sc, hso⟩ := own_shape20 ho
    subst hso
    have HB := hid_intro hb
    have HBT := hid_intro bt
    have HO := hid_intro ho
    have HPW := hid_intro hpw
    have HG2 := hid_intro hg
    have HR2 := hid_intro hR
    have HLL := hid_intro hll
    clear hb bt ho hpw hg hR HG HR hll
    by_cases hlt : i < n
    ·obtain ⟨m, hm⟩ : ∃ m, n - i = m + 1 := ⟨n - i - 1, by omega⟩
     rw [hm] at HR2
     have HM := hid_intro hm
     clear hm
     have HC2 := hid_intro (cut_any 10 Rl wr (by omega))
     cases hct : cutC 10 Rl with
     | none =>
      rw [hct] at HC2
      simp only [Option.isSome_none] at HC2
      have HR3 : Hid (R = .error ((i + 2), 200)) := by show _ = _; rw [HR2.out]; simp only [pls, hct]; rfl
      clear HR2 hct
      generalize tstr (cua 10 Rl) = s1 at *
      generalize tstr (cub 10 Rl) = s2 at *
      generalize tstr Rl = s3 at *
      go_wp2_with fail
      refine HC2.out.mono ?_
      rintro en w3 ⟨rfl, hq3⟩
      have G3 := hid_intro (grown_trans HG2.out (hq3.grown none))
      clear hq3
      go_wp2
      go_ret3
      exact ⟨G3.out, .inl ⟨i + 2, 200, HR3.out, by simp⟩⟩
     | some q =>
      obtain ⟨lx, rx⟩ := q
      have e1 : cua 10 Rl = lx := by unfold cua; rw [hct]
      have e2 : cub 10 Rl = rx := by unfold cub; rw [hct]
      obtain ⟨hx1, hx2⟩ := cua_len 10 Rl
      rw [hct, e1, e2] at HC2
      rw [e1] at hx1
      rw [e2] at hx2
      simp only [Option.isSome_some] at HC2
      have HR3 : Hid (R = Pa.pre l (match pp za lx with | .error e => Except.error (i + 2, e) | .ok p => (pls m p.1 rx (i + 2 + 1)).cons p)) := by show _ = _; rw [HR2.out]; simp only [pls, hct]; rfl
      have HPP := hid_intro (fun W hb => parsePair_any lx ka kn kc za W hb HBT.out (by omega))
      clear HR2 hct e1 e2
      generalize tstr lx = s1 at *
      generalize tstr Rl = s3 at *
      go_wp2_with fail
      refine HC2.out.mono ?_
      rintro en w3 ⟨rfl, hq3⟩
      have G3 := hid_intro (grown_trans HG2.out (hq3.grown none))
      have Q3 := hid_intro hq3
      clear hq3
      go_wp2_with fail
      refine (HPP.out w3 (HB.out.heap Q3.out.heap)).mono ?_
      rintro en w4 ⟨hg4, ⟨e, hr, he, rfl⟩ | ⟨k, v, ao, c, bo, d, hr, rfl, bk, bv, ok, ov⟩⟩
      ·have HR4 : Hid (R = .error ((i + 2), e)) := by show _ = _; rw [HR3.out, hr]; rfl
       have G4 := hid_intro (grown_trans G3.out hg4)
       have G5 := hid_intro (grown_trans G4.out (World.grownBy_alloc w4 (.cells #[.slice none 0 0, .slice none 0 0] 54) none))
       have k1 : (e == 0) = false := by rw [beq_eq_false_iff_ne]; exact he
       have k2 : (e != 0) = true := by simp only [bne, k1]; rfl
       clear hg4 hr HR3 he HPP
       go_wp2
       go_ret3
       exact ⟨G5.out, .inl ⟨i + 2, e, HR4.out, by simp⟩⟩
      ·have HR4 : Hid (R = (pls m k rx (i + 2 + 1)).pre (l ++ [(k, v)])) := by
        show _ = _
        rw [HR3.out, hr]
        exact Pa.pre_cons _ _ _
       have g14 : w.grownBy w4 none := grown_trans G3.out hg4
       have ga := World.grownBy_alloc w4 (.cells #[.slice ao k.length c, .slice bo v.length d] 54) none
       have g34 : wr.grownBy (w4.alloc (.cells #[.slice ao k.length c, .slice bo v.length d] 54)) none := grown_trans (grown_trans (Q3.out.grown none) hg4) ga
       have hxb : (w4.alloc (.cells #[.slice ao k.length c, .slice bo v.length d] 54)).heap[w4.heap.size]? = some (.cells #[.slice ao k.length c, .slice bo v.length d] 54 (0, 0)) := heap_alloc_new w4 _
       have HXB := hid_intro hxb
       have G5 := hid_intro (grown_trans g14 ga)
       have O5 := hid_intro (own_keptD HO.out g34)
       have P5 := hid_intro (HPW.out.keptN g34)
       have OK5 := hid_intro (own_low (own_keptD ok ga) (Nat.zero_le _))
       have OV5 := hid_intro (own_low (own_keptD ov ga) (Nat.zero_le _))
       have hlt4 : ∀ g, (Value.slice so i sc).ownBlock = some g → g < w4.heap.size := fun g hgg => by
        have := (HO.out.lt g hgg).2
        have := (grown_trans (Q3.out.grown none) hg4).size
        omega
       have HLT := hid_intro hlt4
       have x0 : (w4.alloc (.cells #[.slice ao k.length c, .slice bo v.length d] 54)).cell? ⟨w4.heap.size, 0, none⟩ = some (.slice ao k.length c) := by rw [Lib.cell_of_heap hxb]; rfl
       have x1 : (w4.alloc (.cells #[.slice ao k.length c, .slice bo v.length d] 54)).cell? ⟨w4.heap.size, 1, none⟩ = some (.slice bo v.length d) := by rw [Lib.cell_of_heap hxb]; rfl
       have BK := hid_intro bk
       have BV := hid_intro bv
       have hs5 := G5.out.size
       obtain ⟨nk, hnk⟩ : ∃ nk, k.length = nk := ⟨_, rfl⟩
       obtain ⟨nv, hnv⟩ : ∃ nv, v.length = nv := ⟨_, rfl⟩
       have HNK := hid_intro hnk
       have HNV := hid_intro hnv
       rw [hnk, hnv] at x0 x1 O5 P5 OK5 OV5 HXB G5 hs5 ⊢
       clear hg4 hr HR3 HPP g14 ga g34 hxb ok ov hlt4 hnk hnv bk bv HC2 HO HPW HB
       go_upto_region 15 with fail
       generalize w4.alloc (.cells #[.slice ao nk c, .slice bo nv d] 54) = w5 at *
       generalize w4.heap.size = X at *
       have HXL : Hid (X < w5.heap.size) := (Array.getElem?_eq_some_iff.1 HXB.out).1
       have HAP : Hid (∀ W : World, W.heap = w5.heap → (W.alloc (.cells #[.slice ao nk c, .slice bo nv d] 54)).ownsRow w.heap.size 54 2 (.slice so i sc) i xs) := fun W hW => (own_same20 O5.out hW).alloc _
       have xa0 : ∀ o, (w5.alloc o).cell? ⟨X, 0, none⟩ = some (.slice ao nk c) := fun o => (alloc_cell20 HXB.out HXL.out o)
       go_upto_region 17 with fail
       go_region_law (refine step_append20 rfl (.tmp 58) (.tmp 60) 22 (by rfl) w.heap.size 54 ip (.agg #[.slice none 0 0, .slice none 0 0]) 2 48 Tryz.underlying22 hip hp0 hp1 hp2 rfl (by decide) (.slice so i sc) i xs (by rfl) (by exact HAP.out _ rfl) ⟨w5.heap.size, 0, none⟩ 1 1 [.slice ao nk c, .slice bo nv d] (by rfl) rfl (by exact cell_two20 _ _ _ _) (by intro u hu; simp at hu; rcases hu with rfl | rfl <;> rfl) (by unfold maxLen; omega) (by omega) (by simp; omega) ?_; intro v8 w8 ho8 hg8; obtain ⟨va, vc, hv8⟩ := own_shape20 ho8; subst hv8; have O8 := hid_intro ho8; have G8 := hid_intro (grown_undrew hg8); have T8 := box_cell20 HXB.out HXL.out G8.out HLT.out; clear ho8 hg8)
       all_goals
        go_wp2
        go_roundw
        case rel =>
         have gb := World.grownBy_alloc w5 (.cells #[.slice ao nk c, .slice bo nv d] 54) none
         have oa := own_keptD O5.out gb
         have ok8 := (own_keptD OK5.out gb).kept G8.out (own_neD (own_keptD OK5.out gb) oa (by decide))
         have ov8 := (own_keptD OV5.out gb).kept G8.out (own_neD (own_keptD OV5.out gb) oa (by decide))
         have p8 := (P5.out.keptN gb).app oa G8.out
         have ps := p8.snoc (p := (k, v)) (by rw [HNK.out]; exact ok8) (by rw [HNV.out]; exact ov8) ⟨BK.out, BV.out⟩
         simp only [HNK.out, HNV.out] at ps
         have gg := grown_app20 G5.out O5.out (Nat.le_refl _) G8.out
         have hlen := HLL.out
         exact ⟨i + 1, nk, c, ao, k, rx, l ++ [(k, v)], _, by omega, by go_num, rfl, rfl, byt_of_ownD ok8, BK.out, by rw [List.length_append]; simp; omega, by omega, O8.out, ps, gg, by have hh := HR4.out; rw [show n - (i + 1) = m by have := HM.out; omega]; exact hh⟩
        case measure => simp [intOf]; omega
    ·obtain rfl : i = n := by omega
     have HR3 : Hid (R = (if Rl = [] then Except.ok l else .error ((i + 2), 200))) := by
      show _ = _
      rw [HR2.out, Nat.sub_self]
      simp only [pls]
      by_cases h0 : Rl = []
      ·rw [if_pos h0, if_pos h0]; simp [Pa.pre]
      ·rw [if_neg h0, if_neg h0]; rfl
     have hnl := str_nil Rl
     by_cases h0 : Rl = []
     ·rw [decide_eq_true h0] at hnl
      rw [if_pos h0] at HR3
      clear h0 HR2
      generalize tstr Rl = s3 at *
      go_wp2
      go_ret3
      refine ⟨HG2.out, .inr ⟨l, so, sc, xs, HR3.out, ?_, ?_, HPW.out⟩⟩
      ·rw [HLL.out]; rfl
      ·rw [HLL.out]; exact HO.out
     ·rw [decide_eq_false h0] at hnl
      rw [if_neg h0] at HR3
      clear h0 HR2
      generalize tstr Rl = s3 at *
      go_wp2
      go_ret3
      exact ⟨HG2.out, .inl ⟨i + 2, 200, HR3.out, by simp⟩⟩
set_option maxHeartbeats 400000 in
set_option maxRecDepth 100000 in
theorem num20 (n : Int) (w : World) : Calls Tryz.prog 9 #[.int .i64 n] w fun en w' => en = .returned (.int .i64 n) ∧ w' = w := by
 go_enter Tryz.func9, Tryz.ntmps9
 go_wp2
 go_ret
 exact ⟨rfl, rfl⟩
theorem same20 (ao bo : Option Addr) (n m c d : Nat) (za zb : List Int) (w : World) (ha : Byt w ao n c za) (hb : Byt w bo m d zb) (ba : Bt za) (bb : Bt zb) :
  Calls Tryz.prog 41 #[.slice ao n c, .slice bo m d] w fun en w' => en = .returned (.bool (decide (za = zb))) ∧ w' = w := by
 by_cases e : za = zb
 ·rw [decide_eq_true e]; exact same_yes ao bo n m c d za zb w ha hb e
 ·rw [decide_eq_false e]; exact same_no ao bo n m c d za zb w ha hb ba bb e
set_option maxHeartbeats 1000000 in
set_option maxRecDepth 100000 in
theorem samePair20 (a1 b1 a2 b2 : Option Addr) (n1 m1 n2 m2 c1 d1 c2 d2 : Nat) (k1 v1 k2 v2 : List Int) (w : World) (h1 : Byt w a1 n1 c1 k1) (h2 : Byt w b1 m1 d1 v1) (h3 : Byt w a2 n2 c2 k2) (h4 : Byt w b2 m2 d2 v2) (t1 : Bt k1) (t2 : Bt v1) (t3 : Bt k2) (t4 : Bt v2) :
  Calls Tryz.prog 22 #[.agg #[.slice a1 n1 c1, .slice b1 m1 d1], .agg #[.slice a2 n2 c2, .slice b2 m2 d2]] w fun en w' => en = .returned (.bool (decide (k1 = k2) && decide (v1 = v2))) ∧ w.grownBy w' none := by
 have ga := World.grownBy_alloc w (.cells #[.slice a1 n1 c1, .slice b1 m1 d1] 54) none
 have gb := grown_trans ga (World.grownBy_alloc (w.alloc (.cells #[.slice a1 n1 c1, .slice b1 m1 d1] 54)) (.cells #[.slice a2 n2 c2, .slice b2 m2 d2] 54) none)
 have HG := hid_intro gb
 have HC1 := hid_intro (same20 a1 a2 n1 n2 c1 c2 k1 k2 _ (h1.keptN gb) (h3.keptN gb) t1 t3)
 have HC2 := hid_intro (same20 b1 b2 m1 m2 d1 d2 v1 v2 _ (h2.keptN gb) (h4.keptN gb) t2 t4)
 clear h1 h2 h3 h4 ga gb t1 t2 t3 t4
 generalize decide (k1 = k2) = f1 at *
 generalize decide (v1 = v2) = f2 at *
 cases f1
 all_goals
  go_enter Tryz.func22, Tryz.ntmps22
  go_wp2_with fail
  refine HC1.out.mono ?_
  rintro en w2 ⟨rfl, hw2⟩
  subst hw2
  go_wp2_with fail
  refine HC2.out.mono ?_
  rintro en w3 ⟨rfl, hw3⟩
  subst hw3
  go_wp2
  go_ret
  exact ⟨rfl, HG.out⟩
theorem same_drop {l m : List Pq} {i : Nat} {p q : Pq} (hp : l[i]? = some p) (hq : m[i]? = some q) (hl : l.length = m.length) (h : l.take i = m.take i) : (l = m ↔ p = q ∧ l.drop (i + 1) = m.drop (i + 1)) := by
 obtain ⟨h1, e1⟩ := List.getElem?_eq_some_iff.1 hp
 obtain ⟨h2, e2⟩ := List.getElem?_eq_some_iff.1 hq
 constructor
 ·intro e
  subst e
  rw [hp] at hq
  exact ⟨Option.some.inj hq, rfl⟩
 ·rintro ⟨e3, e4⟩
  have a := List.take_append_drop i l
  have b := List.take_append_drop i m
  rw [List.drop_eq_getElem_cons h1, e1] at a
  rw [List.drop_eq_getElem_cons h2, e2] at b
  rw [← a, ← b, h, e3, e4]
set_option maxHeartbeats 4000000 in
set_option maxRecDepth 100000 in
theorem samePairs20 (a b : Option Addr) (n m c d : Nat) (l k : List Pq) (w : World) (hl : Pm w a l) (hk : Pm w b k) (hn : l.length = n) (hm : k.length = m) (h0 : n ≤ 2000000000) (h1 : m ≤ 2000000000) :
  Calls Tryz.prog 8 #[.slice a n c, .slice b m d] w fun en w' => en = .returned (.bool (decide (l = k))) ∧ w.grownBy w' none := by
 have HL := hid_intro hl
 have HK := hid_intro hk
 have HN := hid_intro hn
 have HM := hid_intro hm
 clear hl hk hn hm
 by_cases hne : n = m
 ·subst hne
  have g0 : ((n : Int) == (n : Int)) = true := by simp
  go_enter Tryz.func8, Tryz.ntmps8
  go_wp2
  go_loopw [5, 6] (fun si _ wr => ∃ i : Nat, i ≤ n ∧ si = .int .i64 (i : Nat) ∧ w.grownBy wr none ∧ l.take i = k.take i) (fun si _ _ => n - (intOf si).toNat)
  case atStart => exact ⟨0, Nat.zero_le _, rfl, World.grownBy.refl _ _, rfl⟩
  case round =>
   obtain ⟨i, hi, rfl, hg, htk⟩ := hrel
   have HG := hid_intro hg
   have HTK := hid_intro htk
   clear hg htk
   by_cases hlt : i < n
   ·obtain ⟨p, hp⟩ : ∃ p, l[i]? = some p := ⟨_, List.getElem?_eq_getElem (by have := HN.out; omega)⟩
    obtain ⟨q, hq⟩ : ∃ q, k[i]? = some q := ⟨_, List.getElem?_eq_getElem (by have := HM.out; omega)⟩
    have HSD := hid_intro (same_drop hp hq (HN.out.trans HM.out.symm) HTK.out)
    have HTS : Hid (p = q → l.take (i + 1) = k.take (i + 1)) := fun e => by
     obtain ⟨h1, e1⟩ := List.getElem?_eq_some_iff.1 hp
     obtain ⟨h2, e2⟩ := List.getElem?_eq_some_iff.1 hq
     rw [List.take_succ_eq_append_getElem h1, List.take_succ_eq_append_getElem h2, HTK.out, e1, e2, e]
    obtain ⟨b1, off1, ao1, c1, bo1, d1, rfl, q1, q2, q3, q4, q5, q6⟩ := HL.out.el i p hp
    obtain ⟨b2, off2, ao2, c2, bo2, d2, rfl, r1, r2, r3, r4, r5, r6⟩ := HK.out.el i q hq
    obtain ⟨k1, v1⟩ := p
    obtain ⟨k2, v2⟩ := q
    simp only at q1 q2 q3 q4 q5 q6 r1 r2 r3 r4 r5 r6
    have HSP : Hid (∀ W : World, W.heap = wr.heap → Calls Tryz.prog 22 #[.agg #[.slice ao1 k1.length c1, .slice bo1 v1.length d1], .agg #[.slice ao2 k2.length c2, .slice bo2 v2.length d2]] W fun en w' => en = .returned (.bool (decide (k1 = k2) && decide (v1 = v2))) ∧ W.grownBy w' none) := fun W hW => samePair20 ao1 bo1 ao2 bo2 _ _ _ _ c1 d1 c2 d2 k1 v1 k2 v2 W ((q3.keptN HG.out).heap hW) ((q5.keptN HG.out).heap hW) ((r3.keptN HG.out).heap hW) ((r5.keptN HG.out).heap hW) q4 q6 r4 r6
    have x1 := HG.out.cell q1 (by simp)
    have x2 := HG.out.cell q2 (by simp)
    have y1 := HG.out.cell r1 (by simp)
    have y2 := HG.out.cell r2 (by simp)
    have HPQ : Hid ((k1, v1) = (k2, v2) ↔ (decide (k1 = k2) && decide (v1 = v2)) = true) := by
     show _ ↔ _
     simp
    clear q1 q2 q3 q4 q5 q6 r1 r2 r3 r4 r5 r6 hp hq
    generalize k1.length = n1 at *
    generalize v1.length = m1 at *
    generalize k2.length = n2 at *
    generalize v2.length = m2 at *
    generalize (decide (k1 = k2) && decide (v1 = v2)) = f at *
    have g1 : (0 : Int) ≤ (i : Int) := by omega
    have g2 : (i : Int) < (n : Int) := by omega
    go_upto_region 6 with fail
    go_region_with ((go_at_call 22; refine (HSP.out wr.drew rfl).mono ?_; rintro en w3 ⟨rfl, hg3⟩; have G3 := hid_intro (grown_trans HG.out (grown_undrew hg3)); clear hg3))
    all_goals
     cases f with
     | false =>
      have HF : Hid (decide (l = k) = false) := decide_eq_false (fun e => by have := HPQ.out.1 (HSD.out.1 e).1; cases this)
      go_wp2
      go_ret
      exact ⟨by rw [HF.out]; rfl, G3.out⟩
     | true =>
      go_wp2
      go_roundw
      case rel => exact ⟨i + 1, by omega, by go_num, G3.out, HTS.out (HPQ.out.2 rfl)⟩
      case measure => simp [intOf]; omega
   ·obtain rfl : i = n := by omega
    have HE : Hid (decide (l = k) = true) := decide_eq_true (by
     have := HTK.out
     rw [List.take_of_length_le (by rw [HN.out]; exact Nat.le_refl _), List.take_of_length_le (by rw [HM.out]; exact Nat.le_refl _)] at this
     exact this)
    go_wp2
    go_ret
    exact ⟨by rw [HE.out]; rfl, HG.out⟩
 ·have HF : Hid (decide (l = k) = false) := decide_eq_false (fun e => by subst e; exact hne (HN.out.symm.trans HM.out))
  have g0 : ((n : Int) == (m : Int)) = false := by rw [beq_eq_false_iff_ne]; omega
  have g1 : (n == m) = false := by rw [beq_eq_false_iff_ne]; exact hne
  go_enter Tryz.func8, Tryz.ntmps8
  go_wp2
  go_ret
  exact ⟨by rw [HF.out]; rfl, World.grownBy.refl _ _⟩
def exl : List Pq := [([97], [1]), ([98], [])]
theorem dec2 : Lib.decDigits 2 = [50] := by rw [dec_small (by decide)]; rfl
theorem ex_txt : txt exl = [99, 111, 112, 112, 105, 99, 101, 32, 50, 10, 54, 49, 32, 48, 49, 10, 54, 50, 32, 45, 10] := by
 have hj : jdg [] exl = 0 := by decide
 unfold txt
 rw [if_pos hj]
 show (ttl ++ Lib.decDigits 2) ++ 10 :: exl.flatMap lne = _
 rw [dec2]; decide
theorem ex_jdg : jdg [] exl = 0 := by decide
theorem ex_prs : prs [99, 111, 112, 112, 105, 99, 101, 32, 50, 10, 54, 49, 32, 48, 49, 10, 54, 50, 32, 45, 10] = .ok exl := by
 have h := prs_tx (l := exl) ex_jdg (by intro p hp; simp [exl] at hp; rcases hp with rfl | rfl <;> exact ⟨by intro z hz; simp at hz; omega, by intro z hz; simp at hz; try omega⟩) (by decide)
 have e : tx exl = txt exl := by unfold txt; rw [if_pos ex_jdg]
 rw [e, ex_txt] at h
 exact h
theorem ex_bad : prs [99, 111, 112, 112, 105, 99, 101, 32, 49, 10, 54, 49, 32, 32, 48, 49, 10] = .error (2, 200) := by
 have h1 : cutC 10 [99, 111, 112, 112, 105, 99, 101, 32, 49, 10, 54, 49, 32, 32, 48, 49, 10] = some ([99, 111, 112, 112, 105, 99, 101, 32, 49], [54, 49, 32, 32, 48, 49, 10]) := by decide
 have h2 : cnt [99, 111, 112, 112, 105, 99, 101, 32, 49] = some 1 := by decide
 have h3 : pls 1 [] [54, 49, 32, 32, 48, 49, 10] 2 = .error (2, 200) := by
  have h4 : cutC 10 [54, 49, 32, 32, 48, 49, 10] = some ([54, 49, 32, 32, 48, 49], []) := by decide
  have h5 : cutC 32 [54, 49, 32, 32, 48, 49] = some ([54, 49], [32, 48, 49]) := by decide
  simp only [pls, h4, pp, h5]
  rw [if_pos (by decide)]
 unfold prs
 rw [h1]
 simp only
 rw [h2]
 exact h3
theorem ex_u1 : uh [48, 65] = none := by decide
theorem ex_u2 : uh [48, 48, 102, 102] = some [0, 255] := by decide
theorem ex_h : hx [10] = [48, 97] := by decide
def Ris20 (xs : List Value) : Prop := ∀ (a b : Nat) (u v : Value) (g h : Nat), a < b → xs[a]? = some u → xs[b]? = some v → u.ownBlock = some g → v.ownBlock = some h → g < h
def Bd20 (B H : Nat) (xs : List Value) : Prop := ∀ u ∈ xs, ∀ g, u.ownBlock = some g → B ≤ g ∧ g < H
theorem Ris20.nil : Ris20 [] := fun a b u v g h _ h1 => by simp at h1
theorem Bd20.nil (B H : Nat) : Bd20 B H [] := fun u hu => by simp at hu
theorem Bd20.up {B H H' : Nat} {xs : List Value} (h : Bd20 B H xs) (hh : H ≤ H') : Bd20 B H' xs := fun u hu g hg => by have := h u hu g hg; omega
theorem Bd20.snoc {B H H' : Nat} {xs : List Value} {u v : Value} (h : Bd20 B H xs) (hh : H ≤ H') (hu : ∀ g, u.ownBlock = some g → B ≤ g ∧ g < H') (hv : ∀ g, v.ownBlock = some g → B ≤ g ∧ g < H') : Bd20 B H' (xs ++ [u, v]) := by
 intro x hx g hg
 rw [List.mem_append] at hx
 rcases hx with hx | hx
 ·have := h x hx g hg; omega
 ·simp at hx
  rcases hx with rfl | rfl
  ·exact hu g hg
  ·exact hv g hg
theorem Ris20.snoc {B H : Nat} {xs : List Value} {u v : Value} (h : Ris20 xs) (hb : Bd20 B H xs) (hu : ∀ g, u.ownBlock = some g → H ≤ g) (hv : ∀ g, v.ownBlock = some g → H ≤ g) (huv : ∀ b d, u.ownBlock = some b → v.ownBlock = some d → b < d) : Ris20 (xs ++ [u, v]) := by
 intro a b x y g k hab hx hy hg hk
 have hbl := (List.getElem?_eq_some_iff.1 hy).1
 simp at hbl
 by_cases h1 : b < xs.length
 ·rw [List.getElem?_append_left h1] at hy
  rw [List.getElem?_append_left (by omega)] at hx
  exact h a b x y g k hab hx hy hg hk
 ·rw [List.getElem?_append_right (by omega)] at hy
  by_cases h2 : a < xs.length
  ·rw [List.getElem?_append_left h2] at hx
   have h3 := (hb x (List.mem_of_getElem? hx) g hg).2
   rcases (show b - xs.length = 0 ∨ b - xs.length = 1 by omega) with e | e
   ·rw [e] at hy; simp at hy; subst hy; have := hu k hk; omega
   ·rw [e] at hy; simp at hy; subst hy; have := hv k hk; omega
  ·rw [List.getElem?_append_right (by omega)] at hx
   have e1 : a - xs.length = 0 := by omega
   have e2 : b - xs.length = 1 := by omega
   rw [e1] at hx
   rw [e2] at hy
   simp at hx hy
   subst hx hy
   exact huv g k hg hk
theorem size_alloc20 (w : World) (o : Obj) : (w.alloc o).heap.size = w.heap.size + 1 := by simp
def PpQ (w : World) (r : Rs Pq) (en : Ending) (w' : World) : Prop := w.grownBy w' none ∧ ((∃ e : Int, r = .error e ∧ e ≠ 0 ∧ en = .returned (.tuple #[.agg #[.slice none 0 0, .slice none 0 0], .int .i64 e])) ∨
 ∃ k v ao c bo d, r = .ok (k, v) ∧ en = .returned (.tuple #[.agg #[.slice ao k.length c, .slice bo v.length d], .int .i64 0]) ∧ Bt k ∧ Bt v ∧ w'.ownsRow w.heap.size 5 1 (.slice ao k.length c) k.length (k.map (Value.int .u8)) ∧ w'.ownsRow w.heap.size 5 1 (.slice bo v.length d) v.length (v.map (Value.int .u8)) ∧ ∀ b' d', (Value.slice ao k.length c).ownBlock = some b' → (Value.slice bo v.length d).ownBlock = some d' → b' < d')
def PaQ (w : World) (r : Pa) (en : Ending) (w' : World) : Prop := w.grownBy w' none ∧ ((∃ (k : Nat) (e : Int), r = .error (k, e) ∧ en = .returned (.tuple #[.slice none 0 0, .int .i64 (k : Nat), .int .i64 e])) ∨
 ∃ l a c xs, r = .ok l ∧ en = .returned (.tuple #[.slice a l.length c, .int .i64 0, .int .i64 0]) ∧ w'.ownsRow w.heap.size 54 2 (.slice a l.length c) l.length xs ∧ Pw w' xs l ∧ Ris20 xs ∧ Bd20 w.heap.size w'.heap.size xs)
set_option maxHeartbeats 8000000 in
set_option maxRecDepth 100000 in
theorem parsePair_own (line : List UInt8) (ka : Option Addr) (kn kc : Nat) (za : List Int) (w : World) (hb : Byt w ka kn kc za) (bt : Bt za) (ht : line.length ≤ 2000000000) :
  Calls Tryz.prog 21 #[.string (tstr line), .slice ka kn kc] w fun en w' => PpQ w (pp za line) en w' := by
 have HE := hid_intro (pp_eq za line)
 obtain ⟨hl1, hl2⟩ := cua_len 32 line
 have g1 := World.grownBy_alloc w (.cells #[.slice none 0 0, .slice none 0 0] 54) none
 have x1 : (w.alloc (.cells #[.slice none 0 0, .slice none 0 0] 54)).heap[w.heap.size]? = some (.cells #[.slice none 0 0, .slice none 0 0] 54 (0, 0)) := heap_alloc_new w _
 have HB := hid_intro (hb.keptN g1)
 have HCU := hid_intro (fun W => cut_any 32 line W ht)
 have HSL := hid_intro (fun W => sized_any (cua 32 line) 1 255 W (by omega))
 have HSR := hid_intro (fun W => sized_any (cub 32 line) 0 262144 W (by omega))
 have hA := str_nil (cua 32 line)
 have hBn := str_nil (cub 32 line)
 have HCO := hid_intro (fun W => contains_one_call (tstr (cub 32 line)) 32 W)
 have hco : decide (0 ≤ Lib.indexByte (tstr (cub 32 line)).data.toList 32) = decide (32 ∈ cub 32 line) := by
  rw [tstr_data, ixb_cut]
  cases hc : cutC 32 (cub 32 line) with
  | none => rw [decide_eq_false (cutC_none.1 hc)]; rfl
  | some q =>
   have := (cutC_some (a := q.1) (b := q.2) hc).1
   rw [decide_eq_true (show (32 : UInt8) ∈ cub 32 line by rw [this]; simp), decide_eq_true (by simp only; omega)]
 rw [hco] at HCO
 generalize pp za line = R at *
 generalize (cutC 32 line).isSome = f at *
 generalize tstr line = s at *
 generalize hsl : tstr (cua 32 line) = sl at *
 generalize hsr : tstr (cub 32 line) = sr at *
 generalize szd (cua 32 line) 1 255 = RL at *
 generalize szd (cub 32 line) 0 262144 = RR at *
 generalize cua 32 line = L at *
 generalize cub 32 line = Rr at *
 have HX1 := hid_intro x1
 have HG1 := hid_intro g1
 have hsz : w.heap.size < (w.alloc (.cells #[.slice none 0 0, .slice none 0 0] 54)).heap.size := by simp
 clear hsl hsr hco hb x1 g1 hl1 hl2 ht
 go_enter Tryz.func21, Tryz.ntmps21
 go_upto_region 1 with fail
 generalize w.alloc (.cells #[.slice none 0 0, .slice none 0 0] 54) = w1 at *
 generalize hGb : w.heap.size = G at *
 have HGb := hid_intro hGb
 clear hGb
 go_wp2_with fail
 refine (HCU.out w1).mono ?_
 rintro en w2 ⟨rfl, hq2⟩
 have X2 : Hid (w2.heap[G]? = some (.cells #[.slice none 0 0, .slice none 0 0] 54 (0, 0))) := by rw [hq2.heap]; exact HX1.out
 have G2 := hid_intro (grown_trans HG1.out (hq2.grown none))
 have B2 := hid_intro (HB.out.heap hq2.heap)
 have hsz2 : G < w2.heap.size := by rw [hq2.heap]; exact hsz
 have d0 : w2.cell? ⟨G, 0, none⟩ = some (.slice none 0 0) := by rw [Lib.cell_of_heap X2.out]; rfl
 have d1 : w2.cell? ⟨G, 1, none⟩ = some (.slice none 0 0) := by rw [Lib.cell_of_heap X2.out]; rfl
 have f0 : w2.frozen? ⟨G, 0, none⟩ = false := Lib.frozen_of_heap X2.out 0
 have f1 : w2.frozen? ⟨G, 1, none⟩ = false := Lib.frozen_of_heap X2.out 1
 clear hq2 HX1 HG1 HB hsz
 by_cases hL : L = []
 ·rw [decide_eq_true hL] at hA
  have HR : Hid (R = .error 200) := by show _ = _; rw [HE.out, if_pos (.inl hL)]
  clear hL
  go_wp2
  obtain ⟨y1, y2⟩ := pair_putD X2.out (.slice none 0 0) (.slice none 0 0)
  refine bodyPost_ret (results_pairD rfl _ _ G _ _ rfl y1) rfl ?_
  exact ⟨grown_boxD G2.out y2 (by have := HGb.out; omega), .inl ⟨200, HR.out, by decide, rfl⟩⟩
 ·rw [decide_eq_false hL] at hA
  by_cases hRn : Rr = []
  ·rw [decide_eq_true hRn] at hBn
   have HR : Hid (R = .error 200) := by show _ = _; rw [HE.out, if_pos (.inr (.inl hRn))]
   clear hL hRn
   go_wp2
   obtain ⟨y1, y2⟩ := pair_putD X2.out (.slice none 0 0) (.slice none 0 0)
   refine bodyPost_ret (results_pairD rfl _ _ G _ _ rfl y1) rfl ?_
   exact ⟨grown_boxD G2.out y2 (by have := HGb.out; omega), .inl ⟨200, HR.out, by decide, rfl⟩⟩
  ·rw [decide_eq_false hRn] at hBn
   by_cases hS : 32 ∈ Rr
   ·rw [decide_eq_true hS] at HCO
    have HR : Hid (R = .error 200) := by show _ = _; rw [HE.out, if_pos (.inr (.inr hS))]
    clear hL hRn hS
    go_wp2_with fail
    refine (HCO.out _).mono ?_
    rintro en w3 ⟨rfl, hw3⟩
    subst hw3
    go_wp2
    obtain ⟨y1, y2⟩ := pair_putD X2.out (.slice none 0 0) (.slice none 0 0)
    refine bodyPost_ret (results_pairD rfl _ _ G _ _ rfl y1) rfl ?_
    exact ⟨grown_boxD G2.out y2 (by have := HGb.out; omega), .inl ⟨200, HR.out, by decide, rfl⟩⟩
   ·rw [decide_eq_false hS] at HCO
    rw [if_neg (by simp only [not_or]; exact ⟨hL, hRn, hS⟩)] at HE
    clear hL hRn hS
    go_wp2_with fail
    refine (HCO.out _).mono ?_
    rintro en w3 ⟨rfl, hw3⟩
    subst hw3
    clear d0 d1 f0 f1
    go_wp2_with fail
    refine (HSL.out _).mono ?_
    rintro en w4 ⟨hg4, ⟨e, hr, he, rfl⟩ | ⟨k, ao, c, hr, rfl, hbt, ho⟩⟩
    ·have X4 : Hid (w4.heap[G]? = some (.cells #[.slice none 0 0, .slice none 0 0] 54 (0, 0))) := (hg4.block G hsz2 (by simp)).trans X2.out
     have G4 := hid_intro (grown_trans G2.out hg4)
     have HR : Hid (R = .error e) := by show _ = _; rw [HE.out, hr]
     have d0 : w4.cell? ⟨G, 0, none⟩ = some (.slice none 0 0) := by rw [Lib.cell_of_heap X4.out]; rfl
     have d1 : w4.cell? ⟨G, 1, none⟩ = some (.slice none 0 0) := by rw [Lib.cell_of_heap X4.out]; rfl
     have f0 : w4.frozen? ⟨G, 0, none⟩ = false := Lib.frozen_of_heap X4.out 0
     have f1 : w4.frozen? ⟨G, 1, none⟩ = false := Lib.frozen_of_heap X4.out 1
     have k1 : (e == 0) = false := by rw [beq_eq_false_iff_ne]; exact he
     have k2 : (e != 0) = true := by simp only [bne, k1]; rfl
     have HE0 := hid_intro he
     clear hg4 hr he
     go_wp2
     obtain ⟨y1, y2⟩ := pair_putD X4.out (.slice none 0 0) (.slice none 0 0)
     refine bodyPost_ret (results_pairD rfl _ _ G _ _ rfl y1) rfl ?_
     exact ⟨grown_boxD G4.out y2 (by have := HGb.out; omega), .inl ⟨e, HR.out, HE0.out, rfl⟩⟩
    ·have X4 : Hid (w4.heap[G]? = some (.cells #[.slice none 0 0, .slice none 0 0] 54 (0, 0))) := (hg4.block G hsz2 (by simp)).trans X2.out
     have G4 := hid_intro (grown_trans G2.out hg4)
     have B4 := hid_intro (B2.out.keptN hg4)
     rw [hr] at HE
     simp only at HE
     have O4 := hid_intro (own_low ho (show G + 1 ≤ w3.heap.size by omega))
     have BK := hid_intro hbt
     have hsz4 : G < w4.heap.size := by have := hg4.size; omega
     clear hg4 hr ho hbt
     go_wp2_with fail
     refine (HSR.out _).mono ?_
     rintro en w5 ⟨hg5, ⟨e, hr, he, rfl⟩ | ⟨v, bo, d, hr, rfl, hbt, ho⟩⟩
     ·have X5 : Hid (w5.heap[G]? = some (.cells #[.slice none 0 0, .slice none 0 0] 54 (0, 0))) := (hg5.block G hsz4 (by simp)).trans X4.out
      have G5 := hid_intro (grown_trans G4.out hg5)
      have HR : Hid (R = .error e) := by show _ = _; rw [HE.out, hr]
      have d0 : w5.cell? ⟨G, 0, none⟩ = some (.slice none 0 0) := by rw [Lib.cell_of_heap X5.out]; rfl
      have d1 : w5.cell? ⟨G, 1, none⟩ = some (.slice none 0 0) := by rw [Lib.cell_of_heap X5.out]; rfl
      have f0 : w5.frozen? ⟨G, 0, none⟩ = false := Lib.frozen_of_heap X5.out 0
      have f1 : w5.frozen? ⟨G, 1, none⟩ = false := Lib.frozen_of_heap X5.out 1
      have k1 : (e == 0) = false := by rw [beq_eq_false_iff_ne]; exact he
      have k2 : (e != 0) = true := by simp only [bne, k1]; rfl
      have HE0 := hid_intro he
      clear hg5 hr he
      go_wp2
      obtain ⟨y1, y2⟩ := pair_putD X5.out (.slice none 0 0) (.slice none 0 0)
      refine bodyPost_ret (results_pairD rfl _ _ G _ _ rfl y1) rfl ?_
      exact ⟨grown_boxD G5.out y2 (by have := HGb.out; omega), .inl ⟨e, HR.out, HE0.out, rfl⟩⟩
     ·have X5 : Hid (w5.heap[G]? = some (.cells #[.slice none 0 0, .slice none 0 0] 54 (0, 0))) := (hg5.block G hsz4 (by simp)).trans X4.out
      have G5 := hid_intro (grown_trans G4.out hg5)
      have B5 := hid_intro (B4.out.keptN hg5)
      rw [hr] at HE
      simp only at HE
      have O5 := hid_intro (own_keptD O4.out hg5)
      have V5 := hid_intro (own_low ho (show G + 1 ≤ w4.heap.size by omega))
      have BV := hid_intro hbt
      have d0 : w5.cell? ⟨G, 0, none⟩ = some (.slice none 0 0) := by rw [Lib.cell_of_heap X5.out]; rfl
      have d1 : w5.cell? ⟨G, 1, none⟩ = some (.slice none 0 0) := by rw [Lib.cell_of_heap X5.out]; rfl
      have f0 : w5.frozen? ⟨G, 0, none⟩ = false := Lib.frozen_of_heap X5.out 0
      have f1 : w5.frozen? ⟨G, 1, none⟩ = false := Lib.frozen_of_heap X5.out 1
      obtain ⟨ao2, c2, e2, hbk⟩ := owns_any O5.out
      simp only [Value.slice.injEq] at e2
      obtain ⟨rfl, _, rfl⟩ := e2
      have HBK := hid_intro hbk
      have HBT := hid_intro bt
      obtain ⟨nk, hnk⟩ : ∃ nk, k.length = nk := ⟨_, rfl⟩
      obtain ⟨nv, hnv⟩ : ∃ nv, v.length = nv := ⟨_, rfl⟩
      rw [hnk] at HBK O5 ⊢
      rw [hnv] at V5 ⊢
      have HNK := hid_intro hnk
      have HNV := hid_intro hnv
      have HKV : Hid (∀ b' d', (Value.slice ao k.length c).ownBlock = some b' → (Value.slice bo v.length d).ownBlock = some d' → b' < d') := fun b' d' h1 h2 => by
       have a1 := (O4.out.lt b' h1).2
       have a2 := (ho.lt d' h2).1
       omega
      clear hg5 hr ho hbt hbk hnk hnv O4 HSL HSR HCU HCO
      go_wp2_with fail
      refine (behind_any _ ka nk kn _ kc k za _ HBK.out B5.out BK.out HBT.out).mono ?_
      rintro en w6 ⟨rfl, hw6⟩
      subst hw6
      by_cases hc : cmpZ k za ≤ 0
      ·rw [decide_eq_false (by omega)]
       have HR : Hid (R = .error 30) := by show _ = _; rw [HE.out, if_pos hc]
       clear hc
       go_wp2
       obtain ⟨y1, y2⟩ := pair_putD X5.out (.slice none 0 0) (.slice none 0 0)
       refine bodyPost_ret (results_pairD rfl _ _ G _ _ rfl y1) rfl ?_
       exact ⟨grown_boxD G5.out y2 (by have := HGb.out; omega), .inl ⟨30, HR.out, by decide, rfl⟩⟩
      ·rw [decide_eq_true (by omega)]
       have HR : Hid (R = .ok (k, v)) := by show _ = _; rw [HE.out, if_neg hc]
       clear hc
       go_wp2
       obtain ⟨y1, y2⟩ := pair_putD X5.out (.slice ao nk c) (.slice bo nv d)
       refine bodyPost_ret (results_pairD rfl _ _ G _ _ rfl y1) rfl ?_
       refine ⟨grown_boxD G5.out y2 (by have := HGb.out; omega), .inr ⟨k, v, ao, c, bo, d, HR.out, ?_, BK.out, BV.out, ?_, ?_, HKV.out⟩⟩
       ·rw [HNK.out, HNV.out]; rfl
       ·rw [HNK.out]; exact own_low (own_boxD O5.out y2 (Nat.lt_succ_self _)) (by have := HGb.out; omega)
       ·rw [HNV.out]; exact own_low (own_boxD V5.out y2 (Nat.lt_succ_self _)) (by have := HGb.out; omega)
set_option maxHeartbeats 8000000 in
set_option maxRecDepth 100000 in
theorem parse_own (T : List UInt8) (w : World) (ht : T.length ≤ 2000000000) : Calls Tryz.prog 7 #[.string (tstr T)] w fun en w' => PaQ w (prs T) en w' := by
 obtain ⟨ip, hip, hp0, hp1, hp2⟩ := info_parts info_pairD
 have HCU := hid_intro (cut_any 10 T w ht)
 obtain ⟨hl1, hl2⟩ := cua_len 10 T
 have HCN := hid_intro (fun W => count_any (cua 10 T) W (by omega))
 have HPR : Hid (prs T = match cutC 10 T with | none => .error (1, 200) | some p => match cnt p.1 with | none => .error (1, 200) | some n => pls n [] p.2 2) := by
  show _ = _
  unfold prs
  cases cutC 10 T <;> rfl
 cases hct : cutC 10 T with
 | none =>
  rw [hct] at HCU HPR
  simp only [Option.isSome_none] at HCU HPR
  generalize prs T = R at *
  generalize tstr (cua 10 T) = s1 at *
  generalize tstr (cub 10 T) = s2 at *
  generalize cnt (cua 10 T) = cn at *
  generalize tstr T = s at *
  go_enter Tryz.func7, Tryz.ntmps7
  go_wp2_with fail
  refine HCU.out.mono ?_
  rintro en w1 ⟨rfl, hq1⟩
  have Q1 := hid_intro (hq1.grown none)
  clear hq1
  go_wp2_with fail
  refine (HCN.out _).mono ?_
  rintro en w2 ⟨hg, ⟨hr, rfl⟩ | ⟨n, hr, rfl⟩⟩
  all_goals
   have HG := hid_intro (grown_trans Q1.out hg)
   clear hg hr
   go_wp2
   go_ret3
   exact ⟨HG.out, .inl ⟨1, 200, HPR.out, rfl⟩⟩
 | some q =>
  obtain ⟨ln, rs⟩ := q
  have e1 : cua 10 T = ln := by unfold cua; rw [hct]
  have e2 : cub 10 T = rs := by unfold cub; rw [hct]
  rw [hct] at HCU HPR
  simp only [Option.isSome_some] at HCU HPR
  rw [e1, e2] at HCU
  rw [e1] at HCN
  rw [e2] at hl2
  generalize prs T = R at *
  generalize tstr T = s at *
  clear e1 e2 hct hl1
  go_enter Tryz.func7, Tryz.ntmps7
  go_wp2_with fail
  refine HCU.out.mono ?_
  rintro en w1 ⟨rfl, hq1⟩
  have Q1 := hid_intro (hq1.grown none)
  clear hq1
  go_wp2_with fail
  refine (HCN.out _).mono ?_
  rintro en w2 ⟨hg, ⟨hr, rfl⟩ | ⟨n, hr, rfl⟩⟩
  ·have HG := hid_intro (grown_trans Q1.out hg)
   have HR : Hid (R = .error (1, 200)) := by show _ = _; rw [HPR.out, hr]
   clear hg hr HPR HCN HCU
   generalize tstr ln = s1 at *
   generalize tstr rs = s2 at *
   go_wp2
   go_ret3
   exact ⟨HG.out, .inl ⟨1, 200, HR.out, rfl⟩⟩
  ·have HG := hid_intro (grown_trans Q1.out hg)
   have HR : Hid (R = pls n [] rs 2) := by show _ = _; rw [HPR.out, hr]
   have hn := cnt_le hr
   clear hg hr HPR HCN HCU Q1
   generalize tstr ln = s1 at *
   go_wp2
   go_loopw [6, 7, 10, 11, 12, 13, 14, 15, 34] (fun s6 _ s10 s11 _ _ _ _ si wr => ∃ (i kn kc : Nat) (ka : Option Addr) (za : List Int) (Rl : List UInt8) (l : List Pq) (xs : List Value), i ≤ n ∧ si = .int .i64 (i : Nat) ∧ s6 = .string (tstr Rl) ∧ s11 = .slice ka kn kc ∧ Byt wr ka kn kc za ∧ Bt za ∧ l.length = i ∧ Rl.length ≤ T.length ∧ wr.ownsRow w.heap.size 54 2 s10 i xs ∧ Pw wr xs l ∧ Ris20 xs ∧ Bd20 w.heap.size wr.heap.size xs ∧ w.grownBy wr none ∧ R = (pls (n - i) za Rl (i + 2)).pre l) (fun _ _ _ _ _ _ _ _ si _ => n - (intOf si).toNat)
   case atStart => exact ⟨0, 0, 0, none, [], rs, [], [], Nat.zero_le _, rfl, rfl, rfl, Byt.empty _, Bt.nil, rfl, hl2, ⟨rfl, .inl ⟨rfl, rfl⟩⟩, Pw.nil _, Ris20.nil, Bd20.nil _ _, HG.out, by rw [Pa.pre_nil]; exact HR.out⟩
   case round =>
    obtain ⟨i, kn, kc, ka, za, Rl, l, xs, hi, rfl, rfl, rfl, hb, bt, hll, hrl, ho, hpw, hri, hbd, hg, hR⟩ := hrel
    obtain ⟨so, sc, hso⟩ := own_shape20 ho
    subst hso
    have HB := hid_intro hb
    have HBT := hid_intro bt
    have HO := hid_intro ho
    have HPW := hid_intro hpw
    have HRI := hid_intro hri
    have HBB := hid_intro hbd
    have HG2 := hid_intro hg
    have HR2 := hid_intro hR
    have HLL := hid_intro hll
    clear hb bt ho hpw hri hbd hg hR HG HR hll
    by_cases hlt : i < n
    ·obtain ⟨m, hm⟩ : ∃ m, n - i = m + 1 := ⟨n - i - 1, by omega⟩
     rw [hm] at HR2
     have HM := hid_intro hm
     clear hm
     have HC2 := hid_intro (cut_any 10 Rl wr (by omega))
     cases hct : cutC 10 Rl with
     | none =>
      rw [hct] at HC2
      simp only [Option.isSome_none] at HC2
      have HR3 : Hid (R = .error ((i + 2), 200)) := by show _ = _; rw [HR2.out]; simp only [pls, hct]; rfl
      clear HR2 hct
      generalize tstr (cua 10 Rl) = s1 at *
      generalize tstr (cub 10 Rl) = s2 at *
      generalize tstr Rl = s3 at *
      go_wp2_with fail
      refine HC2.out.mono ?_
      rintro en w3 ⟨rfl, hq3⟩
      have G3 := hid_intro (grown_trans HG2.out (hq3.grown none))
      clear hq3
      go_wp2
      go_ret3
      exact ⟨G3.out, .inl ⟨i + 2, 200, HR3.out, by simp⟩⟩
     | some q =>
      obtain ⟨lx, rx⟩ := q
      have e1 : cua 10 Rl = lx := by unfold cua; rw [hct]
      have e2 : cub 10 Rl = rx := by unfold cub; rw [hct]
      obtain ⟨hx1, hx2⟩ := cua_len 10 Rl
      rw [hct, e1, e2] at HC2
      rw [e1] at hx1
      rw [e2] at hx2
      simp only [Option.isSome_some] at HC2
      have HR3 : Hid (R = Pa.pre l (match pp za lx with | .error e => Except.error (i + 2, e) | .ok p => (pls m p.1 rx (i + 2 + 1)).cons p)) := by show _ = _; rw [HR2.out]; simp only [pls, hct]; rfl
      have HPP := hid_intro (fun W hb => parsePair_own lx ka kn kc za W hb HBT.out (by omega))
      clear HR2 hct e1 e2
      generalize tstr lx = s1 at *
      generalize tstr Rl = s3 at *
      go_wp2_with fail
      refine HC2.out.mono ?_
      rintro en w3 ⟨rfl, hq3⟩
      have G3 := hid_intro (grown_trans HG2.out (hq3.grown none))
      have Q3 := hid_intro hq3
      clear hq3
      go_wp2_with fail
      refine (HPP.out w3 (HB.out.heap Q3.out.heap)).mono ?_
      rintro en w4 ⟨hg4, ⟨e, hr, he, rfl⟩ | ⟨k, v, ao, c, bo, d, hr, rfl, bk, bv, ok, ov, hkv⟩⟩
      ·have HR4 : Hid (R = .error ((i + 2), e)) := by show _ = _; rw [HR3.out, hr]; rfl
       have G4 := hid_intro (grown_trans G3.out hg4)
       have G5 := hid_intro (grown_trans G4.out (World.grownBy_alloc w4 (.cells #[.slice none 0 0, .slice none 0 0] 54) none))
       have k1 : (e == 0) = false := by rw [beq_eq_false_iff_ne]; exact he
       have k2 : (e != 0) = true := by simp only [bne, k1]; rfl
       clear hg4 hr HR3 he HPP
       go_wp2
       go_ret3
       exact ⟨G5.out, .inl ⟨i + 2, e, HR4.out, by simp⟩⟩
      ·have HR4 : Hid (R = (pls m k rx (i + 2 + 1)).pre (l ++ [(k, v)])) := by
        show _ = _
        rw [HR3.out, hr]
        exact Pa.pre_cons _ _ _
       have g14 : w.grownBy w4 none := grown_trans G3.out hg4
       have ga := World.grownBy_alloc w4 (.cells #[.slice ao k.length c, .slice bo v.length d] 54) none
       have g34 : wr.grownBy (w4.alloc (.cells #[.slice ao k.length c, .slice bo v.length d] 54)) none := grown_trans (grown_trans (Q3.out.grown none) hg4) ga
       have hxb : (w4.alloc (.cells #[.slice ao k.length c, .slice bo v.length d] 54)).heap[w4.heap.size]? = some (.cells #[.slice ao k.length c, .slice bo v.length d] 54 (0, 0)) := heap_alloc_new w4 _
       have HXB := hid_intro hxb
       have G5 := hid_intro (grown_trans g14 ga)
       have O5 := hid_intro (own_keptD HO.out g34)
       have P5 := hid_intro (HPW.out.keptN g34)
       have OK5 := hid_intro (own_low (own_keptD ok ga) (Nat.zero_le _))
       have OV5 := hid_intro (own_low (own_keptD ov ga) (Nat.zero_le _))
       have hw3 : wr.heap.size = w3.heap.size := by rw [Q3.out.heap]
       have hwl : w.heap.size ≤ wr.heap.size := HG2.out.size
       have RI5 := hid_intro (HRI.out.snoc HBB.out (u := .slice ao k.length c) (v := .slice bo v.length d) (fun g hgg => by have := (ok.lt g hgg).1; omega) (fun g hgg => by have := (ov.lt g hgg).1; omega) hkv)
       have BD5 := hid_intro (HBB.out.snoc (H' := w4.heap.size) (u := .slice ao k.length c) (v := .slice bo v.length d) (by have := (grown_trans (Q3.out.grown none) hg4).size; omega) (fun g hgg => by have := ok.lt g hgg; omega) (fun g hgg => by have := ov.lt g hgg; omega))
       clear hw3 hwl
       have hlt4 : ∀ g, (Value.slice so i sc).ownBlock = some g → g < w4.heap.size := fun g hgg => by
        have := (HO.out.lt g hgg).2
        have := (grown_trans (Q3.out.grown none) hg4).size
        omega
       have HLT := hid_intro hlt4
       have x0 : (w4.alloc (.cells #[.slice ao k.length c, .slice bo v.length d] 54)).cell? ⟨w4.heap.size, 0, none⟩ = some (.slice ao k.length c) := by rw [Lib.cell_of_heap hxb]; rfl
       have x1 : (w4.alloc (.cells #[.slice ao k.length c, .slice bo v.length d] 54)).cell? ⟨w4.heap.size, 1, none⟩ = some (.slice bo v.length d) := by rw [Lib.cell_of_heap hxb]; rfl
       have BK := hid_intro bk
       have BV := hid_intro bv
       have hs5 := G5.out.size
       obtain ⟨nk, hnk⟩ : ∃ nk, k.length = nk := ⟨_, rfl⟩
       obtain ⟨nv, hnv⟩ : ∃ nv, v.length = nv := ⟨_, rfl⟩
       have HNK := hid_intro hnk
       have HNV := hid_intro hnv
       rw [hnk, hnv] at RI5 BD5 x0 x1 O5 P5 OK5 OV5 HXB G5 hs5 ⊢
       clear hg4 hr HR3 HPP g14 ga g34 hxb ok ov hlt4 hnk hnv bk bv hkv HC2 HO HPW HB HRI HBB
       go_upto_region 15 with fail
       generalize w4.alloc (.cells #[.slice ao nk c, .slice bo nv d] 54) = w5 at *
       generalize w4.heap.size = X at *
       have HXL : Hid (X < w5.heap.size) := (Array.getElem?_eq_some_iff.1 HXB.out).1
       have HAP : Hid (∀ W : World, W.heap = w5.heap → (W.alloc (.cells #[.slice ao nk c, .slice bo nv d] 54)).ownsRow w.heap.size 54 2 (.slice so i sc) i xs) := fun W hW => (own_same20 O5.out hW).alloc _
       have xa0 : ∀ o, (w5.alloc o).cell? ⟨X, 0, none⟩ = some (.slice ao nk c) := fun o => (alloc_cell20 HXB.out HXL.out o)
       go_upto_region 17 with fail
       go_region_law (refine step_append20 rfl (.tmp 58) (.tmp 60) 22 (by rfl) w.heap.size 54 ip (.agg #[.slice none 0 0, .slice none 0 0]) 2 48 Tryz.underlying22 hip hp0 hp1 hp2 rfl (by decide) (.slice so i sc) i xs (by rfl) (by exact HAP.out _ rfl) ⟨w5.heap.size, 0, none⟩ 1 1 [.slice ao nk c, .slice bo nv d] (by rfl) rfl (by exact cell_two20 _ _ _ _) (by intro u hu; simp at hu; rcases hu with rfl | rfl <;> rfl) (by unfold maxLen; omega) (by omega) (by simp; omega) ?_; intro v8 w8 ho8 hg8; obtain ⟨va, vc, hv8⟩ := own_shape20 ho8; subst hv8; have O8 := hid_intro ho8; have G8 := hid_intro (grown_undrew hg8); have T8 := box_cell20 HXB.out HXL.out G8.out HLT.out; clear ho8 hg8)
       all_goals
        go_wp2
        go_roundw
        case rel =>
         have gb := World.grownBy_alloc w5 (.cells #[.slice ao nk c, .slice bo nv d] 54) none
         have oa := own_keptD O5.out gb
         have ok8 := (own_keptD OK5.out gb).kept G8.out (own_neD (own_keptD OK5.out gb) oa (by decide))
         have ov8 := (own_keptD OV5.out gb).kept G8.out (own_neD (own_keptD OV5.out gb) oa (by decide))
         have p8 := (P5.out.keptN gb).app oa G8.out
         have ps := p8.snoc (p := (k, v)) (by rw [HNK.out]; exact ok8) (by rw [HNV.out]; exact ov8) ⟨BK.out, BV.out⟩
         simp only [HNK.out, HNV.out] at ps
         have gg := grown_app20 G5.out O5.out (Nat.le_refl _) G8.out
         have hlen := HLL.out
         exact ⟨i + 1, nk, c, ao, k, rx, l ++ [(k, v)], _, by omega, by go_num, rfl, rfl, byt_of_ownD ok8, BK.out, by rw [List.length_append]; simp; omega, by omega, O8.out, ps, RI5.out, BD5.out.up (by have a1 := HXL.out; have a2 := G8.out.size; simp only [size_alloc20] at a2; omega), gg, by have hh := HR4.out; rw [show n - (i + 1) = m by have := HM.out; omega]; exact hh⟩
        case measure => simp [intOf]; omega
    ·obtain rfl : i = n := by omega
     have HR3 : Hid (R = (if Rl = [] then Except.ok l else .error ((i + 2), 200))) := by
      show _ = _
      rw [HR2.out, Nat.sub_self]
      simp only [pls]
      by_cases h0 : Rl = []
      ·rw [if_pos h0, if_pos h0]; simp [Pa.pre]
      ·rw [if_neg h0, if_neg h0]; rfl
     have hnl := str_nil Rl
     by_cases h0 : Rl = []
     ·rw [decide_eq_true h0] at hnl
      rw [if_pos h0] at HR3
      clear h0 HR2
      generalize tstr Rl = s3 at *
      go_wp2
      go_ret3
      refine ⟨HG2.out, .inr ⟨l, so, sc, xs, HR3.out, ?_, ?_, HPW.out, HRI.out, HBB.out⟩⟩
      ·rw [HLL.out]; rfl
      ·rw [HLL.out]; exact HO.out
     ·rw [decide_eq_false h0] at hnl
      rw [if_neg h0] at HR3
      clear h0 HR2
      generalize tstr Rl = s3 at *
      go_wp2
      go_ret3
      exact ⟨HG2.out, .inl ⟨i + 2, 200, HR3.out, by simp⟩⟩
end Go.Proofs.YthodgddoolbenaaGreatDoor
