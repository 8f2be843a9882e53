import Derived.Test.YtlhjociijkhimaaGreatDoorKeys4
import Derived.Test.YtlhjociijkhimaaGreatDoorLeafP
import Derived.Test.YtlhjociijkhimaaGreatDoorLeafO
import Derived.Laws.CopyOwn
import Derived.Deep.RegionLaw
namespace Go.Proofs.YtlhjociijkhimaaGreatDoor
open Go.RowKit

/-- The block g holds just the bytes zs. -/
def Rw (w : World) (g : Nat) (zs : List Int) : Prop := w.heap[g]? = some (.cells (zs.map (Value.int .u8)).toArray 5 (0, 0))
theorem Rw.lt {w : World} {g : Nat} {zs : List Int} (h : Rw w g zs) : g < w.heap.size := (Array.getElem?_eq_some_iff.1 h).1
theorem Rw.cell {w : World} {g : Nat} {zs : List Int} (h : Rw w g zs) (i : Nat) (hi : i < zs.length) : w.cell? ⟨g, i, none⟩ = some (.int .u8 (zs.getD i 0)) := by
  rw [cell_of_row w g i _ _ (0, 0) h]
  simp [List.getD, List.getElem?_eq_getElem hi]
theorem Rw.byt {w : World} {g : Nat} {zs : List Int} (h : Rw w g zs) (off n cap : Nat) (hn : off + n ≤ zs.length) : Byt w (some ⟨g, off, none⟩) n cap ((zs.drop off).take n) := by
  refine Byt.of_cells (by rw [List.length_take, List.length_drop]; omega) fun i hi => ?_
  rw [h.cell (off + i) (by omega)]
  simp [List.getD, hi]
theorem Rw.all {w : World} {g : Nat} {zs : List Int} (h : Rw w g zs) (n cap : Nat) (hn : n = zs.length) : Byt w (some ⟨g, 0, none⟩) n cap zs := by
  have := h.byt 0 n cap (by omega)
  rwa [List.drop_zero, List.take_of_length_le (by omega)] at this
theorem Rw.kept {w w' : World} {row : Option Nat} {g : Nat} {zs : List Int} (h : Rw w g zs) (hg : w.grownBy w' row) (hne : some g ≠ row) : Rw w' g zs := (hg.block g h.lt hne).trans h
theorem Rw.keptN {w w' : World} {g : Nat} {zs : List Int} (h : Rw w g zs) (hg : w.grownBy w' none) : Rw w' g zs := h.kept hg (by simp)
theorem Rw.of_owns {w : World} {base g n : Nat} {zs : List Int} (h : w.ownsRow base 5 1 (.slice (some ⟨g, 0, none⟩) n n) n (zs.map (Value.int .u8))) : Rw w g zs := by
  rcases h with ⟨hl, ⟨h0, _⟩ | ⟨g', cap, cur, hv, _, hg, _, _, hs, ht⟩⟩
  · cases h0
  · injection hv with e1 e2 e3
    injection e1 with e1
    injection e1 with e4
    subst e4 e3
    have : cur.toList = zs.map (Value.int .u8) := by
      rw [← ht, List.take_of_length_le (by simp [hs])]
    unfold Rw
    rw [hg, ← this]
theorem made (n : Nat) : (madeCells #[Value.int .u8 0] n).toList = (List.replicate n (0 : Int)).map (Value.int .u8) := by
  refine List.ext_getElem (by simp [madeCells]) fun i h1 h2 => ?_
  simp [madeCells, Nat.mod_one]
/-- One row is written on, nothing else. -/
structure Ro (w w' : World) (g : Nat) (xs : List Value) : Prop where
  row : w'.heap[g]? = some (.cells xs.toArray 5 (0, 0))
  oth : ∀ k, k ≠ g → w'.heap[k]? = w.heap[k]?
  size : w'.heap.size = w.heap.size
  os : w'.os = w.os
  tape : w'.tape = w.tape
  output : w'.output = w.output
theorem Ro.cell {w w' : World} {g : Nat} {xs : List Value} (h : Ro w w' g xs) (R i : Nat) (hR : R ≠ g) : w'.cell? ⟨R, i, none⟩ = w.cell? ⟨R, i, none⟩ := World.cell?_of_block (h.oth R hR)
theorem Ro.grown {w w' : World} {g : Nat} {xs : List Value} (h : Ro w w' g xs) : w.grownBy w' (some g) :=
  ⟨h.os, h.tape, h.output, by rw [h.size]; exact Nat.le_refl _, fun k _ hne => h.oth k (fun e => hne (by rw [e]))⟩
theorem step_copy_ro {ops : Array Oper} {o : Oper} {a : Act} {w : World} {K : Act → World → Prop} {Q : Exit → Act → World → Prop} {E : Prop} (hgd : o.guard = none) (d s : Operand)
    (ho : o.op = .call { callee := .builtin .copy, args := #[d, s], argTypes := #[41, 41] })
    (dp sp : Option Addr) (dLen dCap sLen sCap : Nat) (hd : a.eval d = .slice dp dLen dCap) (hs : a.eval s = .slice sp sLen sCap)
    (g off : Nat) (cur : List Value) (hg : w.heap[g]? = some (.cells cur.toArray 5 (0, 0))) (cs : List Value) (hn : cs.length = Nat.min sLen dLen)
    (hpos : 0 < cs.length → dp = some ⟨g, off, none⟩ ∧ ∃ ad, sp = some ad ∧ ∀ j v, cs[j]? = some v → w.cell? (ad.add j) = some v)
    (hfit : off + cs.length ≤ cur.length) (h1 : ∀ v ∈ cs, v.oneCell' = true) (k : Nat) (hk : cs.length = k)
    (h : ∀ w', Ro w w' g (splice cur off cs) → K (a.put o.dst (.int .i64 (k : Int))) w') :
    if Region.wanted o (yielded ops a.tmps) = true then Oper.wp Tryz.prog o a w K Q else E := by
  obtain ⟨i0, hi, hz0, hz1, hz2⟩ := info_parts info_u8
  have hsz : (Tryz.prog.info? 5).map (·.size) = some 1 := by rw [hi]; exact congrArg some hz1
  have hw : Region.wanted o (yielded ops a.tmps) = true := by simp [Region.wanted, hgd]
  rw [if_pos hw]
  subst hk
  by_cases h0 : cs.length = 0
  · obtain rfl : cs = [] := List.eq_nil_of_length_eq_zero h0
    have hrun := run_copy_none (P := Tryz.prog) w 41 41 o.type 5 dp sp dLen dCap sLen sCap Tryz.underlying41 hsz (by simpa using hn.symm)
    unfold Oper.wp
    simp [execOp, ho, resolve, invoke, builtin, hd, hs, hrun, Result.andThen]
    exact h w ⟨by simpa [splice] using hg, fun _ _ => rfl, rfl, rfl, rfl, rfl⟩
  · obtain ⟨rfl, ad, rfl, hsrc⟩ := hpos (by omega)
    have hrun := run_copy_row (P := Tryz.prog) w 41 41 o.type 5 g off dLen dCap ad sLen sCap cur.toArray 5 cs Tryz.underlying41 hsz hg hn hsrc (by simpa using hfit) h1
    unfold Oper.wp
    simp [execOp, ho, resolve, invoke, builtin, hd, hs, hrun, Result.andThen]
    exact h _ ⟨by simpa [splice] using setRow_heap w g _ _ _ _ hg, fun k hk => setRow_other w g k _ hk, by simp [World.setRow], rfl, rfl, rfl⟩
/-- What a writer leaves as it was: all but its box and the body. -/
structure Two (w w' : World) (R G : Nat) : Prop where
  os : w'.os = w.os
  tape : w'.tape = w.tape
  output : w'.output = w.output
  size : w.heap.size ≤ w'.heap.size
  block : ∀ k, k < w.heap.size → k ≠ R → k ≠ G → w'.heap[k]? = w.heap[k]?
theorem Two.of_grown {w w' : World} {R G : Nat} (h : w.grownBy w' none) : Two w w' R G := ⟨h.os, h.tape, h.output, h.size, fun k hk _ _ => h.block k hk (by simp)⟩
theorem Two.trans {a b c : World} {R G : Nat} (h : Two a b R G) (k : Two b c R G) : Two a c R G :=
  ⟨k.os.trans h.os, k.tape.trans h.tape, k.output.trans h.output, Nat.le_trans h.size k.size, fun i hi h1 h2 => (k.block i (Nat.lt_of_lt_of_le hi h.size) h1 h2).trans (h.block i hi h1 h2)⟩
theorem Two.grown {w0 w w' : World} {R G : Nat} (h : Two w w' R G) (hg : w0.grownBy w none) (h1 : w0.heap.size ≤ R) (h2 : w0.heap.size ≤ G) : w0.grownBy w' none :=
  ⟨h.os.trans hg.os, h.tape.trans hg.tape, h.output.trans hg.output, Nat.le_trans hg.size h.size, fun k hk _ => (h.block k (Nat.lt_of_lt_of_le hk hg.size) (by omega) (by omega)).trans (hg.block k hk (by simp))⟩
theorem splice_map (cs zs : List Int) (p : Nat) : splice (cs.map (Value.int .u8)) p (zs.map (Value.int .u8)) = (splice cs p zs).map (Value.int .u8) := by
  simp [splice]
/-! ### Splices in a row: a writer that goes on -/

/-- The body so far: what was laid up to p, and what is behind q on. -/
theorem splice_len {cs zs : List Int} {p : Nat} (h : p + zs.length ≤ cs.length) : (splice cs p zs).length = cs.length := length_splice cs p zs h
theorem splice_nil (cs : List Int) (p : Nat) : splice cs p [] = cs := by simp [splice]
theorem splice_two {cs xs ys : List Int} {p : Nat} (h : p + xs.length + ys.length ≤ cs.length) : splice (splice cs p xs) (p + xs.length) ys = splice cs p (xs ++ ys) := by
  unfold splice
  have e1 : (cs.take p ++ (xs ++ cs.drop (p + xs.length))).take (p + xs.length) = cs.take p ++ xs := by
    rw [← List.append_assoc, List.take_left' (by simp; omega)]
  have e2 : (cs.take p ++ (xs ++ cs.drop (p + xs.length))).drop (p + xs.length + ys.length) = cs.drop (p + xs.length + ys.length) := by
    rw [← List.append_assoc, ← List.drop_drop, List.drop_left' (by simp; omega), List.drop_drop]
  rw [e1, e2]
  simp [Nat.add_assoc]
theorem Byt.two {w w' : World} {R G : Nat} {ao : Option Addr} {n c : Nat} {zs : List Int} (h : Byt w ao n c zs) (hg : Two w w' R G) (hne : ∀ ad, ao = some ad → 0 < n → ad.block ≠ R ∧ ad.block ≠ G) : Byt w' ao n c zs := by
  refine ⟨h.len, h.nil, fun ad had j u hu => ?_⟩
  have hj : j < zs.length := by have := (List.getElem?_eq_some_iff.1 hu).1; simpa using this
  have hc := h.cells ad had j u hu
  have hb : (ad.add j).block = ad.block := by unfold Addr.add; split <;> rfl
  have hn := hne ad had (by have := h.len; omega)
  have hlt := World.block_lt_of_cell? w _ hc
  rw [World.cell?_of_block (hg.block _ hlt (by rw [hb]; exact hn.1) (by rw [hb]; exact hn.2))]
  exact hc
theorem Byt.lt {w : World} {ao : Option Addr} {n c : Nat} {zs : List Int} (h : Byt w ao n c zs) {ad : Addr} (e : ao = some ad) (hn : 0 < n) : ad.block < w.heap.size := by
  obtain ⟨b, off, e2, hb, _⟩ := h.at hn
  rw [e] at e2
  obtain rfl := Option.some.inj e2
  exact hb
theorem Byt.drop {w : World} {b off : Nat} {n c : Nat} {zs : List Int} (h : Byt w (some ⟨b, off, none⟩) n c zs) (k c' : Nat) (hk : k ≤ n) : Byt w (some ⟨b, off + k, none⟩) (n - k) c' (zs.drop k) := by
  have hl := h.len
  refine Byt.of_cells (by rw [List.length_drop]; omega) fun i hi => ?_
  obtain ⟨b', off', e, _, hc⟩ := h.at (by omega)
  simp only [Option.some.injEq, Addr.mk.injEq] at e
  obtain ⟨rfl, rfl, _⟩ := e
  rw [Nat.add_assoc, hc (k + i) (by omega)]
  simp [List.getD]
theorem Byt.none (w : World) (b off c : Nat) : Byt w (some ⟨b, off, none⟩) 0 c [] := Byt.of_cells rfl fun i hi => by omega
theorem put_u8_nil (x : Nat) (w : World) (hx : x < 256) :
    Calls Tryz.prog 14 #[.slice none 0 0, .int .u8 x] w fun e w' => e = .returned (.slice (some ⟨w.heap.size, 0, none⟩) 1 1) ∧ Byt w' (some ⟨w.heap.size, 0, none⟩) 1 1 (lb 1 x) ∧ w.grownBy w' none ∧ w.heap.size < w'.heap.size := by
  refine (put_u8 none 0 0 [] x w (Byt.empty w) (by omega) hx).mono ?_
  rintro e w' ⟨rfl, h1, h2, h3⟩
  exact ⟨rfl, Byt.of_owns h1, h2, h3⟩
theorem put_u32_nil (x : Nat) (w : World) (hx : x < 4294967296) :
    Calls Tryz.prog 31 #[.slice none 0 0, .int .u32 x] w fun e w' => e = .returned (.slice (some ⟨w.heap.size, 0, none⟩) 4 4) ∧ Byt w' (some ⟨w.heap.size, 0, none⟩) 4 4 (lb 4 x) ∧ w.grownBy w' none ∧ w.heap.size < w'.heap.size := by
  refine (put_u32 none 0 0 [] x w (Byt.empty w) (by omega) hx).mono ?_
  rintro e w' ⟨rfl, h1, h2, h3⟩
  exact ⟨rfl, Byt.of_owns h1, h2, h3⟩
theorem splice_four {cs A B C D : List Int} {q a b c : Nat} (ha : A.length = a) (hb : B.length = b) (hc : C.length = c) (h : q + a + b + c + D.length ≤ cs.length) :
    splice (splice (splice (splice cs q A) (q + a) B) (q + a + b) C) (q + a + b + c) D = splice cs q (A ++ (B ++ (C ++ D))) := by
  subst ha hb hc
  have e1 := splice_two (cs := cs) (xs := A) (ys := B) (p := q) (by omega)
  have e2 := splice_two (cs := cs) (xs := A ++ B) (ys := C) (p := q) (by simp only [List.length_append]; omega)
  have e3 := splice_two (cs := cs) (xs := A ++ B ++ C) (ys := D) (p := q) (by simp only [List.length_append]; omega)
  simp only [List.length_append, ← Nat.add_assoc] at e2 e3
  rw [e1, e2, e3]
  simp only [List.append_assoc]
theorem Rw.two {w w' : World} {R G g : Nat} {zs : List Int} (h : Rw w g zs) (hg : Two w w' R G) (h1 : g ≠ R) (h2 : g ≠ G) : Rw w' g zs := (hg.block g h.lt h1 h2).trans h
theorem splice_mid {X Y Z V : List Int} {p : Nat} (hp : X.length = p) (hV : Y.length = V.length) : splice (X ++ (Y ++ Z)) p V = X ++ (V ++ Z) := by
  subst hp
  unfold splice
  rw [List.take_left, ← hV, ← List.append_assoc X Y Z, ← List.length_append, List.drop_left]
theorem splice_head {X Y Z V : List Int} {p : Nat} (hp : X.length = p) (hV : Y.length = V.length) : splice (X ++ (Y ++ Z)) p V = (X ++ V) ++ Z := by
  rw [splice_mid hp hV, List.append_assoc]
theorem lb_bt' (k x : Nat) : Bt (lb k x) := lb_bt k x
theorem vform_bt (x : Nat) : Bt (vform x) := lf_bt 10 x
theorem Byt.zero (w : World) (ao : Option Addr) : Byt w ao 0 0 [] := ⟨rfl, fun _ => ⟨rfl, rfl⟩, fun ad _ j u hu => by simp at hu⟩
theorem rd_B (R G : Nat) (zs : List Int) (s : Nat × Int) (m : Int) (w : World) (h : Rd w R G zs s.1 s.2) :
    Calls Tryz.prog 19 #[.pointer (some ⟨R, 0, none⟩), .int .i64 m] w fun en w' => (∃ ao k, en = .returned (.slice ao k k) ∧ Byt w' ao k k (sB zs s m).1 ∧ (0 < k → ao = some ⟨G, s.1, none⟩) ∧ k ≤ zs.length) ∧ Rd w' R G zs (sB zs s m).2.1 (sB zs s m).2.2 ∧ w.grownBy w' (some R) := by
  obtain ⟨p, e⟩ := s
  by_cases he : e = 0
  · subst he
    have hp : p ≤ zs.length := h.le
    by_cases h0 : m < 0 ∨ (zs.length : Int) - p < m
    · have e1 : sB zs (p, 0) m = ([], (p, 10)) := by unfold sB; rw [if_pos rfl, if_pos h0]
      rw [e1]
      rcases h0 with h0 | h0
      · refine (bytes_neg R G zs p m w h h0).mono ?_
        rintro en w' ⟨rfl, h1, h2⟩
        exact ⟨⟨_, _, rfl, Byt.zero _ _, fun h => by omega, by omega⟩, h1, h2⟩
      · refine (bytes_short R G zs p m w h h0).mono ?_
        rintro en w' ⟨rfl, h1, h2⟩
        exact ⟨⟨_, _, rfl, Byt.zero _ _, fun h => by omega, by omega⟩, h1, h2⟩
    · have e1 : sB zs (p, 0) m = ((zs.drop p).take m.toNat, (p + m.toNat, 0)) := by unfold sB; rw [if_pos rfl, if_neg h0]
      rw [e1]
      obtain ⟨k, rfl⟩ : ∃ k : Nat, m = (k : Int) := ⟨m.toNat, by omega⟩
      rw [Int.toNat_natCast]
      refine (bytes_ok R G zs p k w h (by omega)).mono ?_
      rintro en w' ⟨ao, rfl, h1, h2, h3, h4⟩
      exact ⟨⟨ao, k, rfl, h2, h1, by omega⟩, h3, h4⟩
  · have e1 : sB zs (p, e) m = ([], (p, e)) := by unfold sB; rw [if_neg he]
    rw [e1]
    refine (bytes_broken R G zs p e m w h (by simpa using he)).mono ?_
    rintro en w' ⟨ao, rfl, h1, h2⟩
    exact ⟨⟨ao, 0, rfl, Byt.zero _ _, fun h => by omega, by omega⟩, h1, h2⟩
theorem rd_N4 (R G : Nat) (zs : List Int) (s : Nat × Int) (w : World) (h : Rd w R G zs s.1 s.2) (hbt : Bt zs) :
    Calls Tryz.prog 35 #[.pointer (some ⟨R, 0, none⟩)] w fun en w' => en = .returned (.int .u32 ((sN zs s 4).1 : Nat)) ∧ Rd w' R G zs (sN zs s 4).2.1 (sN zs s 4).2.2 ∧ w.grownBy w' (some R) := by
  obtain ⟨p, e⟩ := s
  by_cases he : e = 0
  · subst he
    by_cases h0 : zs.length < p + 4
    · have e1 : sN zs (p, 0) 4 = (0, (p, 10)) := by unfold sN; rw [if_pos rfl, if_pos h0]
      rw [e1]
      exact get_u32_short R G zs p w h h0
    · have e1 : sN zs (p, 0) 4 = (le 4 (zs.drop p), (p + 4, 0)) := by unfold sN; rw [if_pos rfl, if_neg h0]
      rw [e1]
      exact get_u32_ok R G zs p w h hbt (by omega)
  · have e1 : sN zs (p, e) 4 = (0, (p, e)) := by unfold sN; rw [if_neg he]
    rw [e1]
    exact get_u32_broken R G zs p e w h (by simpa using he)
theorem sV_lt (zs : List Int) (s : Nat × Int) (h : Bt zs) : (sV zs s).1 < 18446744073709551616 := by
  unfold sV
  split
  · split
    · rename_i h0 h1
      obtain ⟨x, n, e⟩ : ∃ x n, rv (zs.drop s.1) = (x, n, 0) := ⟨_, _, by rw [← h1]⟩
      have := (rv_back (zs.drop s.1) x n (h.drop _) e).1
      rw [e]; exact this
    · exact Nat.zero_lt_succ _
  · exact Nat.zero_lt_succ _
theorem i64_wrap {x : Nat} (h : x < 18446744073709551616) : IntKind.i64.wrap (x : Int) = i64 x := by
  unfold i64
  simp [IntKind.wrap, IntKind.bits, IntKind.signed]
  split <;> omega
theorem wpList_copy_ro {w : World} {ops : Array Oper} {rest : List Oper} {o : Oper} {a : Act} {Q : Exit → Act → World → Prop} (hgd : o.guard = none) (d s : Operand)
    (ho : o.op = .call { callee := .builtin .copy, args := #[d, s], argTypes := #[41, 41] })
    (dp sp : Option Addr) (dLen dCap sLen sCap : Nat) (hd : a.eval d = .slice dp dLen dCap) (hs : a.eval s = .slice sp sLen sCap)
    (g off : Nat) (cur : List Value) (hg : w.heap[g]? = some (.cells cur.toArray 5 (0, 0))) (cs : List Value) (hn : cs.length = Nat.min sLen dLen)
    (hpos : 0 < cs.length → dp = some ⟨g, off, none⟩ ∧ ∃ ad, sp = some ad ∧ ∀ j v, cs[j]? = some v → w.cell? (ad.add j) = some v)
    (hfit : off + cs.length ≤ cur.length) (h1 : ∀ v ∈ cs, v.oneCell' = true) (k : Nat) (hk : cs.length = k)
    (h : ∀ w', Ro w w' g (splice cur off cs) → wpList Tryz.prog ops Q rest (a.put o.dst (.int .i64 (k : Int))) w') : wpList Tryz.prog ops Q (o :: rest) a w := by
  obtain ⟨i0, hi, hz0, hz1, hz2⟩ := info_parts info_u8
  have hsz : (Tryz.prog.info? 5).map (·.size) = some 1 := by rw [hi]; exact congrArg some hz1
  subst hk
  by_cases h0 : cs.length = 0
  · obtain rfl : cs = [] := List.eq_nil_of_length_eq_zero h0
    refine wpList_copy_nothing hgd d s 41 41 ho 5 Tryz.underlying41 hsz dp sp dLen dCap sLen sCap hd hs (by simpa using hn.symm) ?_
    exact h w ⟨by simpa [splice] using hg, fun _ _ => rfl, rfl, rfl, rfl, rfl⟩
  · obtain ⟨rfl, ad, rfl, hsrc⟩ := hpos (by omega)
    refine wpList_copy_own hgd d s 41 41 ho 5 Tryz.underlying41 hsz g off dLen dCap ad sLen sCap hd hs cur.toArray 5 hg cs hn hsrc (by simpa using hfit) h1 ?_
    exact h _ ⟨by simpa [splice] using setRow_heap w g _ _ _ _ hg, fun k hk => setRow_other w g k _ hk, by simp [World.setRow], rfl, rfl, rfl⟩
/-- The same over bytes: the row holds cs, the piece is ts. -/
theorem wpList_copy_bytes {w : World} {ops : Array Oper} {rest : List Oper} {o : Oper} {a : Act} {Q : Exit → Act → World → Prop} (hgd : o.guard = none) (d s : Operand)
    (ho : o.op = .call { callee := .builtin .copy, args := #[d, s], argTypes := #[41, 41] })
    (dp sp : Option Addr) (dLen dCap sLen sCap : Nat) (hd : a.eval d = .slice dp dLen dCap) (hs : a.eval s = .slice sp sLen sCap)
    (g off : Nat) (cs ts : List Int) (hg : Rw w g cs) (hb : Byt w sp sLen sCap ts) (hn : sLen ≤ dLen) (hdp : 0 < sLen → dp = some ⟨g, off, none⟩) (hfit : off + sLen ≤ cs.length)
    (h : ∀ w', Rw w' g (splice cs off ts) → w.grownBy w' (some g) → wpList Tryz.prog ops Q rest (a.put o.dst (.int .i64 (sLen : Int))) w') : wpList Tryz.prog ops Q (o :: rest) a w := by
  have hl := hb.len
  refine wpList_copy_ro hgd d s ho dp sp dLen dCap sLen sCap hd hs g off (cs.map (Value.int .u8)) hg (ts.map (Value.int .u8)) (by rw [List.length_map, hl]; exact (Nat.min_eq_left hn).symm) (fun h0 => ?_) (by rw [List.length_map, List.length_map]; omega) (ints_oneCell _ _) sLen (by rw [List.length_map, hl]) fun w' hro => h w' ?_ hro.grown
  · refine ⟨hdp (by simpa [hl] using h0), ?_⟩
    cases sp with
    | none => have := (hb.nil rfl).1; simp [hl] at h0; omega
    | some ad => exact ⟨ad, rfl, hb.cells ad rfl⟩
  · unfold Rw
    rw [← splice_map]
    exact hro.row
theorem grown_newR {a b c : World} {R g : Nat} (h : a.grownBy b (some R)) (k : b.grownBy c (some g)) (hg : a.heap.size ≤ g) : a.grownBy c (some R) :=
  ⟨k.os.trans h.os, k.tape.trans h.tape, k.output.trans h.output, Nat.le_trans h.size k.size,
    fun i hi hne => (k.block i (Nat.lt_of_lt_of_le hi h.size) (by intro e; have := Option.some.inj e; omega)).trans (h.block i hi hne)⟩
theorem splice_fill {Z X Y : List Int} (hZ : Z.length = X.length + Y.length) : splice (splice Z 0 X) X.length Y = X ++ Y := by
  have := splice_two (cs := Z) (xs := X) (ys := Y) (p := 0) (by omega)
  rw [Nat.zero_add] at this
  rw [this]
  unfold splice
  rw [List.take_zero, List.nil_append, Nat.zero_add, List.drop_eq_nil_of_le (by rw [List.length_append]; omega), List.append_nil]
theorem le_lt' (k : Nat) (zs : List Int) (h : Bt zs) : le k zs < 256 ^ k := le_lt k zs h
theorem sN_lt (zs : List Int) (s : Nat × Int) (k : Nat) (h : Bt zs) : (sN zs s k).1 < 256 ^ k := by
  unfold sN
  split
  · split
    · exact Nat.pow_pos (by omega)
    · exact le_lt' k _ (h.drop _)
  · exact Nat.pow_pos (by omega)
/-! ### What a body's reading can be -/

theorem sV_ok {zs : List Int} {s : Nat × Int} (hb : Bt zs) (h : (sV zs s).2.2 = 0) : s.2 = 0 ∧ s.1 + 1 ≤ (sV zs s).2.1 ∧ (sV zs s).2.1 ≤ max s.1 zs.length := by
  unfold sV at h ⊢
  split
  · rename_i h0
    rw [if_pos h0] at h
    split
    · rename_i h1
      rw [if_pos h1] at h
      obtain ⟨x, n, e⟩ : ∃ x n, rv (zs.drop s.1) = (x, n, 0) := ⟨_, _, by rw [← h1]⟩
      have hb2 := rv_back (zs.drop s.1) x n (hb.drop _) e
      rw [e]
      simp only [List.length_drop] at hb2 ⊢
      exact ⟨h0, by omega, by omega⟩
    · rename_i h1
      rw [if_neg h1] at h
      exact absurd h h1
  · rename_i h0
    rw [if_neg h0] at h
    exact absurd h h0
theorem sB_ok {zs : List Int} {s : Nat × Int} {m : Int} (h : (sB zs s m).2.2 = 0) : s.2 = 0 ∧ s.1 ≤ (sB zs s m).2.1 ∧ (sB zs s m).2.1 ≤ max s.1 zs.length := by
  unfold sB at h ⊢
  split
  · rename_i h0
    rw [if_pos h0] at h
    split
    · rename_i h1
      rw [if_pos h1] at h
      exact absurd h (by simp)
    · rename_i h1
      exact ⟨h0, by simp, by simp only; omega⟩
  · rename_i h0
    rw [if_neg h0] at h
    exact absurd h h0
theorem sN_ok {zs : List Int} {s : Nat × Int} {k : Nat} (h : (sN zs s k).2.2 = 0) : s.2 = 0 ∧ s.1 ≤ (sN zs s k).2.1 ∧ (sN zs s k).2.1 ≤ max s.1 zs.length := by
  unfold sN at h ⊢
  split
  · rename_i h0
    rw [if_pos h0] at h
    split
    · rename_i h1
      rw [if_pos h1] at h
      exact absurd h (by simp)
    · rename_i h1
      exact ⟨h0, by simp, by simp only; omega⟩
  · rename_i h0
    rw [if_neg h0] at h
    exact absurd h h0
theorem sB_bt {zs : List Int} (s : Nat × Int) (m : Int) (hb : Bt zs) : Bt (sB zs s m).1 ∧ (sB zs s m).1.length ≤ zs.length := by
  unfold sB
  split
  · split
    · exact ⟨Bt.nil, by simp⟩
    · exact ⟨(hb.drop _).take _, by simp only [List.length_take, List.length_drop]; omega⟩
  · exact ⟨Bt.nil, by simp⟩
theorem sV_pl {zs : List Int} {s : Nat × Int} (hb : Bt zs) (h : s.1 ≤ zs.length) : (sV zs s).2.1 ≤ zs.length := by
  unfold sV
  split
  · split
    · rename_i h0 h1
      obtain ⟨x, n, e⟩ : ∃ x n, rv (zs.drop s.1) = (x, n, 0) := ⟨_, _, by rw [← h1]⟩
      have hb2 := rv_back (zs.drop s.1) x n (hb.drop _) e
      rw [e]
      simp only [List.length_drop] at hb2 ⊢
      omega
    · exact h
  · exact h
theorem sB_pl {zs : List Int} {s : Nat × Int} {m : Int} (h : s.1 ≤ zs.length) : (sB zs s m).2.1 ≤ zs.length := by
  unfold sB
  split
  · split
    · exact h
    · simp only; omega
  · exact h
theorem sN_pl {zs : List Int} {s : Nat × Int} {k : Nat} (h : s.1 ≤ zs.length) : (sN zs s k).2.1 ≤ zs.length := by
  unfold sN
  split
  · split
    · exact h
    · simp only; omega
  · exact h

theorem rd_N1 (R G : Nat) (zs : List Int) (s : Nat × Int) (w : World) (h : Rd w R G zs s.1 s.2) (hbt : Bt zs) :
    Calls Tryz.prog 18 #[.pointer (some ⟨R, 0, none⟩)] w fun en w' => en = .returned (.int .u8 ((sN zs s 1).1 : Nat)) ∧ Rd w' R G zs (sN zs s 1).2.1 (sN zs s 1).2.2 ∧ w.grownBy w' (some R) := by
  obtain ⟨p, e⟩ := s
  by_cases he : e = 0
  · subst he
    by_cases h0 : zs.length < p + 1
    · have e1 : sN zs (p, 0) 1 = (0, (p, 10)) := by unfold sN; rw [if_pos rfl, if_pos h0]
      rw [e1]
      exact get_u8_short R G zs p w h h0
    · have e1 : sN zs (p, 0) 1 = (le 1 (zs.drop p), (p + 1, 0)) := by unfold sN; rw [if_pos rfl, if_neg h0]
      rw [e1]
      exact get_u8_ok R G zs p w h hbt (by omega)
  · have e1 : sN zs (p, e) 1 = (0, (p, e)) := by unfold sN; rw [if_neg he]
    rw [e1]
    exact get_u8_broken R G zs p e w h (by simpa using he)

/-- The block g, of type t, holds just the bytes zs. -/
def Rt (w : World) (g : Nat) (t : TypeId) (zs : List Int) : Prop := w.heap[g]? = some (.cells (zs.map (Value.int .u8)).toArray t (0, 0))
theorem Rt.lt {w : World} {g : Nat} {t : TypeId} {zs : List Int} (h : Rt w g t zs) : g < w.heap.size := (Array.getElem?_eq_some_iff.1 h).1
theorem Rt.cell {w : World} {g : Nat} {t : TypeId} {zs : List Int} (h : Rt w g t zs) (i : Nat) (hi : i < zs.length) : w.cell? ⟨g, i, none⟩ = some (.int .u8 (zs.getD i 0)) := by
  rw [cell_of_row w g i _ _ (0, 0) h]
  simp [List.getD, List.getElem?_eq_getElem hi]
theorem Rt.byt {w : World} {g : Nat} {t : TypeId} {zs : List Int} (h : Rt w g t zs) (off n cap : Nat) (hn : off + n ≤ zs.length) : Byt w (some ⟨g, off, none⟩) n cap ((zs.drop off).take n) := by
  refine Byt.of_cells (by rw [List.length_take, List.length_drop]; omega) fun i hi => ?_
  rw [h.cell (off + i) (by omega)]
  simp [List.getD, hi]
theorem Rt.all {w : World} {g : Nat} {t : TypeId} {zs : List Int} (h : Rt w g t zs) (n cap : Nat) (hn : n = zs.length) : Byt w (some ⟨g, 0, none⟩) n cap zs := by
  have := h.byt 0 n cap (by omega)
  rwa [List.drop_zero, List.take_of_length_le (by omega)] at this
theorem Rt.kept {w w' : World} {row : Option Nat} {g : Nat} {t : TypeId} {zs : List Int} (h : Rt w g t zs) (hg : w.grownBy w' row) (hne : some g ≠ row) : Rt w' g t zs := (hg.block g h.lt hne).trans h
theorem Rt.keptN {w w' : World} {g : Nat} {t : TypeId} {zs : List Int} (h : Rt w g t zs) (hg : w.grownBy w' none) : Rt w' g t zs := h.kept hg (by simp)
theorem Rt.two {w w' : World} {R G g : Nat} {t : TypeId} {zs : List Int} (h : Rt w g t zs) (hg : Two w w' R G) (h1 : g ≠ R) (h2 : g ≠ G) : Rt w' g t zs := (hg.block g h.lt h1 h2).trans h

/-- One row is written on, nothing else. -/
structure Rp (w w' : World) (g : Nat) (t : TypeId) (xs : List Value) : Prop where
  row : w'.heap[g]? = some (.cells xs.toArray t (0, 0))
  oth : ∀ k, k ≠ g → w'.heap[k]? = w.heap[k]?
  size : w'.heap.size = w.heap.size
  os : w'.os = w.os
  tape : w'.tape = w.tape
  output : w'.output = w.output
theorem Rp.grown {w w' : World} {g : Nat} {t : TypeId} {xs : List Value} (h : Rp w w' g t xs) : w.grownBy w' (some g) :=
  ⟨h.os, h.tape, h.output, by rw [h.size]; exact Nat.le_refl _, fun k _ hne => h.oth k (fun e => hne (by rw [e]))⟩

theorem oper_copy_val {o : Oper} {a : Act} {w : World} {K : Act → World → Prop} {Q : Exit → Act → World → Prop} (d s : Operand)
    (ho : o.op = .call { callee := .builtin .copy, args := #[d, s], argTypes := #[41, 41] })
    (dp sp : Option Addr) (dLen dCap sLen sCap : Nat) (hd : a.eval d = .slice dp dLen dCap) (hs : a.eval s = .slice sp sLen sCap)
    (g off : Nat) (t : TypeId) (cur : List Value) (hg : w.heap[g]? = some (.cells cur.toArray t (0, 0))) (cs : List Value) (hn : cs.length = Nat.min sLen dLen)
    (hpos : 0 < cs.length → dp = some ⟨g, off, none⟩ ∧ ∃ ad, sp = some ad ∧ ∀ j v, cs[j]? = some v → w.cell? (ad.add j) = some v)
    (hfit : off + cs.length ≤ cur.length) (h1 : ∀ v ∈ cs, v.oneCell' = true) (k : Nat) (hk : cs.length = k)
    (h : ∀ w', Rp w w' g t (splice cur off cs) → K (a.put o.dst (.int .i64 (k : Int))) w') : Oper.wp Tryz.prog o a w K Q := by
  obtain ⟨i0, hi, hz0, hz1, hz2⟩ := info_parts info_u8
  have hsz : (Tryz.prog.info? 5).map (·.size) = some 1 := by rw [hi]; exact congrArg some hz1
  subst hk
  by_cases h0 : cs.length = 0
  · obtain rfl : cs = [] := List.eq_nil_of_length_eq_zero h0
    have hrun := run_copy_none (P := Tryz.prog) w 41 41 o.type 5 dp sp dLen dCap sLen sCap Tryz.underlying41 hsz (by simpa using hn.symm)
    unfold Oper.wp
    simp [execOp, ho, resolve, invoke, builtin, hd, hs, hrun, Result.andThen]
    exact h w ⟨by simpa [splice] using hg, fun _ _ => rfl, rfl, rfl, rfl, rfl⟩
  · obtain ⟨rfl, ad, rfl, hsrc⟩ := hpos (by omega)
    have hrun := run_copy_row (P := Tryz.prog) w 41 41 o.type 5 g off dLen dCap ad sLen sCap cur.toArray t cs Tryz.underlying41 hsz hg hn hsrc (by simpa using hfit) h1
    unfold Oper.wp
    simp [execOp, ho, resolve, invoke, builtin, hd, hs, hrun, Result.andThen]
    exact h _ ⟨by simpa [splice] using setRow_heap w g _ _ _ _ hg, fun k hk => setRow_other w g k _ hk, by simp [World.setRow], rfl, rfl, rfl⟩

theorem oper_copy_rp {o : Oper} {a : Act} {w : World} {K : Act → World → Prop} {Q : Exit → Act → World → Prop} (d s : Operand)
    (ho : o.op = .call { callee := .builtin .copy, args := #[d, s], argTypes := #[41, 41] })
    (dp sp : Option Addr) (dLen dCap sLen sCap : Nat) (hd : a.eval d = .slice dp dLen dCap) (hs : a.eval s = .slice sp sLen sCap)
    (g off : Nat) (t : TypeId) (cs ts : List Int) (hg : Rt w g t cs) (hb : Byt w sp sLen sCap ts) (hn : sLen ≤ dLen) (hdp : 0 < sLen → dp = some ⟨g, off, none⟩) (hfit : off + sLen ≤ cs.length)
    (h : ∀ w', Rt w' g t (splice cs off ts) → w.grownBy w' (some g) → w'.heap.size = w.heap.size → K (a.put o.dst (.int .i64 (sLen : Int))) w') : Oper.wp Tryz.prog o a w K Q := by
  have hl := hb.len
  refine oper_copy_val d s ho dp sp dLen dCap sLen sCap hd hs g off t (cs.map (Value.int .u8)) hg (ts.map (Value.int .u8)) (by rw [List.length_map, hl]; exact (Nat.min_eq_left hn).symm) (fun h0 => ?_) (by rw [List.length_map, List.length_map]; omega) (ints_oneCell _ _) sLen (by rw [List.length_map, hl]) fun w' hro => h w' ?_ hro.grown hro.size
  · refine ⟨hdp (by simpa [hl] using h0), ?_⟩
    cases sp with
    | none => have := (hb.nil rfl).1; simp [hl] at h0; omega
    | some ad => exact ⟨ad, rfl, hb.cells ad rfl⟩
  · show _ = _
    rw [← splice_map]
    exact hro.row

theorem step_copy_rt {ops : Array Oper} {o : Oper} {a : Act} {w : World} {K : Act → World → Prop} {Q : Exit → Act → World → Prop} {E : Prop} (hgd : o.guard = none) (d s : Operand)
    (ho : o.op = .call { callee := .builtin .copy, args := #[d, s], argTypes := #[41, 41] })
    (dp sp : Option Addr) (dLen dCap sLen sCap : Nat) (hd : a.eval d = .slice dp dLen dCap) (hs : a.eval s = .slice sp sLen sCap)
    (g off : Nat) (t : TypeId) (cs ts : List Int) (hg : Rt w g t cs) (hb : Byt w sp sLen sCap ts) (hn : sLen ≤ dLen) (hdp : 0 < sLen → dp = some ⟨g, off, none⟩) (hfit : off + sLen ≤ cs.length)
    (h : ∀ w', Rt w' g t (splice cs off ts) → w.grownBy w' (some g) → w'.heap.size = w.heap.size → K (a.put o.dst (.int .i64 (sLen : Int))) w') :
    if Region.wanted o (yielded ops a.tmps) = true then Oper.wp Tryz.prog o a w K Q else E := by
  have hw : Region.wanted o (yielded ops a.tmps) = true := by simp [Region.wanted, hgd]
  rw [if_pos hw]
  exact oper_copy_rp d s ho dp sp dLen dCap sLen sCap hd hs g off t cs ts hg hb hn hdp hfit h
theorem wpList_copy_rt {w : World} {ops : Array Oper} {rest : List Oper} {o : Oper} {a : Act} {Q : Exit → Act → World → Prop} (hgd : o.guard = none) (d s : Operand)
    (ho : o.op = .call { callee := .builtin .copy, args := #[d, s], argTypes := #[41, 41] })
    (dp sp : Option Addr) (dLen dCap sLen sCap : Nat) (hd : a.eval d = .slice dp dLen dCap) (hs : a.eval s = .slice sp sLen sCap)
    (g off : Nat) (t : TypeId) (cs ts : List Int) (hg : Rt w g t cs) (hb : Byt w sp sLen sCap ts) (hn : sLen ≤ dLen) (hdp : 0 < sLen → dp = some ⟨g, off, none⟩) (hfit : off + sLen ≤ cs.length)
    (h : ∀ w', Rt w' g t (splice cs off ts) → w.grownBy w' (some g) → w'.heap.size = w.heap.size → wpList Tryz.prog ops Q rest (a.put o.dst (.int .i64 (sLen : Int))) w') : wpList Tryz.prog ops Q (o :: rest) a w := by
  refine wpList_plain hgd fun K hK => ?_
  exact oper_copy_rp d s ho dp sp dLen dCap sLen sCap hd hs g off t cs ts hg hb hn hdp hfit fun w' h1 h2 h3 => hK _ _ (h w' h1 h2 h3)

end Go.Proofs.YtlhjociijkhimaaGreatDoor
