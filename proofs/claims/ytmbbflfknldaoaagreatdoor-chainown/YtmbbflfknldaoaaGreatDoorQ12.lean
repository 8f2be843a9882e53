import Derived.Test.YtmbbflfknldaoaaGreatDoorQ11
import Derived.Test.YtmbbflfknldaoaaGreatDoorQ9
import Derived.Test.YtmbbflfknldaoaaGreatDoorQ4
import Derived.Laws.CopyOwn
import Derived.Deep.RegionLaw
namespace Go.Proofs.YtmbbflfknldaoaaGreatDoor
open Go.RowKit
def Rw (w : World) (g : Nat) (zs : List Int) : Prop := w.heap[g]? = some (.cells (zs.map (Value.int .u8)).toArray 5 (0, 0))
theorem Rw.lt {w : World} {g : Nat} {zs : List Int} (h : Rw w g zs) : g < w.heap.size := (Array.getElem?_eq_some_iff.1 h).1
theorem Rw.cell {w : World} {g : Nat} {zs : List Int} (h : Rw w g zs) (i : Nat) (hi : i < zs.length) : w.cell? ⟨g, i, none⟩ = some (.int .u8 (zs.getD i 0)) := by
 rw [cell_of_row w g i _ _ (0, 0) h]
 simp [List.getD, List.getElem?_eq_getElem hi]
theorem Rw.byt {w : World} {g : Nat} {zs : List Int} (h : Rw w g zs) (off n cap : Nat) (hn : off + n ≤ zs.length) : Byt w (some ⟨g, off, none⟩) n cap ((zs.drop off).take n) := by
 refine Byt.of_cells (by rw [List.length_take, List.length_drop]; omega) fun i hi => ?_
 rw [h.cell (off + i) (by omega)]
 simp [List.getD, hi]
theorem Rw.all {w : World} {g : Nat} {zs : List Int} (h : Rw w g zs) (n cap : Nat) (hn : n = zs.length) : Byt w (some ⟨g, 0, none⟩) n cap zs := by
 have := h.byt 0 n cap (by omega)
 rwa [List.drop_zero, List.take_of_length_le (by omega)] at this
theorem Rw.kept {w w' : World} {row : Option Nat} {g : Nat} {zs : List Int} (h : Rw w g zs) (hg : w.grownBy w' row) (hne : some g ≠ row) : Rw w' g zs := (hg.block g h.lt hne).trans h
theorem Rw.keptN {w w' : World} {g : Nat} {zs : List Int} (h : Rw w g zs) (hg : w.grownBy w' none) : Rw w' g zs := h.kept hg (by simp)
theorem Rw.of_owns {w : World} {base g n : Nat} {zs : List Int} (h : w.ownsRow base 5 1 (.slice (some ⟨g, 0, none⟩) n n) n (zs.map (Value.int .u8))) : Rw w g zs := by
 rcases h with ⟨hl, ⟨h0, _⟩ | ⟨g', cap, cur, hv, _, hg, _, _, hs, ht⟩⟩
 ·cases h0
 ·injection hv with e1 e2 e3
  injection e1 with e1
  injection e1 with e4
  subst e4 e3
  have : cur.toList = zs.map (Value.int .u8) := by
   rw [← ht, List.take_of_length_le (by simp [hs])]
  unfold Rw
  rw [hg, ← this]
theorem made (n : Nat) : (madeCells #[Value.int .u8 0] n).toList = (List.replicate n (0 : Int)).map (Value.int .u8) := by
 refine List.ext_getElem (by simp [madeCells]) fun i h1 h2 => ?_
 simp [madeCells, Nat.mod_one]
structure Ro (w w' : World) (g : Nat) (xs : List Value) : Prop where
 row : w'.heap[g]? = some (.cells xs.toArray 5 (0, 0))
 oth : ∀ k, k ≠ g → w'.heap[k]? = w.heap[k]?
 size : w'.heap.size = w.heap.size
 os : w'.os = w.os
 tape : w'.tape = w.tape
 output : w'.output = w.output
theorem Ro.cell {w w' : World} {g : Nat} {xs : List Value} (h : Ro w w' g xs) (R i : Nat) (hR : R ≠ g) : w'.cell? ⟨R, i, none⟩ = w.cell? ⟨R, i, none⟩ := World.cell?_of_block (h.oth R hR)
theorem Ro.grown {w w' : World} {g : Nat} {xs : List Value} (h : Ro w w' g xs) : w.grownBy w' (some g) :=
 ⟨h.os, h.tape, h.output, by rw [h.size]; exact Nat.le_refl _, fun k _ hne => h.oth k (fun e => hne (by rw [e]))⟩
structure Two (w w' : World) (R G : Nat) : Prop where
 os : w'.os = w.os
 tape : w'.tape = w.tape
 output : w'.output = w.output
 size : w.heap.size ≤ w'.heap.size
 block : ∀ k, k < w.heap.size → k ≠ R → k ≠ G → w'.heap[k]? = w.heap[k]?
theorem Two.trans {a b c : World} {R G : Nat} (h : Two a b R G) (k : Two b c R G) : Two a c R G :=
 ⟨k.os.trans h.os, k.tape.trans h.tape, k.output.trans h.output, Nat.le_trans h.size k.size, fun i hi h1 h2 => (k.block i (Nat.lt_of_lt_of_le hi h.size) h1 h2).trans (h.block i hi h1 h2)⟩
theorem Two.grown {w0 w w' : World} {R G : Nat} (h : Two w w' R G) (hg : w0.grownBy w none) (h1 : w0.heap.size ≤ R) (h2 : w0.heap.size ≤ G) : w0.grownBy w' none :=
 ⟨h.os.trans hg.os, h.tape.trans hg.tape, h.output.trans hg.output, Nat.le_trans hg.size h.size, fun k hk _ => (h.block k (Nat.lt_of_lt_of_le hk hg.size) (by omega) (by omega)).trans (hg.block k hk (by simp))⟩
theorem splice_map (cs zs : List Int) (p : Nat) : splice (cs.map (Value.int .u8)) p (zs.map (Value.int .u8)) = (splice cs p zs).map (Value.int .u8) := by
 simp [splice]
theorem Byt.two {w w' : World} {R G : Nat} {ao : Option Addr} {n c : Nat} {zs : List Int} (h : Byt w ao n c zs) (hg : Two w w' R G) (hne : ∀ ad, ao = some ad → 0 < n → ad.block ≠ R ∧ ad.block ≠ G) : Byt w' ao n c zs := by
 refine ⟨h.len, h.nil, fun ad had j u hu => ?_⟩
 have hj : j < zs.length := by have := (List.getElem?_eq_some_iff.1 hu).1; simpa using this
 have hc := h.cells ad had j u hu
 have hb : (ad.add j).block = ad.block := by unfold Addr.add; split <;> rfl
 have hn := hne ad had (by have := h.len; omega)
 have hlt := World.block_lt_of_cell? w _ hc
 rw [World.cell?_of_block (hg.block _ hlt (by rw [hb]; exact hn.1) (by rw [hb]; exact hn.2))]
 exact hc
theorem Byt.lt {w : World} {ao : Option Addr} {n c : Nat} {zs : List Int} (h : Byt w ao n c zs) {ad : Addr} (e : ao = some ad) (hn : 0 < n) : ad.block < w.heap.size := by
 obtain ⟨b, off, e2, hb, _⟩ := h.at hn
 rw [e] at e2
 obtain rfl := Option.some.inj e2
 exact hb
theorem Byt.drop {w : World} {b off : Nat} {n c : Nat} {zs : List Int} (h : Byt w (some ⟨b, off, none⟩) n c zs) (k c' : Nat) (hk : k ≤ n) : Byt w (some ⟨b, off + k, none⟩) (n - k) c' (zs.drop k) := by
 have hl := h.len
 refine Byt.of_cells (by rw [List.length_drop]; omega) fun i hi => ?_
 obtain ⟨b', off', e, _, hc⟩ := h.at (by omega)
 simp only [Option.some.injEq, Addr.mk.injEq] at e
 obtain ⟨rfl, rfl, _⟩ := e
 rw [Nat.add_assoc, hc (k + i) (by omega)]
 simp [List.getD]
theorem put_u8_nil (x : Nat) (w : World) (hx : x < 256) :
  Calls Tryz.prog 48 #[.slice none 0 0, .int .u8 x] w fun e w' => e = .returned (.slice (some ⟨w.heap.size, 0, none⟩) 1 1) ∧ Byt w' (some ⟨w.heap.size, 0, none⟩) 1 1 (lb 1 x) ∧ w.grownBy w' none ∧ w.heap.size < w'.heap.size := by
 refine (put_u8 none 0 0 [] x w (Byt.empty w) (by omega) hx).mono ?_
 rintro e w' ⟨rfl, h1, h2, h3⟩
 exact ⟨rfl, Byt.of_owns h1, h2, h3⟩
theorem put_u32_nil (x : Nat) (w : World) (hx : x < 4294967296) :
  Calls Tryz.prog 36 #[.slice none 0 0, .int .u32 x] w fun e w' => e = .returned (.slice (some ⟨w.heap.size, 0, none⟩) 4 4) ∧ Byt w' (some ⟨w.heap.size, 0, none⟩) 4 4 (lb 4 x) ∧ w.grownBy w' none ∧ w.heap.size < w'.heap.size := by
 refine (put_u32 none 0 0 [] x w (Byt.empty w) (by omega) hx).mono ?_
 rintro e w' ⟨rfl, h1, h2, h3⟩
 exact ⟨rfl, Byt.of_owns h1, h2, h3⟩
theorem Rw.two {w w' : World} {R G g : Nat} {zs : List Int} (h : Rw w g zs) (hg : Two w w' R G) (h1 : g ≠ R) (h2 : g ≠ G) : Rw w' g zs := (hg.block g h.lt h1 h2).trans h
theorem splice_mid {X Y Z V : List Int} {p : Nat} (hp : X.length = p) (hV : Y.length = V.length) : splice (X ++ (Y ++ Z)) p V = X ++ (V ++ Z) := by
 subst hp
 unfold splice
 rw [List.take_left, ← hV, ← List.append_assoc X Y Z, ← List.length_append, List.drop_left]
set_option maxHeartbeats 400000 in
set_option maxRecDepth 100000 in
theorem equal_yes (ao bo : Option Addr) (n m c d : Nat) (za zb : List Int) (w : World) (ha : Byt w ao n c za) (hb : Byt w bo m d zb) (e : za = zb) :
  Calls Tryz.prog 41 #[.slice ao n c, .slice bo m d] w fun en w' => en = .returned (.bool true) ∧ w' = w := by
 subst e
 have h1 := conv_str ha
 have h2 := conv_str hb
 clear ha hb
 go_enter Tryz.func41, Tryz.ntmps41
 go_wp2
 go_ret
 exact ⟨rfl, rfl⟩
set_option maxHeartbeats 400000 in
set_option maxRecDepth 100000 in
theorem equal_no (ao bo : Option Addr) (n m c d : Nat) (za zb : List Int) (w : World) (ha : Byt w ao n c za) (hb : Byt w bo m d zb) (ba : Bt za) (bb : Bt zb) (e : za ≠ zb) :
  Calls Tryz.prog 41 #[.slice ao n c, .slice bo m d] w fun en w' => en = .returned (.bool false) ∧ w' = w := by
 have hne : ((strOfNums za).toList == (strOfNums zb).toList) = false := by
  rw [beq_eq_false_iff_ne, ByteArray.toList_eq, ByteArray.toList_eq]
  intro h
  refine e (str_inj ba bb ?_)
  have := Array.toList_inj.1 h
  cases hx : strOfNums za; cases hy : strOfNums zb; simp_all
 have h1 := conv_str ha
 have h2 := conv_str hb
 clear ha hb
 go_enter Tryz.func41, Tryz.ntmps41
 go_wp2
 go_ret
 exact ⟨rfl, rfl⟩
theorem Byt.zero (w : World) (ao : Option Addr) : Byt w ao 0 0 [] := ⟨rfl, fun _ => ⟨rfl, rfl⟩, fun ad _ j u hu => by simp at hu⟩
theorem rd_B (R G : Nat) (zs : List Int) (s : Nat × Int) (m : Int) (w : World) (h : Rd w R G zs s.1 s.2) :
  Calls Tryz.prog 40 #[.pointer (some ⟨R, 0, none⟩), .int .i64 m] w fun en w' => (∃ ao k, en = .returned (.slice ao k k) ∧ Byt w' ao k k (sB zs s m).1 ∧ (0 < k → ao = some ⟨G, s.1, none⟩) ∧ k ≤ zs.length) ∧ Rd w' R G zs (sB zs s m).2.1 (sB zs s m).2.2 ∧ w.grownBy w' (some R) := by
 obtain ⟨p, e⟩ := s
 by_cases he : e = 0
 ·subst he
  have hp : p ≤ zs.length := h.le
  by_cases h0 : m < 0 ∨ (zs.length : Int) - p < m
  ·have e1 : sB zs (p, 0) m = ([], (p, 10)) := by unfold sB; rw [if_pos rfl, if_pos h0]
   rw [e1]
   rcases h0 with h0 | h0
   ·refine (bytes_neg R G zs p m w h h0).mono ?_
    rintro en w' ⟨rfl, h1, h2⟩
    exact ⟨⟨_, _, rfl, Byt.zero _ _, fun h => by omega, by omega⟩, h1, h2⟩
   ·refine (bytes_short R G zs p m w h h0).mono ?_
    rintro en w' ⟨rfl, h1, h2⟩
    exact ⟨⟨_, _, rfl, Byt.zero _ _, fun h => by omega, by omega⟩, h1, h2⟩
  ·have e1 : sB zs (p, 0) m = ((zs.drop p).take m.toNat, (p + m.toNat, 0)) := by unfold sB; rw [if_pos rfl, if_neg h0]
   rw [e1]
   obtain ⟨k, rfl⟩ : ∃ k : Nat, m = (k : Int) := ⟨m.toNat, by omega⟩
   rw [Int.toNat_natCast]
   refine (bytes_ok R G zs p k w h (by omega)).mono ?_
   rintro en w' ⟨ao, rfl, h1, h2, h3, h4⟩
   exact ⟨⟨ao, k, rfl, h2, h1, by omega⟩, h3, h4⟩
 ·have e1 : sB zs (p, e) m = ([], (p, e)) := by unfold sB; rw [if_neg he]
  rw [e1]
  refine (bytes_broken R G zs p e m w h (by simpa using he)).mono ?_
  rintro en w' ⟨ao, rfl, h1, h2⟩
  exact ⟨⟨ao, 0, rfl, Byt.zero _ _, fun h => by omega, by omega⟩, h1, h2⟩
theorem grown_newR {a b c : World} {R g : Nat} (h : a.grownBy b (some R)) (k : b.grownBy c (some g)) (hg : a.heap.size ≤ g) : a.grownBy c (some R) :=
 ⟨k.os.trans h.os, k.tape.trans h.tape, k.output.trans h.output, Nat.le_trans h.size k.size,
  fun i hi hne => (k.block i (Nat.lt_of_lt_of_le hi h.size) (by intro e; have := Option.some.inj e; omega)).trans (h.block i hi hne)⟩
def Rt (w : World) (g : Nat) (t : TypeId) (zs : List Int) : Prop := w.heap[g]? = some (.cells (zs.map (Value.int .u8)).toArray t (0, 0))
theorem Rt.lt {w : World} {g : Nat} {t : TypeId} {zs : List Int} (h : Rt w g t zs) : g < w.heap.size := (Array.getElem?_eq_some_iff.1 h).1
theorem Rt.cell {w : World} {g : Nat} {t : TypeId} {zs : List Int} (h : Rt w g t zs) (i : Nat) (hi : i < zs.length) : w.cell? ⟨g, i, none⟩ = some (.int .u8 (zs.getD i 0)) := by
 rw [cell_of_row w g i _ _ (0, 0) h]
 simp [List.getD, List.getElem?_eq_getElem hi]
theorem Rt.byt {w : World} {g : Nat} {t : TypeId} {zs : List Int} (h : Rt w g t zs) (off n cap : Nat) (hn : off + n ≤ zs.length) : Byt w (some ⟨g, off, none⟩) n cap ((zs.drop off).take n) := by
 refine Byt.of_cells (by rw [List.length_take, List.length_drop]; omega) fun i hi => ?_
 rw [h.cell (off + i) (by omega)]
 simp [List.getD, hi]
theorem Rt.all {w : World} {g : Nat} {t : TypeId} {zs : List Int} (h : Rt w g t zs) (n cap : Nat) (hn : n = zs.length) : Byt w (some ⟨g, 0, none⟩) n cap zs := by
 have := h.byt 0 n cap (by omega)
 rwa [List.drop_zero, List.take_of_length_le (by omega)] at this
theorem Rt.kept {w w' : World} {row : Option Nat} {g : Nat} {t : TypeId} {zs : List Int} (h : Rt w g t zs) (hg : w.grownBy w' row) (hne : some g ≠ row) : Rt w' g t zs := (hg.block g h.lt hne).trans h
theorem Rt.keptN {w w' : World} {g : Nat} {t : TypeId} {zs : List Int} (h : Rt w g t zs) (hg : w.grownBy w' none) : Rt w' g t zs := h.kept hg (by simp)
theorem Rt.two {w w' : World} {R G g : Nat} {t : TypeId} {zs : List Int} (h : Rt w g t zs) (hg : Two w w' R G) (h1 : g ≠ R) (h2 : g ≠ G) : Rt w' g t zs := (hg.block g h.lt h1 h2).trans h
structure Rp (w w' : World) (g : Nat) (t : TypeId) (xs : List Value) : Prop where
 row : w'.heap[g]? = some (.cells xs.toArray t (0, 0))
 oth : ∀ k, k ≠ g → w'.heap[k]? = w.heap[k]?
 size : w'.heap.size = w.heap.size
 os : w'.os = w.os
 tape : w'.tape = w.tape
 output : w'.output = w.output
theorem Rp.grown {w w' : World} {g : Nat} {t : TypeId} {xs : List Value} (h : Rp w w' g t xs) : w.grownBy w' (some g) :=
 ⟨h.os, h.tape, h.output, by rw [h.size]; exact Nat.le_refl _, fun k _ hne => h.oth k (fun e => hne (by rw [e]))⟩
theorem oper_copy_val {o : Oper} {a : Act} {w : World} {K : Act → World → Prop} {Q : Exit → Act → World → Prop} (d s : Operand)
  (ho : o.op = .call { callee := .builtin .copy, args := #[d, s], argTypes := #[22, 22] })
  (dp sp : Option Addr) (dLen dCap sLen sCap : Nat) (hd : a.eval d = .slice dp dLen dCap) (hs : a.eval s = .slice sp sLen sCap)
  (g off : Nat) (t : TypeId) (cur : List Value) (hg : w.heap[g]? = some (.cells cur.toArray t (0, 0))) (cs : List Value) (hn : cs.length = Nat.min sLen dLen)
  (hpos : 0 < cs.length → dp = some ⟨g, off, none⟩ ∧ ∃ ad, sp = some ad ∧ ∀ j v, cs[j]? = some v → w.cell? (ad.add j) = some v)
  (hfit : off + cs.length ≤ cur.length) (h1 : ∀ v ∈ cs, v.oneCell' = true) (k : Nat) (hk : cs.length = k)
  (h : ∀ w', Rp w w' g t (splice cur off cs) → K (a.put o.dst (.int .i64 (k : Int))) w') : Oper.wp Tryz.prog o a w K Q := by
 obtain ⟨i0, hi, hz0, hz1, hz2⟩ := info_parts info_u8
 have hsz : (Tryz.prog.info? 5).map (·.size) = some 1 := by rw [hi]; exact congrArg some hz1
 subst hk
 by_cases h0 : cs.length = 0
 ·obtain rfl : cs = [] := List.eq_nil_of_length_eq_zero h0
  have hrun := run_copy_none (P := Tryz.prog) w 22 22 o.type 5 dp sp dLen dCap sLen sCap Tryz.underlying22 hsz (by simpa using hn.symm)
  unfold Oper.wp
  simp [execOp, ho, resolve, invoke, builtin, hd, hs, hrun, Result.andThen]
  exact h w ⟨by simpa [splice] using hg, fun _ _ => rfl, rfl, rfl, rfl, rfl⟩
 ·obtain ⟨rfl, ad, rfl, hsrc⟩ := hpos (by omega)
  have hrun := run_copy_row (P := Tryz.prog) w 22 22 o.type 5 g off dLen dCap ad sLen sCap cur.toArray t cs Tryz.underlying22 hsz hg hn hsrc (by simpa using hfit) h1
  unfold Oper.wp
  simp [execOp, ho, resolve, invoke, builtin, hd, hs, hrun, Result.andThen]
  exact h _ ⟨by simpa [splice] using setRow_heap w g _ _ _ _ hg, fun k hk => setRow_other w g k _ hk, by simp [World.setRow], rfl, rfl, rfl⟩
theorem oper_copy_rp {o : Oper} {a : Act} {w : World} {K : Act → World → Prop} {Q : Exit → Act → World → Prop} (d s : Operand)
  (ho : o.op = .call { callee := .builtin .copy, args := #[d, s], argTypes := #[22, 22] })
  (dp sp : Option Addr) (dLen dCap sLen sCap : Nat) (hd : a.eval d = .slice dp dLen dCap) (hs : a.eval s = .slice sp sLen sCap)
  (g off : Nat) (t : TypeId) (cs ts : List Int) (hg : Rt w g t cs) (hb : Byt w sp sLen sCap ts) (hn : sLen ≤ dLen) (hdp : 0 < sLen → dp = some ⟨g, off, none⟩) (hfit : off + sLen ≤ cs.length)
  (h : ∀ w', Rt w' g t (splice cs off ts) → w.grownBy w' (some g) → w'.heap.size = w.heap.size → K (a.put o.dst (.int .i64 (sLen : Int))) w') : Oper.wp Tryz.prog o a w K Q := by
 have hl := hb.len
 refine oper_copy_val d s ho dp sp dLen dCap sLen sCap hd hs g off t (cs.map (Value.int .u8)) hg (ts.map (Value.int .u8)) (by rw [List.length_map, hl]; exact (Nat.min_eq_left hn).symm) (fun h0 => ?_) (by rw [List.length_map, List.length_map]; omega) (ints_oneCell _ _) sLen (by rw [List.length_map, hl]) fun w' hro => h w' ?_ hro.grown hro.size
 ·refine ⟨hdp (by simpa [hl] using h0), ?_⟩
  cases sp with
  | none => have := (hb.nil rfl).1; simp [hl] at h0; omega
  | some ad => exact ⟨ad, rfl, hb.cells ad rfl⟩
 ·show _ = _
  rw [← splice_map]
  exact hro.row
theorem wpList_copy_rt {w : World} {ops : Array Oper} {rest : List Oper} {o : Oper} {a : Act} {Q : Exit → Act → World → Prop} (hgd : o.guard = none) (d s : Operand)
  (ho : o.op = .call { callee := .builtin .copy, args := #[d, s], argTypes := #[22, 22] })
  (dp sp : Option Addr) (dLen dCap sLen sCap : Nat) (hd : a.eval d = .slice dp dLen dCap) (hs : a.eval s = .slice sp sLen sCap)
  (g off : Nat) (t : TypeId) (cs ts : List Int) (hg : Rt w g t cs) (hb : Byt w sp sLen sCap ts) (hn : sLen ≤ dLen) (hdp : 0 < sLen → dp = some ⟨g, off, none⟩) (hfit : off + sLen ≤ cs.length)
  (h : ∀ w', Rt w' g t (splice cs off ts) → w.grownBy w' (some g) → w'.heap.size = w.heap.size → wpList Tryz.prog ops Q rest (a.put o.dst (.int .i64 (sLen : Int))) w') : wpList Tryz.prog ops Q (o :: rest) a w := by
 refine wpList_plain hgd fun K hK => ?_
 exact oper_copy_rp d s ho dp sp dLen dCap sLen sCap hd hs g off t cs ts hg hb hn hdp hfit fun w' h1 h2 h3 => hK _ _ (h w' h1 h2 h3)
theorem own_ne {w : World} {base sz : Nat} {e t : TypeId} {v : Value} {n : Nat} {xs : List Value} (ho : w.ownsRow base e sz v n xs) {b : Nat} {cur : Array Value} (h1 : w.heap[b]? = some (.cells cur t (0, 0))) (ht : t ≠ e) : some b ≠ v.ownBlock := by
 intro e1
 rcases ho.2 with ⟨rfl, _⟩ | ⟨g, cap, cur', rfl, _, hg, _⟩
 ·cases e1
 ·obtain rfl : b = g := Option.some.inj e1
  rw [h1] at hg
  simp only [Option.some.injEq, Obj.cells.injEq] at hg
  exact ht hg.2.1
structure Sx (w : World) (xs : List Value) (M : List (List Int)) : Prop where
 len : xs.length = M.length
 el : ∀ j, j < M.length → ∃ b v, xs[j]? = some v ∧ w.ownsRow b 5 1 v (M.getD j []).length ((M.getD j []).map (Value.int .u8))
theorem Sx.nil (w : World) : Sx w [] [] := ⟨rfl, fun j hj => by simp at hj⟩
theorem Sx.kept {w w' : World} {xs : List Value} {M : List (List Int)} {base sz n : Nat} {vl : Value} {ys : List Value} (h : Sx w xs M) (hg : w.grownBy w' vl.ownBlock) (ho : w.ownsRow base 22 sz vl n ys) : Sx w' xs M := by
 refine ⟨h.len, fun j hj => ?_⟩
 obtain ⟨b, v, h1, h2⟩ := h.el j hj
 refine ⟨b, v, h1, h2.kept hg ?_⟩
 rcases h2.2 with ⟨rfl, _⟩ | ⟨g, cap, cur', rfl, _, hgg, _⟩
 ·exact .inl rfl
 ·exact .inr (own_ne ho hgg (by decide))
theorem Sx.keptN {w w' : World} {xs : List Value} {M : List (List Int)} (h : Sx w xs M) (hg : w.grownBy w' none) : Sx w' xs M := by
 refine ⟨h.len, fun j hj => ?_⟩
 obtain ⟨b, v, h1, h2⟩ := h.el j hj
 exact ⟨b, v, h1, h2.kept hg (by cases v.ownBlock with | none => exact .inl rfl | some g => exact .inr (by simp))⟩
theorem Sx.snoc {w : World} {xs : List Value} {M : List (List Int)} {b n : Nat} {v : Value} {x : List Int} (h : Sx w xs M) (h1 : w.ownsRow b 5 1 v n (x.map (Value.int .u8))) (hn : x.length = n) : Sx w (xs ++ [v]) (M ++ [x]) := by
 have hl := h.len
 refine ⟨by simp [hl], fun j hj => ?_⟩
 rw [List.length_append] at hj
 simp only [List.length_cons, List.length_nil] at hj
 by_cases e : j < M.length
 ·obtain ⟨b, v, k1, k2⟩ := h.el j e
  have eg : (M ++ [x]).getD j [] = M.getD j [] := by simp [List.getD, List.getElem?_append_left e]
  rw [eg]
  exact ⟨b, v, by rw [List.getElem?_append_left (by omega)]; exact k1, k2⟩
 ·obtain rfl : j = M.length := by omega
  have eg : (M ++ [x]).getD M.length [] = x := by simp [List.getD]
  rw [eg, hn]
  exact ⟨b, v, by rw [List.getElem?_append_right (by omega), hl, Nat.sub_self]; rfl, h1⟩
theorem Sx.lz {w : World} {base : Nat} {v : Value} {n : Nat} {xs : List Value} {M : List (List Int)} (h : Sx w xs M) (ho : w.ownsRow base 22 1 v n xs) : ∃ a cap, v = .slice a n cap ∧ Lz w a M ∧ M.length = n ∧ n ≤ cap ∧ cap ≤ 9223372036854775807 := by
 have hl := h.len
 have hn : M.length = n := by have := ho.1; omega
 rcases ho.2 with ⟨rfl, rfl⟩ | ⟨g, cap, cur, rfl, _, _, hc, hm, _⟩
 ·obtain rfl : M = [] := List.length_eq_zero_iff.1 hn
  exact ⟨none, 0, rfl, Lz.zero _ _, rfl, Nat.le_refl _, by omega⟩
 ·refine ⟨_, cap, rfl, ⟨fun i hi => ?_⟩, hn, hc, by unfold maxLen at hm; omega⟩
  obtain ⟨b, v', h1, h2⟩ := h.el i hi
  have hcl := ho.cellAt i (by omega)
  obtain ⟨ao, c', e1, hb⟩ := owns_any h2
  subst e1
  rcases h2.2 with ⟨e2, e3⟩ | ⟨g', cap', cur', e2, _, _, hc', hm', _⟩
  ·rw [e3] at hb h1
   simp only [Value.slice.injEq] at e2
   obtain ⟨rfl, _, rfl⟩ := e2
   exact ⟨g, 0, none, 0, 0, rfl, by rw [Nat.zero_add, hcl]; exact h1, hb, Nat.le_refl _, by omega⟩
  ·simp only [Value.slice.injEq] at e2
   obtain ⟨rfl, _, rfl⟩ := e2
   exact ⟨g, 0, _, _, c', rfl, by rw [Nat.zero_add, hcl]; exact h1, hb, hc', by unfold maxLen at hm'; omega⟩
theorem grown_ownN {a b c : World} {row : Option Nat} (h : a.grownBy b none) (k : b.grownBy c row) (hr : ∀ g, row = some g → a.heap.size ≤ g) : a.grownBy c none :=
 ⟨k.os.trans h.os, k.tape.trans h.tape, k.output.trans h.output, Nat.le_trans h.size k.size,
  fun i hi hne => (k.block i (Nat.lt_of_lt_of_le hi h.size) (by intro e; have := hr i e.symm; omega)).trans (h.block i hi hne)⟩
end Go.Proofs.YtmbbflfknldaoaaGreatDoor
