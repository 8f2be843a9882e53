import Derived.Test.YtkiopabcnemgnaaGreatDoorK12
import Derived.Deep.RegionLaw
import Derived.Great.Walk
import Derived.Laws.CopyOwn
import Derived.Test.YtkiopabcnemgnaaGreatDoorK17
import Derived.Test.YtkiopabcnemgnaaGreatDoorK28
set_option maxRecDepth 100000
set_option maxHeartbeats 4000000
namespace Go.Proofs.YtkiopabcnemgnaaGreatDoor
open Go.RowKit
def Rw (w : World) (g : Nat) (zs : List Int) : Prop := w.heap[g]? = some (.cells (zs.map (Value.int .u8)).toArray 5 (0, 0))
theorem Rw.lt {w : World} {g : Nat} {zs : List Int} (h : Rw w g zs) : g < w.heap.size := (Array.getElem?_eq_some_iff.1 h).1
theorem Rw.cell {w : World} {g : Nat} {zs : List Int} (h : Rw w g zs) (i : Nat) (hi : i < zs.length) : w.cell? ⟨g, i, none⟩ = some (.int .u8 (zs.getD i 0)) := by
 rw [cell_of_row w g i _ _ (0, 0) h];simp [List.getD, List.getElem?_eq_getElem hi]
theorem Rw.byt {w : World} {g : Nat} {zs : List Int} (h : Rw w g zs) (off n cap : Nat) (hn : off + n ≤ zs.length) : Byt w (some ⟨g, off, none⟩) n cap ((zs.drop off).take n) := by
 refine Byt.of_cells (by rw [List.length_take, List.length_drop]; omega) fun i hi => ?_
 rw [h.cell (off + i) (by omega)];simp [List.getD, hi]
theorem Rw.all {w : World} {g : Nat} {zs : List Int} (h : Rw w g zs) (n cap : Nat) (hn : n = zs.length) : Byt w (some ⟨g, 0, none⟩) n cap zs := by
 have := h.byt 0 n cap (by omega)
 rwa [List.drop_zero, List.take_of_length_le (by omega)] at this
theorem Rw.kept {w w' : World} {row : Option Nat} {g : Nat} {zs : List Int} (h : Rw w g zs) (hg : w.grownBy w' row) (hne : some g ≠ row) : Rw w' g zs := (hg.block g h.lt hne).trans h
theorem Rw.keptN {w w' : World} {g : Nat} {zs : List Int} (h : Rw w g zs) (hg : w.grownBy w' none) : Rw w' g zs := h.kept hg (by simp)
theorem Rw.of_owns {w : World} {base g n : Nat} {zs : List Int} (h : w.ownsRow base 5 1 (.slice (some ⟨g, 0, none⟩) n n) n (zs.map (Value.int .u8))) : Rw w g zs := by
 rcases h with ⟨hl, ⟨h0, _⟩ | ⟨g', cap, cur, hv, _, hg, _, _, hs, ht⟩⟩
 ·cases h0
 ·injection hv with e1 e2 e3
  injection e1 with e1
  injection e1 with e4
  subst e4 e3
  have : cur.toList = zs.map (Value.int .u8) := by
   rw [← ht, List.take_of_length_le (by simp [hs])]
  unfold Rw;rw [hg, ← this]
theorem made (n : Nat) : (madeCells #[Value.int .u8 0] n).toList = (List.replicate n (0 : Int)).map (Value.int .u8) := by
 refine List.ext_getElem (by simp [madeCells]) fun i h1 h2 => ?_
 simp [madeCells, Nat.mod_one]
structure Ro (w w' : World) (g : Nat) (xs : List Value) : Prop where
 row : w'.heap[g]? = some (.cells xs.toArray 5 (0, 0))
 oth : ∀ k, k ≠ g → w'.heap[k]? = w.heap[k]?
 size : w'.heap.size = w.heap.size
 os : w'.os = w.os
 tape : w'.tape = w.tape
 output : w'.output = w.output
theorem Ro.cell {w w' : World} {g : Nat} {xs : List Value} (h : Ro w w' g xs) (R i : Nat) (hR : R ≠ g) : w'.cell? ⟨R, i, none⟩ = w.cell? ⟨R, i, none⟩ := World.cell?_of_block (h.oth R hR)
theorem Ro.grown {w w' : World} {g : Nat} {xs : List Value} (h : Ro w w' g xs) : w.grownBy w' (some g) :=
 ⟨h.os, h.tape, h.output, by rw [h.size]; exact Nat.le_refl _, fun k _ hne => h.oth k (fun e => hne (by rw [e]))⟩
theorem step_copy_ro {ops : Array Oper} {o : Oper} {a : Act} {w : World} {K : Act → World → Prop} {Q : Exit → Act → World → Prop} {E : Prop} (hgd : o.guard = none) (d s : Operand)
  (ho : o.op = .call { callee := .builtin .copy, args := #[d, s], argTypes := #[25, 25] })
  (dp sp : Option Addr) (dLen dCap sLen sCap : Nat) (hd : a.eval d = .slice dp dLen dCap) (hs : a.eval s = .slice sp sLen sCap)
  (g off : Nat) (cur : List Value) (hg : w.heap[g]? = some (.cells cur.toArray 5 (0, 0))) (cs : List Value) (hn : cs.length = Nat.min sLen dLen)
  (hpos : 0 < cs.length → dp = some ⟨g, off, none⟩ ∧ ∃ ad, sp = some ad ∧ ∀ j v, cs[j]? = some v → w.cell? (ad.add j) = some v)
  (hfit : off + cs.length ≤ cur.length) (h1 : ∀ v ∈ cs, v.oneCell' = true) (k : Nat) (hk : cs.length = k)
  (h : ∀ w', Ro w w' g (splice cur off cs) → K (a.put o.dst (.int .i64 (k : Int))) w') :
  if Region.wanted o (yielded ops a.tmps) = true then Oper.wp Tryz.prog o a w K Q else E := by
 obtain ⟨i0, hi, hz0, hz1, hz2⟩ := info_parts info_u8;have hsz : (Tryz.prog.info? 5).map (·.size) = some 1 := by rw [hi]; exact congrArg some hz1
 have hw : Region.wanted o (yielded ops a.tmps) = true := by simp [Region.wanted, hgd]
 rw [if_pos hw];subst hk
 by_cases h0 : cs.length = 0
 ·obtain rfl : cs = [] := List.eq_nil_of_length_eq_zero h0
  have hrun := run_copy_none (P := Tryz.prog) w 25 25 o.type 5 dp sp dLen dCap sLen sCap Tryz.underlying25 hsz (by simpa using hn.symm);unfold Oper.wp;simp [execOp, ho, resolve, invoke, builtin, hd, hs, hrun, Result.andThen];exact h w ⟨by simpa [splice] using hg, fun _ _ => rfl, rfl, rfl, rfl, rfl⟩
 ·obtain ⟨rfl, ad, rfl, hsrc⟩ := hpos (by omega)
  have hrun := run_copy_row (P := Tryz.prog) w 25 25 o.type 5 g off dLen dCap ad sLen sCap cur.toArray 5 cs Tryz.underlying25 hsz hg hn hsrc (by simpa using hfit) h1;unfold Oper.wp;simp [execOp, ho, resolve, invoke, builtin, hd, hs, hrun, Result.andThen];exact h _ ⟨by simpa [splice] using setRow_heap w g _ _ _ _ hg, fun k hk => setRow_other w g k _ hk, by simp [World.setRow], rfl, rfl, rfl⟩
def Wt (w : World) (R G p : Nat) : Prop := w.heap[R]? = some (.cells #[.slice (some ⟨G, 0, none⟩) 4092 4092, .int .i64 p] 184 (0, 0))
theorem Wt.cells {w : World} {R G p : Nat} (h : Wt w R G p) : w.cell? ⟨R, 0, none⟩ = some (.slice (some ⟨G, 0, none⟩) 4092 4092) ∧ w.cell? ⟨R, 1, none⟩ = some (.int .i64 p) ∧ w.frozen? ⟨R, 1, none⟩ = false := by
 refine ⟨?_, ?_, frozen_of_row w R 1 _ _ h⟩
 ·rw [cell_of_row w R 0 _ _ _ h]; rfl
 ·rw [cell_of_row w R 1 _ _ _ h]; rfl
theorem Wt.lt {w : World} {R G p : Nat} (h : Wt w R G p) : R < w.heap.size := (Array.getElem?_eq_some_iff.1 h).1
theorem Wt.set {w : World} {R G p : Nat} (h : Wt w R G p) (q : Nat) (v : Int) (hv : v = (q : Int)) : Wt (w.setCell ⟨R, 1, none⟩ (.int .i64 v)) R G q := by
 have := heap_setCell_same w R 1 _ _ (.int .i64 v) h;subst hv;exact this
structure Two (w w' : World) (R G : Nat) : Prop where
 os : w'.os = w.os
 tape : w'.tape = w.tape
 output : w'.output = w.output
 size : w.heap.size ≤ w'.heap.size
 block : ∀ k, k < w.heap.size → k ≠ R → k ≠ G → w'.heap[k]? = w.heap[k]?
theorem Two.of_grown {w w' : World} {R G : Nat} (h : w.grownBy w' none) : Two w w' R G := ⟨h.os, h.tape, h.output, h.size, fun k hk _ _ => h.block k hk (by simp)⟩
theorem Two.trans {a b c : World} {R G : Nat} (h : Two a b R G) (k : Two b c R G) : Two a c R G :=
 ⟨k.os.trans h.os, k.tape.trans h.tape, k.output.trans h.output, Nat.le_trans h.size k.size, fun i hi h1 h2 => (k.block i (Nat.lt_of_lt_of_le hi h.size) h1 h2).trans (h.block i hi h1 h2)⟩
theorem Two.grown {w0 w w' : World} {R G : Nat} (h : Two w w' R G) (hg : w0.grownBy w none) (h1 : w0.heap.size ≤ R) (h2 : w0.heap.size ≤ G) : w0.grownBy w' none :=
 ⟨h.os.trans hg.os, h.tape.trans hg.tape, h.output.trans hg.output, Nat.le_trans hg.size h.size, fun k hk _ => (h.block k (Nat.lt_of_lt_of_le hk hg.size) (by omega) (by omega)).trans (hg.block k hk (by simp))⟩
theorem splice_map (cs zs : List Int) (p : Nat) : splice (cs.map (Value.int .u8)) p (zs.map (Value.int .u8)) = (splice cs p zs).map (Value.int .u8) := by
 simp [splice]
theorem lay_any (R G p : Nat) (cs : List Int) (ao : Option Addr) (n c : Nat) (zs : List Int) (w : World) (hw : Wt w R G p) (hr : Rw w G cs) (hcs : cs.length = 4092) (hb : Byt w ao n c zs) (hRG : R ≠ G) (hp : p + n ≤ 4092) :
  Calls Tryz.prog 156 #[.pointer (some ⟨R, 0, none⟩), .slice ao n c] w fun en w' => en = .returned (.tuple #[]) ∧ Wt w' R G (p + n) ∧ Rw w' G (splice cs p zs) ∧ Two w w' R G ∧ w'.heap.size = w.heap.size := by
 obtain ⟨c0, c1, f1⟩ := hw.cells;have hl := hb.len;obtain ⟨X, hX⟩ : ∃ X, X = zs.map (Value.int .u8) := ⟨_, rfl⟩;obtain ⟨Z, hZ⟩ : ∃ Z, Z = cs.map (Value.int .u8) := ⟨_, rfl⟩;have hXl : X.length = n := by rw [hX, List.length_map]; exact hl
 have hZl : Z.length = 4092 := by rw [hZ, List.length_map]; exact hcs
 have hX1 : ∀ v ∈ X, v.oneCell' = true := by rw [hX]; exact ints_oneCell _ _
 have HZ : Hid (∀ W : World, W.heap = w.heap → W.heap[G]? = some (.cells Z.toArray 5 (0, 0))) := fun W e => by rw [e, hZ]; exact hr
 have HS : Hid (∀ W : World, W.heap = w.heap → 0 < X.length → ∃ ad, ao = some ad ∧ ∀ j v, X[j]? = some v → W.cell? (ad.add j) = some v) := by
  intro W e h0;cases ao with
  | none => have := (hb.nil rfl).1; omega
  | some ad => exact ⟨ad, rfl, by rw [hX]; exact (hb.heap e).cells ad rfl⟩
 have HC : Hid (∀ W : World, W.heap = w.heap → W.cell? ⟨R, 0, none⟩ = some (.slice (some ⟨G, 0, none⟩) 4092 4092) ∧ W.cell? ⟨R, 1, none⟩ = some (.int .i64 p) ∧ W.frozen? ⟨R, 1, none⟩ = false) := by
  intro W e;exact ⟨(World.cell?_of_block (by rw [e])).trans c0, (World.cell?_of_block (by rw [e])).trans c1, (World.frozen?_of_block (by rw [e])).trans f1⟩
 have HF : Hid (∀ w4 wq : World, wq.os = w.os → wq.tape = w.tape → wq.output = w.output → wq.heap = w.heap → Ro wq w4 G (splice Z p X) → ∀ v : Int, v = ((p + n : Nat) : Int) → Wt (w4.setCell ⟨R, 1, none⟩ (.int .i64 v)) R G (p + n) ∧ Rw (w4.setCell ⟨R, 1, none⟩ (.int .i64 v)) G (splice cs p zs) ∧ Two w (w4.setCell ⟨R, 1, none⟩ (.int .i64 v)) R G ∧ (w4.setCell ⟨R, 1, none⟩ (.int .i64 v)).heap.size = w.heap.size) := by
  intro w4 wq e1 e2 e3 e4 hro v hv;have h4 : Wt w4 R G p := (hro.oth R hRG).trans (by rw [e4]; exact hw);have hs : w4.heap.size = w.heap.size := by rw [hro.size, e4]
  have hg := grown_cell w4 R 1 (.int .i64 v);refine ⟨h4.set (p + n) v hv, ?_, ⟨hro.os.trans e1, hro.tape.trans e2, hro.output.trans e3, ?_, fun k hk h1 h2 => ?_⟩, ?_⟩
  ·have : Rw w4 G (splice cs p zs) := by
    unfold Rw;rw [← splice_map, ← hX, ← hZ];exact hro.row
   exact this.kept hg (fun e => hRG (Option.some.inj e).symm)
  ·have := hg.size; omega
  ·rw [hg.block k (by omega) (fun e => h1 (Option.some.inj e)), hro.oth k h2, e4]
  ·simp [hs]
 clear hw hr hX hZ hb;have g1 : (p : Int) ≤ 4092 := by omega
 have hwr : Hid (IntKind.i64.wrap ((p : Int) + (n : Int)) = ((p + n : Nat) : Int)) := by show _ = _; simp [IntKind.wrap, IntKind.bits, IntKind.signed]; omega
 by_cases hp2 : p < 4092
 ·have g2 : ¬ 4092 = p := by omega
  go_enter Tryz.func156, Tryz.ntmps156
  go_wp2_with fail
  go_region_law
   (refine step_copy_ro rfl (.tmp 16) (.tmp 17) (by rfl) _ _ _ _ _ _ (by rfl) (by rfl) G p Z (by exact HZ.out _ rfl) X (by rw [hXl]; exact (Nat.min_eq_left (by omega)).symm) (fun h => ⟨by rfl, by exact HS.out _ rfl h⟩) (by omega) hX1 n hXl ?_; intro w4 hro; have cc0 := (hro.cell R 0 hRG).trans (by exact (HC.out _ rfl).1); have cc1 := (hro.cell R 1 hRG).trans (by exact (HC.out _ rfl).2.1); have ff1 := (World.frozen?_of_block (hro.oth R hRG)).trans (by exact (HC.out _ rfl).2.2))
  all_goals
   refine Go.Great.bodyPost_end0 rfl rfl ?_;exact ⟨rfl, HF.out w4 w.drew rfl rfl rfl rfl hro _ hwr.out⟩
 ·have hp3 : 4092 = p := by omega
  subst hp3;obtain rfl : n = 0 := by omega
  go_enter Tryz.func156, Tryz.ntmps156
  go_wp2_with fail
  go_region_law
   (refine step_copy_ro rfl (.tmp 16) (.tmp 17) (by rfl) _ _ _ _ _ _ (by rfl) (by rfl) G 4092 Z (by exact HZ.out _ rfl) X (by rw [hXl]; rfl) (fun h => absurd h (by omega)) (by omega) hX1 0 hXl ?_; intro w4 hro; have cc0 := (hro.cell R 0 hRG).trans (by exact (HC.out _ rfl).1); have cc1 := (hro.cell R 1 hRG).trans (by exact (HC.out _ rfl).2.1); have ff1 := (World.frozen?_of_block (hro.oth R hRG)).trans (by exact (HC.out _ rfl).2.2))
  all_goals
   refine Go.Great.bodyPost_end0 rfl rfl ?_;exact ⟨rfl, HF.out w4 w.drew rfl rfl rfl rfl hro _ (by first | rfl | exact hwr.out)⟩
theorem Below_of' {w w' : World} (h : w.grownBy w' none) : Below w.heap.size w w' := ⟨h.os, h.tape, h.output, h.size, fun k hk => h.block k hk (by simp)⟩
theorem grown_of_below {w w' : World} (h : Below w.heap.size w w') : w.grownBy w' none := ⟨h.os, h.tape, h.output, h.size, fun k hk _ => h.block k hk⟩
theorem splice_page {Z X C : List Value} (hZ : Z.length = 4096) (hX : X.length = 4092) (hC : C.length = 4) : splice (splice Z 0 X) 4092 C = X ++ C := by
 unfold splice;rw [List.take_zero, List.nil_append, Nat.zero_add, List.take_left' hX, hC, List.drop_eq_nil_of_le (by rw [List.length_append, List.length_drop]; omega), List.append_nil]
theorem seal_bad (ao : Option Addr) (n cap : Nat) (w : World) (h : n ≠ 4092) :
  Calls Tryz.prog 36 #[.slice ao n cap] w fun e w' => e = .returned (.tuple #[.slice none 0 0, .int .i64 20]) ∧ w' = w := by
 go_enter Tryz.func36, Tryz.ntmps36;go_wp2
 go_ret2
 exact ⟨rfl, rfl⟩
theorem seal_ok (ao : Option Addr) (cap : Nat) (zs : List Int) (w : World) (hb : Byt w ao 4092 cap zs) (bt : Bt zs) (ht : Tab w) :
  Calls Tryz.prog 36 #[.slice ao 4092 cap] w fun e w' =>
   e = .returned (.tuple #[.slice (some ⟨w.heap.size, 0, none⟩) 4096 4096, .int .i64 0]) ∧ Rw w' w.heap.size (zs ++ low4 (upd 0 zs)) ∧ w.grownBy w' none := by
 obtain ⟨i0, hi, hz0, hz1, hz2⟩ := info_parts info_u8;have HB := hJ hb;have HT := hJ ht
 have hao : ∃ ad, ao = some ad := by
  cases ao with
  | none => have := (hb.nil rfl).1; omega
  | some ad => exact ⟨ad, rfl⟩
 obtain ⟨ad, rfl⟩ := hao;clear hb ht;go_enter Tryz.func36, Tryz.ntmps36
 go_wp2_with (at_make; refine wpList_make_full _ rfl _ _ 25 rfl w.heap.size 5 i0 (.int .u8 0) 1 Tryz.underlying25 hi hz0 hz1 _ _ _ _ 4096 rfl rfl rfl rfl ?b2 ?b3 (Nat.le_refl _) ?_)
 case b2 => rw [hz2]; omega
 case b3 => unfold maxLen; omega
 intro w0 hown0 hg0;rw [made] at hown0;have R0 := hJ (Rw.of_owns hown0);have G0 := hJ hg0;clear hown0 hg0;obtain ⟨X, hX⟩ : ∃ X, X = zs.map (Value.int .u8) := ⟨_, rfl⟩;obtain ⟨Z, hZ⟩ : ∃ Z, Z = (List.replicate 4096 (0 : Int)).map (Value.int .u8) := ⟨_, rfl⟩;have hXl : X.length = 4092 := by rw [hX, List.length_map]; exact HB.out.len
 have hZl : Z.length = 4096 := by rw [hZ, List.length_map, List.length_replicate]
 have hX1 : ∀ v ∈ X, v.oneCell' = true := by rw [hX]; exact ints_oneCell _ _
 have HX := hJ hX;have HZ := hJ hZ;have R0' : Hid (w0.heap[w.heap.size]? = some (.cells Z.toArray 5 (0, 0))) := by show _ = _; rw [hZ]; exact R0.out
 have hc0 : Hid (∀ j v, X[j]? = some v → w0.cell? (ad.add j) = some v) := by show ∀ j v, _; rw [hX]; exact (HB.out.keptN G0.out).cells ad rfl
 clear hX hZ R0
 go_wp2_with (refine wpList_copy_splice rfl _ _ 25 25 rfl 5 Tryz.underlying25 (by rw [hi]; exact congrArg some hz1) _ _ _ _ _ _ rfl rfl w.heap.size 0 Z 5 R0'.out X (by rw [hXl]; rfl) (fun _ => ⟨rfl, ad, rfl, hc0.out⟩) (by omega) hX1 w.heap.size w (Below_of' G0.out) (Nat.le_refl _) ?_)
 intro w1 HR1 hB1;have G1 := hJ (grown_of_below hB1);clear hB1 hc0 R0' G0
 go_wp2_with fail
 refine (sumBytes_any (some ad) 4092 cap zs w1 (HB.out.keptN G1.out) bt (HT.out.keptN G1.out) (by omega)).mono ?_;rintro e w2 ⟨rfl, hg2⟩;have hs2 : w.heap.size < w2.heap.size := Nat.lt_of_lt_of_le (Array.getElem?_eq_some_iff.1 HR1.out).1 hg2.size;have HR2 : Hid (w2.heap[w.heap.size]? = some (.cells (splice Z 0 X).toArray 5 (0, 0))) := (hg2.block _ (Array.getElem?_eq_some_iff.1 HR1.out).1 (by simp)).trans HR1.out;have G2 := hJ (gQ G1.out hg2);clear hg2 G1 HR1;have hl := upd_lt 0 zs;generalize hs : upd 0 zs = s at *;have HS := hJ hs;clear hs;unfold arr4;obtain ⟨P1, hP1⟩ : ∃ P1, P1 = splice Z 0 X := ⟨_, rfl⟩;have HP1 := hJ hP1;rw [← hP1] at HR2;have hP1l : P1.length = 4096 := by rw [hP1, length_splice _ _ _ (by omega)]; exact hZl
 clear hP1;obtain ⟨C, hC⟩ : ∃ C, C = (low4 s).map (Value.int .u8) := ⟨_, rfl⟩;have hCl : C.length = 4 := by rw [hC]; rfl
 have hC1 : ∀ v ∈ C, v.oneCell' = true := by rw [hC]; exact ints_oneCell _ _
 have HC := hJ hC
 have HW : Hid (∀ W : World, W.heap = (w2.alloc (.cells #[Value.int IntKind.u8 ((s : Int) % 256), Value.int IntKind.u8 ((s : Int) / 256 % 256), Value.int IntKind.u8 ((s : Int) / 65536 % 256), Value.int IntKind.u8 ((s : Int) / 16777216 % 256)] 99 (0, 0))).heap →
   W.heap[w.heap.size]? = some (.cells P1.toArray 5 (0, 0)) ∧ ∀ j v, C[j]? = some v → W.cell? ((⟨w2.heap.size, 0, none⟩ : Addr).add j) = some v) := by
  intro W hW;rw [hW];refine ⟨(heap_alloc_old w2 _ hs2).trans HR2.out, fun j v hv => ?_⟩;rw [Addr.add_lit, Nat.zero_add, cell_of_row W w2.heap.size j _ _ (0, 0) (by rw [hW]; exact heap_alloc_new w2 _)];rw [hC] at hv;simpa [low4] using hv
 have G3 := fun o => hJ (gQ G2.out (World.grownBy_alloc w2 o none))
 clear hC HR2 G2
 go_wp2_with fail
 go_region_law
  (refine step_copy_splice rfl (.tmp 16) (.tmp 17) 25 25 (by rfl) 5 Tryz.underlying25 (by rw [hi]; exact congrArg some hz1) _ _ _ _ _ _ (by rfl) (by rfl) w.heap.size 4092 P1 5 (by exact (HW.out _ rfl).1) C (by rw [hCl]; rfl) (fun _ => ⟨rfl, _, rfl, by exact (HW.out _ rfl).2⟩) (by omega) hC1 w.heap.size w (by have h := Below_of' (G3 (.cells #[Value.int IntKind.u8 ((s : Int) % 256), Value.int IntKind.u8 ((s : Int) / 256 % 256), Value.int IntKind.u8 ((s : Int) / 65536 % 256), Value.int IntKind.u8 ((s : Int) / 16777216 % 256)] 99 (0, 0))).out; exact ⟨h.os, h.tape, h.output, h.size, h.block⟩) (Nat.le_refl _) ?_; intro w4 HR4 hB4)
 all_goals
  go_wp2
  go_ret2
  rw [HS.out];refine ⟨rfl, ?_, grown_of_below hB4⟩;unfold Rw;rw [List.map_append, ← HX.out, ← HC.out, ← splice_page hZl hXl hCl, ← HP1.out];exact HR4.out
theorem splice_len {cs zs : List Int} {p : Nat} (h : p + zs.length ≤ cs.length) : (splice cs p zs).length = cs.length := length_splice cs p zs h
theorem splice_nil (cs : List Int) (p : Nat) : splice cs p [] = cs := by simp [splice]
theorem splice_two {cs xs ys : List Int} {p : Nat} (h : p + xs.length + ys.length ≤ cs.length) : splice (splice cs p xs) (p + xs.length) ys = splice cs p (xs ++ ys) := by
 unfold splice
 have e1 : (cs.take p ++ (xs ++ cs.drop (p + xs.length))).take (p + xs.length) = cs.take p ++ xs := by
  rw [← List.append_assoc, List.take_left' (by simp; omega)]
 have e2 : (cs.take p ++ (xs ++ cs.drop (p + xs.length))).drop (p + xs.length + ys.length) = cs.drop (p + xs.length + ys.length) := by
  rw [← List.append_assoc, ← List.drop_drop, List.drop_left' (by simp; omega), List.drop_drop]
 rw [e1, e2];simp [Nat.add_assoc]
theorem Wt.kept {w w' : World} {R G p : Nat} (h : Wt w R G p) (hg : w.grownBy w' none) : Wt w' R G p := (hg.block R h.lt (by simp)).trans h
theorem Wt.two {w w' : World} {R G p R' : Nat} (h : Wt w R' G p) (hg : Two w w' R G) (h1 : R' ≠ R) (h2 : R' ≠ G) : Wt w' R' G p := (hg.block R' h.lt h1 h2).trans h
theorem Byt.two {w w' : World} {R G : Nat} {ao : Option Addr} {n c : Nat} {zs : List Int} (h : Byt w ao n c zs) (hg : Two w w' R G) (hne : ∀ ad, ao = some ad → 0 < n → ad.block ≠ R ∧ ad.block ≠ G) : Byt w' ao n c zs := by
 refine ⟨h.len, h.nil, fun ad had j u hu => ?_⟩;have hj : j < zs.length := by have := (List.getElem?_eq_some_iff.1 hu).1; simpa using this
 have hc := h.cells ad had j u hu;have hb : (ad.add j).block = ad.block := by unfold Addr.add; split <;> rfl
 have hn := hne ad had (by have := h.len; omega);have hlt := World.block_lt_of_cell? w _ hc;rw [World.cell?_of_block (hg.block _ hlt (by rw [hb]; exact hn.1) (by rw [hb]; exact hn.2))];exact hc
theorem Byt.lt {w : World} {ao : Option Addr} {n c : Nat} {zs : List Int} (h : Byt w ao n c zs) {ad : Addr} (e : ao = some ad) (hn : 0 < n) : ad.block < w.heap.size := by
 obtain ⟨b, off, e2, hb, _⟩ := h.at hn;rw [e] at e2;obtain rfl := Option.some.inj e2;exact hb
theorem Byt.drop {w : World} {b off : Nat} {n c : Nat} {zs : List Int} (h : Byt w (some ⟨b, off, none⟩) n c zs) (k c' : Nat) (hk : k ≤ n) : Byt w (some ⟨b, off + k, none⟩) (n - k) c' (zs.drop k) := by
 have hl := h.len;refine Byt.of_cells (by rw [List.length_drop]; omega) fun i hi => ?_
 obtain ⟨b', off', e, _, hc⟩ := h.at (by omega);simp only [Option.some.injEq, Addr.mk.injEq] at e;obtain ⟨rfl, rfl, _⟩ := e;rw [Nat.add_assoc, hc (k + i) (by omega)];simp [List.getD]
theorem Byt.zlen (w : World) (b off c : Nat) : Byt w (some ⟨b, off, none⟩) 0 c [] := Byt.of_cells rfl fun i hi => by omega
theorem put_u8_nil (x : Nat) (w : World) (hx : x < 256) :
  Calls Tryz.prog 144 #[.slice none 0 0, .int .u8 x] w fun e w' => e = .returned (.slice (some ⟨w.heap.size, 0, none⟩) 1 1) ∧ Byt w' (some ⟨w.heap.size, 0, none⟩) 1 1 (lb 1 x) ∧ w.grownBy w' none ∧ w.heap.size < w'.heap.size := by
 refine (put_u8 none 0 0 [] x w (Byt.empty w) (by omega) hx).mono ?_;rintro e w' ⟨rfl, h1, h2, h3⟩;exact ⟨rfl, Byt.of_owns h1, h2, h3⟩
theorem put_u16_nil (x : Nat) (w : World) (hx : x < 65536) :
  Calls Tryz.prog 157 #[.slice none 0 0, .int .u16 x] w fun e w' => e = .returned (.slice (some ⟨w.heap.size, 0, none⟩) 2 2) ∧ Byt w' (some ⟨w.heap.size, 0, none⟩) 2 2 (lb 2 x) ∧ w.grownBy w' none ∧ w.heap.size < w'.heap.size := by
 refine (put_u16 none 0 0 [] x w (Byt.empty w) (by omega) hx).mono ?_;rintro e w' ⟨rfl, h1, h2, h3⟩;exact ⟨rfl, Byt.of_owns h1, h2, h3⟩
theorem put_u32_nil (x : Nat) (w : World) (hx : x < 4294967296) :
  Calls Tryz.prog 140 #[.slice none 0 0, .int .u32 x] w fun e w' => e = .returned (.slice (some ⟨w.heap.size, 0, none⟩) 4 4) ∧ Byt w' (some ⟨w.heap.size, 0, none⟩) 4 4 (lb 4 x) ∧ w.grownBy w' none ∧ w.heap.size < w'.heap.size := by
 refine (put_u32 none 0 0 [] x w (Byt.empty w) (by omega) hx).mono ?_;rintro e w' ⟨rfl, h1, h2, h3⟩;exact ⟨rfl, Byt.of_owns h1, h2, h3⟩
theorem splice_four {cs A B C D : List Int} {q a b c : Nat} (ha : A.length = a) (hb : B.length = b) (hc : C.length = c) (h : q + a + b + c + D.length ≤ cs.length) :
  splice (splice (splice (splice cs q A) (q + a) B) (q + a + b) C) (q + a + b + c) D = splice cs q (A ++ (B ++ (C ++ D))) := by
 subst ha hb hc;have e1 := splice_two (cs := cs) (xs := A) (ys := B) (p := q) (by omega);have e2 := splice_two (cs := cs) (xs := A ++ B) (ys := C) (p := q) (by simp only [List.length_append]; omega);have e3 := splice_two (cs := cs) (xs := A ++ B ++ C) (ys := D) (p := q) (by simp only [List.length_append]; omega);simp only [List.length_append, ← Nat.add_assoc] at e2 e3;rw [e1, e2, e3];simp only [List.append_assoc]
theorem layCell_any (R G q : Nat) (cs : List Int) (b off n c : Nat) (bo : Option Addr) (m d : Nat) (s f : Int) (p : Nat) (x : It) (w : World) (hw : Wt w R G q) (hr : Rw w G cs) (hcs : cs.length = 4092) (hRG : R ≠ G)
  (hk : Byt w (some ⟨b, off, none⟩) n c x.key) (hv : Byt w bo m d x.val) (hs : x.size = s) (hf : x.first = f) (h1 : ws x = false) (h2 : wv x = false) (hp : p ≤ n) (hnc : n ≤ c) (hq : q + (cb p x).length ≤ 4092)
  (hkb : b ≠ R ∧ b ≠ G) (hvb : ∀ ad, bo = some ad → 0 < m → ad.block ≠ R ∧ ad.block ≠ G) :
  Calls Tryz.prog 159 #[.pointer (some ⟨R, 0, none⟩), .agg #[.slice (some ⟨b, off, none⟩) n c, .slice bo m d, .int .i64 s, .int .i64 f], .int .i64 p] w fun en w' => en = .returned (.tuple #[]) ∧ Wt w' R G (q + (cb p x).length) ∧ Rw w' G (splice cs q (cb p x)) ∧ Two w w' R G := by
 obtain ⟨a1, a2, a3, a4⟩ := ws_parts h1;have hlk := hk.len;have htg := tg_parts h1 h2;have htt := tg_lt x.size;obtain ⟨t, ht⟩ : ∃ t, tg x.size = t := ⟨_, rfl⟩;obtain ⟨r, hr2⟩ : ∃ r, n - p = r := ⟨_, rfl⟩;obtain ⟨k, hk2⟩ : ∃ k, x.size = ((k : Nat) : Int) := ⟨x.size.toNat, by omega⟩;obtain rfl : s = (k : Int) := by rw [← hs, hk2]
 have hk5 : k ≤ 262144 := by omega
 have HT : Hid ((if 512 < k then 2 * k + 1 else 2 * k) = t) := by
  show _ = _
  rw [← ht]; unfold tg; rw [lg_of a3 a4, hk2]; rfl
 have hwl := hw.lt;have hrl := hr.lt;have g1 : (p : Int) ≤ (n : Int) := by omega
 have g2 : (0 : Int) ≤ (p : Int) := by omega
 have g3 : (p : Int) ≤ (c : Int) := by omega
 obtain ⟨y, hy⟩ : ∃ y, (if 512 < x.size then lb 4 x.first.toNat else x.val).length = y := ⟨_, rfl⟩;have HCB : Hid (cb p x = vform r ++ (x.key.drop p ++ (vform t ++ (if 512 < x.size then lb 4 x.first.toNat else x.val)))) := by show _ = _; unfold cb; rw [hlk, hr2, ht]
 have hcl : (cb p x).length = (vform r).length + r + (vform t).length + y := by
  rw [HCB.out]; simp only [List.length_append, List.length_drop]; omega
 have hq' : q + (vform r).length + r + (vform t).length + y ≤ 4092 := by omega
 have HD : Hid ((x.key.drop p).length = r) := by show _ = _; rw [List.length_drop]; omega
 have hvl := wv_parts h2;obtain ⟨l1, hl1⟩ : ∃ l1, (vform r).length = l1 := ⟨_, rfl⟩;obtain ⟨l2, hl2⟩ : ∃ l2, (vform t).length = l2 := ⟨_, rfl⟩;have P1 := hJ (fun W : World => putV_nil r W (by omega));have P2 := hJ (fun W : World => putV_nil t W (by omega));rw [hl1] at hq' hcl P1;rw [hl2] at hq' hcl P2;have HA := hJ hl1;have HC := hJ hl2;clear hl1 hl2;generalize vform r = A at *;generalize vform t = C at *;generalize hB : x.key.drop p = B at *;have HB := hJ hB;have HCL := hJ hcl;have G1 := hJ (World.grownBy_alloc w (.cells #[.slice (some ⟨b, off, none⟩) n c, .slice bo m d, .int .i64 (k : Int), .int .i64 f] 62) none);have HW := hJ (hw.kept G1.out);have HR := hJ (hr.keptN G1.out);have HV := hJ (hv.keptN G1.out);have HK0 := hJ (hk.keptN G1.out);have HYV := hJ hy;have hlv := hv.len;clear hw hr hk hv hcl hq hy;have b1' : Hid ((w.alloc (.cells #[.slice (some ⟨b, off, none⟩) n c, .slice bo m d, .int .i64 (k : Int), .int .i64 f] 62)).cell? ⟨w.heap.size, 1, none⟩ = some (.slice bo m d)) := by show _ = _; rw [cell_of_row _ w.heap.size 1 _ _ (0, 0) (heap_alloc_new w _)]; rfl
 have b2' : Hid ((w.alloc (.cells #[.slice (some ⟨b, off, none⟩) n c, .slice bo m d, .int .i64 (k : Int), .int .i64 f] 62)).cell? ⟨w.heap.size, 2, none⟩ = some (.int .i64 (k : Int))) := by show _ = _; rw [cell_of_row _ w.heap.size 2 _ _ (0, 0) (heap_alloc_new w _)]; rfl
 have b3' : Hid ((w.alloc (.cells #[.slice (some ⟨b, off, none⟩) n c, .slice bo m d, .int .i64 (k : Int), .int .i64 f] 62)).cell? ⟨w.heap.size, 3, none⟩ = some (.int .i64 f)) := by show _ = _; rw [cell_of_row _ w.heap.size 3 _ _ (0, 0) (heap_alloc_new w _)]; rfl
 have WL := hJ hwl;have RL := hJ hrl;clear hwl hrl
 by_cases hcp : c = p
 ·subst hcp
  have HK : Hid (Byt (w.alloc (.cells #[.slice (some ⟨b, off, none⟩) n c, .slice bo m d, .int .i64 (k : Int), .int .i64 f] 62)) (some ⟨b, off, none⟩) r 0 B) := by
   obtain rfl : r = 0 := by omega
   have e : B = [] := List.length_eq_zero_iff.1 HD.out;rw [e];exact Byt.zlen _ _ _ _
  go_enter Tryz.func159, Tryz.ntmps159
  go_wp2_with fail
  have Q1 := b1'.out;have Q2 := b2'.out;have Q3 := b3'.out;clear b1' b2' b3';generalize w.alloc (.cells #[.slice (some ⟨b, off, none⟩) n c, .slice bo m d, .int .i64 (k : Int), .int .i64 f] 62) = w1 at *;refine (P1.out _).mono ?_;rintro en w2 ⟨rfl, hb2, hg2, hs2⟩;have W2 := hJ (HW.out.kept hg2);have R2 := hJ (HR.out.keptN hg2);have B2 := hJ hb2;have K2 := hJ (HK.out.keptN hg2);have V2 := hJ (HV.out.keptN hg2);have T2 := hJ (Two.of_grown (R := R) (G := G) (gQ G1.out hg2));have b1 := hg2.cell Q1 (by simp);have b2 := hg2.cell Q2 (by simp);have b3 := hg2.cell Q3 (by simp);have HNE : Hid (w.heap.size ≠ R ∧ w.heap.size ≠ G) := ⟨fun e => by have := WL.out; omega, fun e => by have := RL.out; omega⟩;clear hb2 hg2 hs2 HW HR HK HV Q1 Q2 Q3
  go_wp2_with fail
  refine (lay_any R G q cs _ _ _ A _ W2.out R2.out hcs B2.out hRG (by omega)).mono ?_;rintro en w3 ⟨rfl, hw3, hr3, ht3, hs3⟩;have W3 := hJ hw3;have R3 := hJ hr3;have K3 := hJ (K2.out.two ht3 (fun ad e _ => by obtain rfl := Option.some.inj e; exact hkb));have V3 := hJ (V2.out.two ht3 hvb);have T3 := hJ (T2.out.trans ht3);have d1 : w3.cell? ⟨w.heap.size, 1, none⟩ = some (.slice bo m d) := (World.cell?_of_block (ht3.block w.heap.size (World.block_lt_of_cell? _ _ b1) HNE.out.1 HNE.out.2)).trans b1;have d2 : w3.cell? ⟨w.heap.size, 2, none⟩ = some (.int .i64 (k : Int)) := (World.cell?_of_block (ht3.block w.heap.size (World.block_lt_of_cell? _ _ b1) HNE.out.1 HNE.out.2)).trans b2;have d3 : w3.cell? ⟨w.heap.size, 3, none⟩ = some (.int .i64 f) := (World.cell?_of_block (ht3.block w.heap.size (World.block_lt_of_cell? _ _ b1) HNE.out.1 HNE.out.2)).trans b3;clear hw3 hr3 ht3 hs3 W2 R2 B2 K2 V2 T2 b1 b2 b3;have L1 : Hid ((splice cs q A).length = 4092) := by show _ = _; rw [splice_len (by rw [HA.out, hcs]; omega)]; exact hcs
  go_wp2_with fail
  refine (lay_any R G _ _ _ _ _ _ _ W3.out R3.out L1.out K3.out hRG (by omega)).mono ?_;rintro en w4 ⟨rfl, hw4, hr4, ht4, hs4⟩;have W4 := hJ hw4;have R4 := hJ hr4;have V4 := hJ (V3.out.two ht4 hvb);have T4 := hJ (T3.out.trans ht4);have e1 : w4.cell? ⟨w.heap.size, 1, none⟩ = some (.slice bo m d) := (World.cell?_of_block (ht4.block w.heap.size (World.block_lt_of_cell? _ _ d1) HNE.out.1 HNE.out.2)).trans d1;have e2 : w4.cell? ⟨w.heap.size, 2, none⟩ = some (.int .i64 (k : Int)) := (World.cell?_of_block (ht4.block w.heap.size (World.block_lt_of_cell? _ _ d1) HNE.out.1 HNE.out.2)).trans d2;have e3 : w4.cell? ⟨w.heap.size, 3, none⟩ = some (.int .i64 f) := (World.cell?_of_block (ht4.block w.heap.size (World.block_lt_of_cell? _ _ d1) HNE.out.1 HNE.out.2)).trans d3;clear hw4 hr4 ht4 hs4 W3 R3 K3 V3 T3 d1 d2 d3;have L2 : Hid ((splice (splice cs q A) (q + l1) B).length = 4092) := by show _ = _; rw [splice_len (by rw [L1.out, HD.out]; omega)]; exact L1.out
  go_wp2_with fail
  refine (tagOf_any k _ hk5).mono ?_;rintro en w5 ⟨rfl, rfl⟩;rw [HT.out]
  go_wp2_with fail
  refine (P2.out _).mono ?_;rintro en w5 ⟨rfl, hb5, hg5, hs5⟩;have W5 := hJ (W4.out.kept hg5);have R5 := hJ (R4.out.keptN hg5);have B5 := hJ hb5;have V5 := hJ (V4.out.keptN hg5);have T5 := hJ (T4.out.trans (Two.of_grown hg5));have b1 := hg5.cell e1 (by simp);have b2 := hg5.cell e2 (by simp);have b3 := hg5.cell e3 (by simp);clear hb5 hg5 hs5 W4 R4 V4 T4 e1 e2 e3
  go_wp2_with fail
  refine (lay_any R G _ _ _ _ _ _ _ W5.out R5.out L2.out B5.out hRG (by omega)).mono ?_;rintro en w6 ⟨rfl, hw6, hr6, ht6, hs6⟩;have W6 := hJ hw6;have R6 := hJ hr6;have V6 := hJ (V5.out.two ht6 hvb);have T6 := hJ (T5.out.trans ht6);have e1 : w6.cell? ⟨w.heap.size, 1, none⟩ = some (.slice bo m d) := (World.cell?_of_block (ht6.block w.heap.size (World.block_lt_of_cell? _ _ b1) HNE.out.1 HNE.out.2)).trans b1;have e2 : w6.cell? ⟨w.heap.size, 2, none⟩ = some (.int .i64 (k : Int)) := (World.cell?_of_block (ht6.block w.heap.size (World.block_lt_of_cell? _ _ b1) HNE.out.1 HNE.out.2)).trans b2;have e3 : w6.cell? ⟨w.heap.size, 3, none⟩ = some (.int .i64 f) := (World.cell?_of_block (ht6.block w.heap.size (World.block_lt_of_cell? _ _ b1) HNE.out.1 HNE.out.2)).trans b3;clear hw6 hr6 ht6 hs6 W5 R5 B5 V5 T5 b1 b2 b3;have L3 : Hid ((splice (splice (splice cs q A) (q + l1) B) (q + l1 + r) C).length = 4092) := by show _ = _; rw [splice_len (by rw [L2.out, HC.out]; omega)]; exact L2.out
  go_wp2_with fail
  refine (chained_any _ _).mono ?_;rintro en w7 ⟨rfl, rfl⟩
  by_cases h5 : 512 < k
  ·have hd : decide ((512 : Int) < (k : Int)) = true := decide_eq_true (by omega)
   rw [hd];have hy4 : y = 4 := by have := HYV.out; rw [if_pos (by omega), lb_len] at this; omega
   obtain ⟨fn, hfn⟩ : ∃ fn : Nat, f = (fn : Int) := ⟨f.toNat, by omega⟩;subst hfn;have HF2 : Hid (x.first.toNat = fn) := by show _ = _; rw [hf]; rfl
   go_wp2_with fail
   refine (put_u32_nil fn _ (by omega)).mono ?_;rintro en w8 ⟨rfl, hb8, hg8, hs8⟩;have W8 := hJ (W6.out.kept hg8);have R8 := hJ (R6.out.keptN hg8);have B8 := hJ hb8;have T8 := hJ (T6.out.trans (Two.of_grown hg8));clear hb8 hg8 hs8 W6 R6 V6 T6
   go_wp2_with fail
   refine (lay_any R G _ _ _ _ _ _ _ W8.out R8.out L3.out B8.out hRG (by omega)).mono ?_;rintro en w9 ⟨rfl, hw9, hr9, ht9, hs9⟩;have W9 := hJ hw9;have R9 := hJ hr9;have T9 := hJ (T8.out.trans ht9);clear hw9 hr9 ht9 hs9 W8 R8 B8 T8;go_wp2;refine bodyPost_ret (results_none rfl _ _ _) rfl ?_;refine ⟨rfl, ?_, ?_, T9.out⟩
   ·rw [HCL.out, hy4]; exact (by have := W9.out; simpa [Nat.add_assoc] using this)
   ·rw [HCB.out, if_pos (by omega), HF2.out, ← splice_four HA.out HD.out HC.out (by rw [lb_len, hcs]; omega)]
    exact R9.out
  ·have hd : decide ((512 : Int) < (k : Int)) = false := decide_eq_false (by omega)
   rw [hd];obtain rfl : y = m := by have := HYV.out; rw [if_neg (by omega)] at this; omega
   go_wp2_with fail
   refine (lay_any R G _ _ _ _ _ _ _ W6.out R6.out L3.out V6.out hRG (by omega)).mono ?_;rintro en w9 ⟨rfl, hw9, hr9, ht9, hs9⟩;have W9 := hJ hw9;have R9 := hJ hr9;have T9 := hJ (T6.out.trans ht9);clear hw9 hr9 ht9 hs9 W6 R6 V6 T6;go_wp2;refine Go.Great.bodyPost_end0 rfl rfl ?_;refine ⟨rfl, ?_, ?_, T9.out⟩
   ·rw [HCL.out]; exact (by have := W9.out; simpa [Nat.add_assoc] using this)
   ·rw [HCB.out, if_neg (by omega), ← splice_four HA.out HD.out HC.out (by rw [hcs]; omega)]
    exact R9.out
 ·have HK : Hid (Byt (w.alloc (.cells #[.slice (some ⟨b, off, none⟩) n c, .slice bo m d, .int .i64 (k : Int), .int .i64 f] 62)) (some ⟨b, off + p, none⟩) r (c - p) B) := by
   have := HK0.out.drop p (c - p) hp
   rwa [hr2, HB.out] at this
  go_enter Tryz.func159, Tryz.ntmps159
  go_wp2_with fail
  have Q1 := b1'.out;have Q2 := b2'.out;have Q3 := b3'.out;clear b1' b2' b3';generalize w.alloc (.cells #[.slice (some ⟨b, off, none⟩) n c, .slice bo m d, .int .i64 (k : Int), .int .i64 f] 62) = w1 at *;refine (P1.out _).mono ?_;rintro en w2 ⟨rfl, hb2, hg2, hs2⟩;have W2 := hJ (HW.out.kept hg2);have R2 := hJ (HR.out.keptN hg2);have B2 := hJ hb2;have K2 := hJ (HK.out.keptN hg2);have V2 := hJ (HV.out.keptN hg2);have T2 := hJ (Two.of_grown (R := R) (G := G) (gQ G1.out hg2));have b1 := hg2.cell Q1 (by simp);have b2 := hg2.cell Q2 (by simp);have b3 := hg2.cell Q3 (by simp);have HNE : Hid (w.heap.size ≠ R ∧ w.heap.size ≠ G) := ⟨fun e => by have := WL.out; omega, fun e => by have := RL.out; omega⟩;clear hb2 hg2 hs2 HW HR HK HV Q1 Q2 Q3
  go_wp2_with fail
  refine (lay_any R G q cs _ _ _ A _ W2.out R2.out hcs B2.out hRG (by omega)).mono ?_;rintro en w3 ⟨rfl, hw3, hr3, ht3, hs3⟩;have W3 := hJ hw3;have R3 := hJ hr3;have K3 := hJ (K2.out.two ht3 (fun ad e _ => by obtain rfl := Option.some.inj e; exact hkb));have V3 := hJ (V2.out.two ht3 hvb);have T3 := hJ (T2.out.trans ht3);have d1 : w3.cell? ⟨w.heap.size, 1, none⟩ = some (.slice bo m d) := (World.cell?_of_block (ht3.block w.heap.size (World.block_lt_of_cell? _ _ b1) HNE.out.1 HNE.out.2)).trans b1;have d2 : w3.cell? ⟨w.heap.size, 2, none⟩ = some (.int .i64 (k : Int)) := (World.cell?_of_block (ht3.block w.heap.size (World.block_lt_of_cell? _ _ b1) HNE.out.1 HNE.out.2)).trans b2;have d3 : w3.cell? ⟨w.heap.size, 3, none⟩ = some (.int .i64 f) := (World.cell?_of_block (ht3.block w.heap.size (World.block_lt_of_cell? _ _ b1) HNE.out.1 HNE.out.2)).trans b3;clear hw3 hr3 ht3 hs3 W2 R2 B2 K2 V2 T2 b1 b2 b3;have L1 : Hid ((splice cs q A).length = 4092) := by show _ = _; rw [splice_len (by rw [HA.out, hcs]; omega)]; exact hcs
  go_wp2_with fail
  refine (lay_any R G _ _ _ _ _ _ _ W3.out R3.out L1.out K3.out hRG (by omega)).mono ?_;rintro en w4 ⟨rfl, hw4, hr4, ht4, hs4⟩;have W4 := hJ hw4;have R4 := hJ hr4;have V4 := hJ (V3.out.two ht4 hvb);have T4 := hJ (T3.out.trans ht4);have e1 : w4.cell? ⟨w.heap.size, 1, none⟩ = some (.slice bo m d) := (World.cell?_of_block (ht4.block w.heap.size (World.block_lt_of_cell? _ _ d1) HNE.out.1 HNE.out.2)).trans d1;have e2 : w4.cell? ⟨w.heap.size, 2, none⟩ = some (.int .i64 (k : Int)) := (World.cell?_of_block (ht4.block w.heap.size (World.block_lt_of_cell? _ _ d1) HNE.out.1 HNE.out.2)).trans d2;have e3 : w4.cell? ⟨w.heap.size, 3, none⟩ = some (.int .i64 f) := (World.cell?_of_block (ht4.block w.heap.size (World.block_lt_of_cell? _ _ d1) HNE.out.1 HNE.out.2)).trans d3;clear hw4 hr4 ht4 hs4 W3 R3 K3 V3 T3 d1 d2 d3;have L2 : Hid ((splice (splice cs q A) (q + l1) B).length = 4092) := by show _ = _; rw [splice_len (by rw [L1.out, HD.out]; omega)]; exact L1.out
  go_wp2_with fail
  refine (tagOf_any k _ hk5).mono ?_;rintro en w5 ⟨rfl, rfl⟩;rw [HT.out]
  go_wp2_with fail
  refine (P2.out _).mono ?_;rintro en w5 ⟨rfl, hb5, hg5, hs5⟩;have W5 := hJ (W4.out.kept hg5);have R5 := hJ (R4.out.keptN hg5);have B5 := hJ hb5;have V5 := hJ (V4.out.keptN hg5);have T5 := hJ (T4.out.trans (Two.of_grown hg5));have b1 := hg5.cell e1 (by simp);have b2 := hg5.cell e2 (by simp);have b3 := hg5.cell e3 (by simp);clear hb5 hg5 hs5 W4 R4 V4 T4 e1 e2 e3
  go_wp2_with fail
  refine (lay_any R G _ _ _ _ _ _ _ W5.out R5.out L2.out B5.out hRG (by omega)).mono ?_;rintro en w6 ⟨rfl, hw6, hr6, ht6, hs6⟩;have W6 := hJ hw6;have R6 := hJ hr6;have V6 := hJ (V5.out.two ht6 hvb);have T6 := hJ (T5.out.trans ht6);have e1 : w6.cell? ⟨w.heap.size, 1, none⟩ = some (.slice bo m d) := (World.cell?_of_block (ht6.block w.heap.size (World.block_lt_of_cell? _ _ b1) HNE.out.1 HNE.out.2)).trans b1;have e2 : w6.cell? ⟨w.heap.size, 2, none⟩ = some (.int .i64 (k : Int)) := (World.cell?_of_block (ht6.block w.heap.size (World.block_lt_of_cell? _ _ b1) HNE.out.1 HNE.out.2)).trans b2;have e3 : w6.cell? ⟨w.heap.size, 3, none⟩ = some (.int .i64 f) := (World.cell?_of_block (ht6.block w.heap.size (World.block_lt_of_cell? _ _ b1) HNE.out.1 HNE.out.2)).trans b3;clear hw6 hr6 ht6 hs6 W5 R5 B5 V5 T5 b1 b2 b3;have L3 : Hid ((splice (splice (splice cs q A) (q + l1) B) (q + l1 + r) C).length = 4092) := by show _ = _; rw [splice_len (by rw [L2.out, HC.out]; omega)]; exact L2.out
  go_wp2_with fail
  refine (chained_any _ _).mono ?_;rintro en w7 ⟨rfl, rfl⟩
  by_cases h5 : 512 < k
  ·have hd : decide ((512 : Int) < (k : Int)) = true := decide_eq_true (by omega)
   rw [hd];have hy4 : y = 4 := by have := HYV.out; rw [if_pos (by omega), lb_len] at this; omega
   obtain ⟨fn, hfn⟩ : ∃ fn : Nat, f = (fn : Int) := ⟨f.toNat, by omega⟩;subst hfn;have HF2 : Hid (x.first.toNat = fn) := by show _ = _; rw [hf]; rfl
   go_wp2_with fail
   refine (put_u32_nil fn _ (by omega)).mono ?_;rintro en w8 ⟨rfl, hb8, hg8, hs8⟩;have W8 := hJ (W6.out.kept hg8);have R8 := hJ (R6.out.keptN hg8);have B8 := hJ hb8;have T8 := hJ (T6.out.trans (Two.of_grown hg8));clear hb8 hg8 hs8 W6 R6 V6 T6
   go_wp2_with fail
   refine (lay_any R G _ _ _ _ _ _ _ W8.out R8.out L3.out B8.out hRG (by omega)).mono ?_;rintro en w9 ⟨rfl, hw9, hr9, ht9, hs9⟩;have W9 := hJ hw9;have R9 := hJ hr9;have T9 := hJ (T8.out.trans ht9);clear hw9 hr9 ht9 hs9 W8 R8 B8 T8;go_wp2;refine bodyPost_ret (results_none rfl _ _ _) rfl ?_;refine ⟨rfl, ?_, ?_, T9.out⟩
   ·rw [HCL.out, hy4]; exact (by have := W9.out; simpa [Nat.add_assoc] using this)
   ·rw [HCB.out, if_pos (by omega), HF2.out, ← splice_four HA.out HD.out HC.out (by rw [lb_len, hcs]; omega)]
    exact R9.out
  ·have hd : decide ((512 : Int) < (k : Int)) = false := decide_eq_false (by omega)
   rw [hd];obtain rfl : y = m := by have := HYV.out; rw [if_neg (by omega)] at this; omega
   go_wp2_with fail
   refine (lay_any R G _ _ _ _ _ _ _ W6.out R6.out L3.out V6.out hRG (by omega)).mono ?_;rintro en w9 ⟨rfl, hw9, hr9, ht9, hs9⟩;have W9 := hJ hw9;have R9 := hJ hr9;have T9 := hJ (T6.out.trans ht9);clear hw9 hr9 ht9 hs9 W6 R6 V6 T6;go_wp2;refine Go.Great.bodyPost_end0 rfl rfl ?_;refine ⟨rfl, ?_, ?_, T9.out⟩
   ·rw [HCL.out]; exact (by have := W9.out; simpa [Nat.add_assoc] using this)
   ·rw [HCB.out, if_neg (by omega), ← splice_four HA.out HD.out HC.out (by rw [hcs]; omega)]
    exact R9.out
structure Ls (w : World) (H S C G p0 c0 cl i : Nat) (B : List Int) : Prop where
 h : Wt w H G p0
 s : Wt w S G (p0 + 2 * i)
 c : Wt w C G (c0 + cl)
 b : Rw w G B
theorem layOut_any (a : Option Addr) (n cap : Nat) (L : List It) (w : World) (hl : Il w a L) (hn : L.length = n) (hw : wrong L = 0) (hs : size L ≤ 4092) :
  Calls Tryz.prog 123 #[.slice a n cap] w fun en w' => ∃ G, en = .returned (.slice (some ⟨G, 0, none⟩) 4092 4092) ∧ Rw w' G (body L) ∧ w.grownBy w' none ∧ w.heap.size ≤ G := by
 obtain ⟨i0, hi, hz0, hz1, hz2⟩ := info_parts info_u8;obtain ⟨hm1, hm2⟩ := many_le hw hs;obtain ⟨hL0, hws, hwv, hup⟩ := wrong_parts hw;have HCS := hJ (cst_le hw hs);have hLne : L ≠ [] := fun e => hL0 (by rw [e]; rfl)
 have hhl := head_len hLne;have hc0 := cst_le hw hs 0;have HL := hJ hl;have hm : n ≤ 2046 := by omega
 have hn0 : 0 < n := by omega
 obtain ⟨b, off, ao, n0, c0, bo, m0, d0, rfl, q2, q3, q4, q5, q6, q7, q8, q9, q10, q11⟩ := hl.row 0 (by omega)
 have hpl : pre L ≤ n0 := by
  have := (pre_each _ (getD_mem (L := L) (i := 0) (by omega))).1;have e := q6.len;omega
 have HB0 : Hid (headB L = lb 1 1 ++ (lb 2 n ++ (vform (pre L) ++ (L.getD 0 it0).key.take (pre L)))) := by
  show _ = _
  unfold headB;rw [hn];cases L with
  | nil => exact absurd rfl hLne
  | cons x L => rfl
 rw [Nat.zero_mul, Nat.add_zero] at q2;have HQ2 := hJ q2;have HQ6 := hJ q6;have HWS := hJ hws;have HWV := hJ hwv;clear hl q2 q3 q4 q5 q6 q9 hws hwv hup hL0 hLne;go_enter Tryz.func123, Tryz.ntmps123
 go_wp2_with fail
 refine (common4_any _ n cap L _ HL.out hn (by omega)).mono ?_;rintro en w1 ⟨rfl, hg1⟩;have G1 := hJ hg1;clear hg1;have P1 := hJ (fun W : World => putV_nil (pre L) W (by omega));have hvl : vl (pre L) = (vform (pre L)).length := rfl;have HBD : Hid (∀ i, i < L.length → (headB L).length = 3 + vl (pre L) + pre L) := fun _ _ => hhl
 obtain ⟨l1, hl1⟩ : ∃ l1, (vform (pre L)).length = l1 := ⟨_, rfl⟩;rw [hl1] at P1 hvl;rw [hvl] at hhl;have hcst : cst L = (headB L).length + 2 * n := by unfold cst; rw [hn]
 have HCST := hJ hcst;have HHL := hJ hhl;have HL1 := hJ hl1;have hb1 : 3 + l1 + pre L + 2 * n ≤ 4092 := by rw [hcst, hhl] at hc0; omega
 clear hc0 hvl HBD hl1 hcst hhl;generalize hpp : pre L = p at *;have HPP := hJ hpp;clear hpp
 go_wp2_with (at_make; refine wpList_make_full _ rfl _ _ 25 rfl w1.heap.size 5 i0 (.int .u8 0) 1 Tryz.underlying25 hi hz0 hz1 _ _ _ _ 4092 rfl rfl rfl rfl ?b2 ?b3 (Nat.le_refl _) ?_)
 case b2 => rw [hz2]; omega
 case b3 => unfold maxLen; omega
 intro w2 hown2 hg2;rw [made] at hown2;have R2 := hJ (Rw.of_owns hown2);have hG0 : w.heap.size ≤ w1.heap.size := G1.out.size;have HG0 := hJ hG0;have G2 := hJ (gQ G1.out hg2);clear hown2 hg2 hG0 G1;generalize w1.heap.size = G at *;have G3 := hJ (gQ G2.out (World.grownBy_alloc w2 (.cells #[.slice (some ⟨G, 0, none⟩) 4092 4092, .int .i64 0] 184) none));have R3 := hJ (R2.out.keptN (World.grownBy_alloc w2 (.cells #[.slice (some ⟨G, 0, none⟩) 4092 4092, .int .i64 0] 184) none))
 have W3 : Hid (Wt (w2.alloc (.cells #[.slice (some ⟨G, 0, none⟩) 4092 4092, .int .i64 0] 184)) w2.heap.size G 0) := by
  show _ = _
  exact heap_alloc_new w2 _
 have HGH : Hid (w2.heap.size ≠ G) := fun e => by have := R2.out.lt; omega
 have HH0 : Hid (w.heap.size ≤ w2.heap.size) := by have := R2.out.lt; have := HG0.out; show _ ≤ _; omega
 go_wp2_with fail
 generalize w2.alloc (.cells #[.slice (some ⟨G, 0, none⟩) 4092 4092, .int .i64 0] 184) = w3 at *;clear R2 G2;generalize w2.heap.size = H at *;refine (put_u8_nil 1 _ (by omega)).mono ?_;rintro en w4 ⟨rfl, hb4, hg4, hs4⟩;have B4 := hJ hb4;have W4 := hJ (W3.out.kept hg4);have R4 := hJ (R3.out.keptN hg4);have G4 := hJ (gQ G3.out hg4);clear hb4 hg4 hs4 W3 R3 G3
 go_wp2_with fail
 refine (lay_any H G 0 _ _ _ _ (lb 1 1) _ W4.out R4.out (by rw [List.length_replicate]) B4.out HGH.out (by omega)).mono ?_;rintro en w5 ⟨rfl, hw5, hr5, ht5, hs5⟩;have W5 := hJ hw5;have R5 := hJ hr5;have G5 := hJ (ht5.grown G4.out HH0.out HG0.out);clear hw5 hr5 ht5 hs5 W4 R4 G4 B4;have L1 : Hid ((splice (List.replicate 4092 0) 0 (lb 1 1)).length = 4092) := by show _ = _; rw [splice_len (by rw [lb_len, List.length_replicate]; omega), List.length_replicate]
 go_wp2_with fail
 refine (put_u16_nil n _ (by omega)).mono ?_;rintro en w6 ⟨rfl, hb6, hg6, hs6⟩;have B6 := hJ hb6;have W6 := hJ (W5.out.kept hg6);have R6 := hJ (R5.out.keptN hg6);have G6 := hJ (gQ G5.out hg6);clear hb6 hg6 hs6 W5 R5 G5
 go_wp2_with fail
 refine (lay_any H G _ _ _ _ _ (lb 2 n) _ W6.out R6.out L1.out B6.out HGH.out (by omega)).mono ?_;rintro en w7 ⟨rfl, hw7, hr7, ht7, hs7⟩;have W7 := hJ hw7;have R7 := hJ hr7;have G7 := hJ (ht7.grown G6.out HH0.out HG0.out);clear hw7 hr7 ht7 hs7 W6 R6 G6 B6;have L2 : Hid ((splice (splice (List.replicate 4092 0) 0 (lb 1 1)) (0 + 1) (lb 2 n)).length = 4092) := by show _ = _; rw [splice_len (by rw [L1.out, lb_len]; omega)]; exact L1.out
 go_wp2_with fail
 refine (P1.out _).mono ?_;rintro en w8 ⟨rfl, hb8, hg8, hs8⟩;have B8 := hJ hb8;have W8 := hJ (W7.out.kept hg8);have R8 := hJ (R7.out.keptN hg8);have G8 := hJ (gQ G7.out hg8);clear hb8 hg8 hs8 W7 R7 G7
 go_wp2_with fail
 refine (lay_any H G _ _ _ _ _ (vform p) _ W8.out R8.out L2.out B8.out HGH.out (by omega)).mono ?_;rintro en w9 ⟨rfl, hw9, hr9, ht9, hs9⟩;have W9 := hJ hw9;have R9 := hJ hr9;have G9 := hJ (ht9.grown G8.out HH0.out HG0.out);clear hw9 hr9 ht9 hs9 W8 R8 G8 B8;have L3 : Hid ((splice (splice (splice (List.replicate 4092 0) 0 (lb 1 1)) (0 + 1) (lb 2 n)) (0 + 1 + 2) (vform p)).length = 4092) := by show _ = _; rw [splice_len (by rw [L2.out, HL1.out]; omega)]; exact L2.out
 have e0 : w9.cell? ⟨b, off, none⟩ = some (.slice ao n0 c0) := G9.out.cell HQ2.out (by simp);have B9 := hJ ((HQ6.out.keptN G9.out).take p c0 hpl (fun e => by have := ((HQ6.out).nil e).2; omega));have g1 : (0 : Int) ≤ (p : Int) := by omega
 have g2 : (p : Int) ≤ (c0 : Int) := by omega
 have g3 : (0 : Int) < (n : Int) := by omega
 go_wp2_with fail
 refine (lay_any H G _ _ _ _ _ _ _ W9.out R9.out L3.out B9.out HGH.out (by omega)).mono ?_;rintro en w10 ⟨rfl, hw10, hr10, ht10, hs10⟩;have hh0 : 0 + 1 + 2 + l1 + p = (headB L).length := by have := HHL.out; omega
 have W10 : Hid (Wt w10 H G (headB L).length) := by rw [← hh0]; exact hw10
 have R10 : Hid (Rw w10 G (laid L 0)) := by
  have e := splice_four (cs := List.replicate 4092 0) (A := lb 1 1) (B := lb 2 n) (C := vform p) (D := (L.getD 0 it0).key.take p) (q := 0) (a := 1) (b := 2) (c := l1) (lb_len _ _) (lb_len _ _) HL1.out (by rw [List.length_replicate, List.length_take]; omega);have e2 := laid_zero L (by have := HCS.out 0; omega);rw [HB0.out, ← e] at e2
  show Rw _ _ _
  rw [← e2];exact hr10
 have G10 := hJ (ht10.grown G9.out HH0.out HG0.out);have HHt := hJ W10.out.lt;have HGt := hJ R10.out.lt;have hb2 : (headB L).length + 2 * n ≤ 4092 := by rw [HHL.out]; omega
 have HHC := hJ HHL.out;clear hw10 hr10 ht10 hs10 W9 R9 G9 B9 hh0 L1 L2 L3 HB0 P1 HQ2 HQ6;obtain ⟨k0, k1, _⟩ := W10.out.cells;generalize hhe : (headB L).length = h0 at *;have HHE := hJ hhe;clear hhe
 have HS : Hid (∀ v : Int, v = ((h0 + 2 * n : Nat) : Int) → Ls ((w10.alloc (.cells #[.slice (some ⟨G, 0, none⟩) 4092 4092, .int .i64 (h0 : Int)] 184)).alloc (.cells #[.slice (some ⟨G, 0, none⟩) 4092 4092, .int .i64 v] 184)) H w10.heap.size (w10.heap.size + 1) G h0 (h0 + 2 * n) 0 0 (laid L 0) ∧ w.grownBy ((w10.alloc (.cells #[.slice (some ⟨G, 0, none⟩) 4092 4092, .int .i64 (h0 : Int)] 184)).alloc (.cells #[.slice (some ⟨G, 0, none⟩) 4092 4092, .int .i64 v] 184)) none) := by
  intro v hv;subst hv;have ga := World.grownBy_alloc w10 (.cells #[.slice (some ⟨G, 0, none⟩) 4092 4092, .int .i64 (h0 : Int)] 184) none;have wa : Wt (w10.alloc (.cells #[.slice (some ⟨G, 0, none⟩) 4092 4092, .int .i64 (h0 : Int)] 184)) w10.heap.size G h0 := heap_alloc_new w10 _;have hsa : (w10.alloc (.cells #[.slice (some ⟨G, 0, none⟩) 4092 4092, .int .i64 (h0 : Int)] 184)).heap.size = w10.heap.size + 1 := by simp
  have Wa := W10.out.kept ga;have Ra := R10.out.keptN ga;have Ga := gQ G10.out ga;generalize w10.alloc (.cells #[.slice (some ⟨G, 0, none⟩) 4092 4092, .int .i64 (h0 : Int)] 184) = wa1 at *;have gb := World.grownBy_alloc wa1 (.cells #[.slice (some ⟨G, 0, none⟩) 4092 4092, .int .i64 ((h0 + 2 * n : Nat) : Int)] 184) none;have wb : Wt (wa1.alloc (.cells #[.slice (some ⟨G, 0, none⟩) 4092 4092, .int .i64 ((h0 + 2 * n : Nat) : Int)] 184)) (w10.heap.size + 1) G (h0 + 2 * n) := by rw [← hsa]; exact heap_alloc_new wa1 _
  exact ⟨⟨Wa.kept gb, wa.kept gb, wb, Ra.keptN gb⟩, gQ Ga gb⟩
 have g5 : (0 : Int) ≤ (h0 : Int) := by omega
 go_wp2;have HSl := hJ (G10.out.size);clear k0 k1;go_loopw [8, 42] (fun _ si wr => ∃ i : Nat, i ≤ n ∧ si = .int .i64 i ∧ Ls wr H w10.heap.size (w10.heap.size + 1) G h0 (h0 + 2 * n) (cells p (L.take i)).length i (laid L i) ∧ w.grownBy wr none) (fun _ si _ => n - (intOf si).toNat)
 case atStart =>
  obtain ⟨x1, x2⟩ := HS.out _ (by go_num);exact ⟨0, Nat.zero_le _, rfl, x1, x2⟩
 case round =>
  obtain ⟨i, hi', rfl, hls, hg⟩ := hrel;have HLS := hJ hls;have HG := hJ hg;have HHt1 := HHt.out;have HGt1 := HGt.out;have HSl1 := HSl.out;clear hls hg HS W10 R10 G10 HHt HGt HSl
  by_cases hlt : i < n
  ·obtain ⟨b', off', ao', m, c', bo', m2, d2, e1, r2, r3, r4, r5, r6, r7, r8, r9, r10, r11⟩ := HL.out.row i (by omega)
   simp only [Option.some.injEq, Addr.mk.injEq] at e1;obtain ⟨rfl, rfl, _⟩ := e1;have hx := getD_mem (L := L) (i := i) (by omega);have x1 := HWS.out _ hx;have x2 := HWV.out _ hx;have x3 := (ws_parts x1).1;have x4 := r6.len;obtain ⟨kb, ko, rfl, hkb, _⟩ := r6.at (by omega);have hbv : ∀ ad, bo' = some ad → 0 < m2 → ad.block < w.heap.size := fun ad e h => r9.lt e h
   have hpx : p ≤ m := by
    have := (pre_each _ hx).1;rw [HPP.out] at this;omega
   have u0 := HG.out.cell r2 (by simp);have u1 := HG.out.cell r3 (by simp);have u2 := HG.out.cell r4 (by simp);have u3 := HG.out.cell r5 (by simp);have hA0 := HCS.out (i + 1);have hcsn := cells_snoc p L i (by omega);have hst := laid_step L i (by omega) (by rw [HPP.out]; rw [hcsn, List.length_append] at hA0; omega);rw [HHE.out, HCST.out, HPP.out] at hst;rw [hcsn, List.length_append, HCST.out, ← Nat.add_assoc] at hA0;have HCN : Hid ((cells p (L.take (i + 1))).length = (cells p (L.take i)).length + (cb p (L.getD i it0)).length) := by show _ = _; rw [hcsn, List.length_append]
   have hll := laid_len L i (by omega) (HCS.out i |> fun h => by rw [HPP.out]; exact h);have HKy := hJ r6;have HVl := hJ r9;have HLC := HLS.out.c;have HLCh := hJ HLC;obtain ⟨A, hA⟩ : ∃ A, h0 + 2 * n + (cells p (L.take i)).length = A := ⟨_, rfl⟩;rw [hA] at HLC hst hA0;have HAA := hJ hA;have HST := hJ hst;have HLL := hJ hll;have HLCc := hJ HLC;have hA9 : A ≤ 4092 := by omega
   clear r2 r3 r4 r5 r6 r9 hcsn hst hll HLC hA HLCh hx;generalize hxx : L.getD i it0 = x at *;generalize hBi : laid L i = Bi at *;have HBi := hJ hBi;clear hBi;have HSz : Hid (x.size = x.size) := rfl;obtain ⟨sz, hsz⟩ : ∃ sz, x.size = sz := ⟨_, rfl⟩;obtain ⟨fs, hfs⟩ : ∃ fs, x.first = fs := ⟨_, rfl⟩
   rw [hsz] at u2;rw [hfs] at u3;have HSZ := hJ hsz;have HFS := hJ hfs;have HX1 := hJ x1;have HX2 := hJ x2;have HX4 := hJ x4;have HXX := hJ hxx;clear hsz hfs x1 x2 x3 x4 hxx HSz;have ga := World.grownBy_alloc wr (.cells #[.slice (some ⟨kb, ko, none⟩) m c', .slice bo' m2 d2, .int .i64 sz, .int .i64 fs] 62) none;have k0 : Hid ((wr.alloc (.cells #[.slice (some ⟨kb, ko, none⟩) m c', .slice bo' m2 d2, .int .i64 sz, .int .i64 fs] 62)).cell? ⟨wr.heap.size, 0, none⟩ = some (.slice (some ⟨kb, ko, none⟩) m c')) := by show _ = _; rw [cell_of_row _ wr.heap.size 0 _ _ (0, 0) (heap_alloc_new wr _)]; rfl
   have k1 : Hid ((wr.alloc (.cells #[.slice (some ⟨kb, ko, none⟩) m c', .slice bo' m2 d2, .int .i64 sz, .int .i64 fs] 62)).cell? ⟨wr.heap.size, 1, none⟩ = some (.slice bo' m2 d2)) := by show _ = _; rw [cell_of_row _ wr.heap.size 1 _ _ (0, 0) (heap_alloc_new wr _)]; rfl
   have k2 : Hid ((wr.alloc (.cells #[.slice (some ⟨kb, ko, none⟩) m c', .slice bo' m2 d2, .int .i64 sz, .int .i64 fs] 62)).cell? ⟨wr.heap.size, 2, none⟩ = some (.int .i64 sz)) := by show _ = _; rw [cell_of_row _ wr.heap.size 2 _ _ (0, 0) (heap_alloc_new wr _)]; rfl
   have k3 : Hid ((wr.alloc (.cells #[.slice (some ⟨kb, ko, none⟩) m c', .slice bo' m2 d2, .int .i64 sz, .int .i64 fs] 62)).cell? ⟨wr.heap.size, 3, none⟩ = some (.int .i64 fs)) := by show _ = _; rw [cell_of_row _ wr.heap.size 3 _ _ (0, 0) (heap_alloc_new wr _)]; rfl
   have Hh := hJ (HLS.out.h.kept ga);have Hs := hJ (HLS.out.s.kept ga);have Hc := hJ (HLCc.out.kept ga);have Hb := hJ (HLS.out.b.keptN ga);have Hg := hJ (gQ HG.out ga)
   have HNE : Hid (wr.heap.size ≠ w10.heap.size ∧ wr.heap.size ≠ w10.heap.size + 1 ∧ wr.heap.size ≠ G) := by
    have a1 := HLS.out.s.lt;have a2 := HLCc.out.lt;have a3 := HLS.out.b.lt;exact ⟨by omega, by omega, by omega⟩
   obtain ⟨_, j1, _⟩ := (HLCc.out.kept ga).cells;clear ga HLS HLCc HG
   go_wp2_with fail
   have k0' := k0.out;have k1' := k1.out;have k2' := k2.out;have k3' := k3.out;clear k0 k1 k2 k3 u0 u1 u2 u3 j1;generalize wr.alloc (.cells #[.slice (some ⟨kb, ko, none⟩) m c', .slice bo' m2 d2, .int .i64 sz, .int .i64 fs] 62) = wq at *;generalize wr.heap.size = Q at *;refine (put_u16_nil A _ (by omega)).mono ?_;rintro en w5 ⟨rfl, hb5, hg5, hs5⟩;have B5 := hJ hb5;have Hh5 := hJ (Hh.out.kept hg5);have Hs5 := hJ (Hs.out.kept hg5);have Hc5 := hJ (Hc.out.kept hg5);have Hb5 := hJ (Hb.out.keptN hg5);have Hg5 := hJ (gQ Hg.out hg5);have z0 := hg5.cell k0' (by simp);have z1 := hg5.cell k1' (by simp);have z2 := hg5.cell k2' (by simp);have z3 := hg5.cell k3' (by simp);clear hb5 hg5 hs5 Hh Hs Hc Hb Hg k0' k1' k2' k3'
   go_wp2_with fail
   refine (lay_any w10.heap.size G _ _ _ _ _ (lb 2 A) _ Hs5.out Hb5.out HLL.out B5.out (by omega) (by omega)).mono ?_;rintro en w6 ⟨rfl, hw6, hr6, ht6, hs6⟩;have Hs6 := hJ hw6;have Hb6 := hJ hr6;have Hh6 := hJ (Hh5.out.two ht6 (by omega) HGH.out);have Hc6 := hJ (Hc5.out.two ht6 (by omega) (by omega));have Hg6 := hJ (ht6.grown Hg5.out (by omega) HG0.out);have y0 : w6.cell? ⟨Q, 0, none⟩ = some (.slice (some ⟨kb, ko, none⟩) m c') := (World.cell?_of_block (ht6.block Q (World.block_lt_of_cell? _ _ z0) HNE.out.1 HNE.out.2.2)).trans z0;have y1 : w6.cell? ⟨Q, 1, none⟩ = some (.slice bo' m2 d2) := (World.cell?_of_block (ht6.block Q (World.block_lt_of_cell? _ _ z0) HNE.out.1 HNE.out.2.2)).trans z1;have y2 : w6.cell? ⟨Q, 2, none⟩ = some (.int .i64 sz) := (World.cell?_of_block (ht6.block Q (World.block_lt_of_cell? _ _ z0) HNE.out.1 HNE.out.2.2)).trans z2;have y3 : w6.cell? ⟨Q, 3, none⟩ = some (.int .i64 fs) := (World.cell?_of_block (ht6.block Q (World.block_lt_of_cell? _ _ z0) HNE.out.1 HNE.out.2.2)).trans z3;have L6 : Hid ((splice Bi (h0 + 2 * i) (lb 2 A)).length = 4092) := by show _ = _; rw [splice_len (by rw [HLL.out, lb_len]; omega)]; exact HLL.out
   clear hw6 hr6 ht6 hs6 Hs5 Hb5 Hh5 Hc5 Hg5 B5 z0 z1 z2 z3;have hg0 := HG0.out
   go_wp2_with fail
   refine (layCell_any (w10.heap.size + 1) G A _ kb ko m c' bo' m2 d2 sz fs p x _ Hc6.out Hb6.out L6.out (by omega) (HKy.out.keptN Hg6.out) (HVl.out.keptN Hg6.out) HSZ.out HFS.out HX1.out HX2.out hpx r7 (by omega) ⟨by omega, by omega⟩ (fun ad e h => by have := hbv ad e h; exact ⟨by omega, by omega⟩)).mono ?_;rintro en w7 ⟨rfl, hw7, hr7, ht7⟩;have Hc7 := hJ hw7;have Hb7 := hJ hr7;have Hh7 := hJ (Hh6.out.two ht7 (by omega) HGH.out);have Hs7 := hJ (Hs6.out.two ht7 (by omega) (by omega));have Hg7 := hJ (ht7.grown Hg6.out (by omega) HG0.out);clear hw7 hr7 ht7 Hc6 Hb6 Hh6 Hs6 Hg6 y0 y1 y2 y3;go_wp2;go_roundw
   case rel =>
    refine ⟨i + 1, by omega, by go_num, ⟨Hh7.out, ?_, ?_, ?_⟩, Hg7.out⟩
    ·exact (by have := Hs7.out; simpa [Nat.mul_add, Nat.add_assoc] using this)
    ·rw [HCN.out, ← Nat.add_assoc, HAA.out]; exact Hc7.out
    ·rw [← HST.out]; exact Hb7.out
   case measure => simp [intOf]; omega
  ·have hin : i = n := by omega
   subst hin;obtain ⟨k0, k1, _⟩ := HLS.out.h.cells;go_wp2;go_ret;refine ⟨G, rfl, ?_, HG.out, HG0.out⟩;have := HLS.out.b;rw [← hn, laid_all] at this;exact this
theorem encode_wrong (a : Option Addr) (n cap : Nat) (L : List It) (w : World) (hl : Il w a L) (hb : Ib L) (hn : L.length = n) (hm : n ≤ 5000) (h : wrong L ≠ 0) :
  Calls Tryz.prog 104 #[.slice a n cap] w fun en w' => en = .returned (.tuple #[.slice none 0 0, .int .i64 (wrong L)]) ∧ w.grownBy w' none := by
 have HE := hJ (fun (W : World) (hW : Il W a L) => errorOf_any a n cap L W hW hb hn hm);generalize wrong L = e at *;have h1 : ¬ e = 0 := h;go_enter Tryz.func104, Tryz.ntmps104
 go_wp2_with fail
 refine (HE.out _ hl).mono ?_;rintro en w1 ⟨rfl, hg⟩;have HG := hJ hg;clear hg hl;go_wp2
 go_ret2
 exact ⟨rfl, HG.out⟩
theorem encode_big (a : Option Addr) (n cap : Nat) (L : List It) (w : World) (hl : Il w a L) (hb : Ib L) (hn : L.length = n) (hm : n ≤ 5000) (h : wrong L = 0) (hs : 4092 < size L) :
  Calls Tryz.prog 104 #[.slice a n cap] w fun en w' => en = .returned (.tuple #[.slice none 0 0, .int .i64 42]) ∧ w.grownBy w' none := by
 obtain ⟨_, hws, _, _⟩ := wrong_parts h;have hk : ∀ x ∈ L, x.key.length ≤ 1000000 := fun x hx => by have := (ws_parts (hws x hx)).2.1; omega
 have HL := hJ hl;go_enter Tryz.func104, Tryz.ntmps104
 go_wp2_with fail
 refine (errorOf_any a n cap L _ hl hb hn hm).mono ?_;rintro en w1 ⟨rfl, hg⟩;have HG := hJ hg;clear hg hl;rw [h]
 go_wp2_with fail
 refine (size_any a n cap L _ (HL.out.keptN HG.out) hn hm hk).mono ?_;rintro en w2 ⟨rfl, hg⟩;have HG2 := hJ (gQ HG.out hg);clear hg;generalize size L = s at *;go_wp2
 go_ret2
 exact ⟨rfl, HG2.out⟩
theorem encode_ok (a : Option Addr) (n cap : Nat) (L : List It) (w : World) (hl : Il w a L) (hb : Ib L) (hn : L.length = n) (hm : n ≤ 5000) (h : wrong L = 0) (hs : size L ≤ 4092) :
  Calls Tryz.prog 104 #[.slice a n cap] w fun en w' => ∃ G, en = .returned (.tuple #[.slice (some ⟨G, 0, none⟩) 4092 4092, .int .i64 0]) ∧ Rw w' G (body L) ∧ w.grownBy w' none ∧ w.heap.size ≤ G := by
 obtain ⟨_, hws, _, _⟩ := wrong_parts h;have hk : ∀ x ∈ L, x.key.length ≤ 1000000 := fun x hx => by have := (ws_parts (hws x hx)).2.1; omega
 have HL := hJ hl;have HO := hJ (fun (W : World) (hW : Il W a L) => layOut_any a n cap L W hW hn h hs);go_enter Tryz.func104, Tryz.ntmps104
 go_wp2_with fail
 refine (errorOf_any a n cap L _ hl hb hn hm).mono ?_;rintro en w1 ⟨rfl, hg⟩;have HG := hJ hg;clear hg hl;rw [h]
 go_wp2_with fail
 refine (size_any a n cap L _ (HL.out.keptN HG.out) hn hm hk).mono ?_;rintro en w2 ⟨rfl, hg⟩;have HG2 := hJ (gQ HG.out hg);clear hg;generalize size L = s at *
 go_wp2_with fail
 refine (HO.out _ (HL.out.keptN HG2.out)).mono ?_;rintro en w3 ⟨G, rfl, h1, h2, h3⟩;have H1 := hJ h1;have H2 := hJ (gQ HG2.out h2);have H3 := hJ (Nat.le_trans HG2.out.size h3);clear h1 h2 h3;go_wp2
 go_ret2
 exact ⟨G, rfl, H1.out, H2.out, H3.out⟩
def enc (L : List It) : List Int × Int := if wrong L = 0 then (if size L ≤ 4092 then (body L, 0) else ([], 42)) else ([], wrong L)
theorem encode_any (a : Option Addr) (n cap : Nat) (L : List It) (w : World) (hl : Il w a L) (hb : Ib L) (hn : L.length = n) (hm : n ≤ 5000) :
  Calls Tryz.prog 104 #[.slice a n cap] w fun en w' => (∃ ao k c, en = .returned (.tuple #[.slice ao k c, .int .i64 (enc L).2]) ∧ Byt w' ao k c (enc L).1 ∧ k ≤ 4092) ∧ w.grownBy w' none := by
 by_cases h : wrong L = 0
 ·by_cases hs : size L ≤ 4092
  ·refine (encode_ok a n cap L w hl hb hn hm h hs).mono ?_
   rintro en w' ⟨G, rfl, h1, h2, h3⟩;have e : enc L = (body L, 0) := by unfold enc; rw [if_pos h, if_pos hs]
   rw [e];exact ⟨⟨_, _, _, rfl, h1.all 4092 4092 (body_len h hs).symm, Nat.le_refl _⟩, h2⟩
  ·refine (encode_big a n cap L w hl hb hn hm h (by omega)).mono ?_
   rintro en w' ⟨rfl, h2⟩;have e : enc L = ([], 42) := by unfold enc; rw [if_pos h, if_neg hs]
   rw [e];exact ⟨⟨_, _, _, rfl, Byt.empty _, by omega⟩, h2⟩
 ·refine (encode_wrong a n cap L w hl hb hn hm h).mono ?_
  rintro en w' ⟨rfl, h2⟩;have e : enc L = ([], wrong L) := by unfold enc; rw [if_neg h]
  rw [e];exact ⟨⟨_, _, _, rfl, Byt.empty _, by omega⟩, h2⟩
theorem lb_bt' (k x : Nat) : Bt (lb k x) := lb_bt k x
theorem vform_bt (x : Nat) : Bt (vform x) := lf_bt 10 x
theorem cb_bt (p : Nat) {x : It} (h : Itb x) : Bt (cb p x) := by
 unfold cb;refine (vform_bt _).app ((h.key.drop p).app ((vform_bt _).app ?_))
 split
 ·exact lb_bt' _ _
 ·exact h.val
theorem slots_bt (p : Nat) : ∀ (L : List It) (a : Nat), Bt (slots p a L)
 | [], _ => Bt.nil
 | _ :: L, _ => (lb_bt' _ _).app (slots_bt p L _)
theorem cells_bt (p : Nat) : ∀ {L : List It}, Ib L → Bt (cells p L)
 | [], _ => Bt.nil
 | x :: _, h => (cb_bt p (h x List.mem_cons_self)).app (cells_bt p (fun y hy => h y (List.mem_cons_of_mem _ hy)))
theorem body_bt {L : List It} (h : Ib L) : Bt (body L) := by
 unfold body used headB;refine Bt.app (Bt.app ((lb_bt' _ _).app ((lb_bt' _ _).app ((vform_bt _).app ?_))) ((slots_bt _ _ _).app (cells_bt _ h))) ?_
 ·cases L with
  | nil => exact Bt.take Bt.nil _
  | cons x L => exact (h x List.mem_cons_self).key.take _
 ·intro z hz
  obtain ⟨_, rfl⟩ := List.mem_replicate.1 hz;omega
theorem enc_bt {L : List It} (h : Ib L) : Bt (enc L).1 := by
 unfold enc
 split
 ·split
  ·exact body_bt h
  ·exact Bt.nil
 ·exact Bt.nil
theorem equal_yes (ao bo : Option Addr) (n m c d : Nat) (za zb : List Int) (w : World) (ha : Byt w ao n c za) (hb : Byt w bo m d zb) (e : za = zb) :
  Calls Tryz.prog 126 #[.slice ao n c, .slice bo m d] w fun en w' => en = .returned (.bool true) ∧ w' = w := by
 subst e;have h1 := conv_str ha;have h2 := conv_str hb;clear ha hb;go_enter Tryz.func126, Tryz.ntmps126;go_wp2;go_ret;exact ⟨rfl, rfl⟩
theorem equal_no (ao bo : Option Addr) (n m c d : Nat) (za zb : List Int) (w : World) (ha : Byt w ao n c za) (hb : Byt w bo m d zb) (ba : Bt za) (bb : Bt zb) (e : za ≠ zb) :
  Calls Tryz.prog 126 #[.slice ao n c, .slice bo m d] w fun en w' => en = .returned (.bool false) ∧ w' = w := by
 have hne : ((strOfNums za).toList == (strOfNums zb).toList) = false := by
  rw [beq_eq_false_iff_ne, ByteArray.toList_eq, ByteArray.toList_eq];intro h;refine e (str_inj ba bb ?_);have := Array.toList_inj.1 h;cases hx : strOfNums za; cases hy : strOfNums zb; simp_all
 have h1 := conv_str ha;have h2 := conv_str hb;clear ha hb;go_enter Tryz.func126, Tryz.ntmps126;go_wp2;go_ret;exact ⟨rfl, rfl⟩
theorem Byt.zero (w : World) (ao : Option Addr) : Byt w ao 0 0 [] := ⟨rfl, fun _ => ⟨rfl, rfl⟩, fun ad _ j u hu => by simp at hu⟩
theorem rd_V (R G : Nat) (zs : List Int) (s : Nat × Int) (w : World) (h : Rd w R G zs s.1 s.2) (hbt : Bt zs) :
  Calls Tryz.prog 162 #[.pointer (some ⟨R, 0, none⟩)] w fun en w' => en = .returned (.int .u64 ((sV zs s).1 : Nat)) ∧ Rd w' R G zs (sV zs s).2.1 (sV zs s).2.2 ∧ w.grownBy w' (some R) := by
 obtain ⟨p, e⟩ := s
 by_cases he : e = 0
 ·subst he
  by_cases h0 : (rv (zs.drop p)).2.2 = 0
  ·have e1 : sV zs (p, 0) = ((rv (zs.drop p)).1, (p + (rv (zs.drop p)).2.1, 0)) := by unfold sV; rw [if_pos rfl, if_pos h0]
   rw [e1];exact v_ok R G zs p _ _ w h hbt (by rw [← h0])
  ·have e1 : sV zs (p, 0) = (0, (p, (rv (zs.drop p)).2.2)) := by unfold sV; rw [if_pos rfl, if_neg h0]
   rw [e1];refine v_bad R G zs p _ w h hbt ?_ (by simpa using h0);rcases scan_err 10 0 0 (zs.drop p) with h1 | h1 | h1 | h1
   ·exact absurd h1 h0
   ·show rv _ = _; unfold rv; rw [h1]
   ·show rv _ = _; unfold rv; rw [h1]
   ·show rv _ = _; unfold rv; rw [h1]
 ·have e1 : sV zs (p, e) = (0, (p, e)) := by unfold sV; rw [if_neg he]
  rw [e1];exact v_broken R G zs p e w h (by simpa using he)
theorem rd_B (R G : Nat) (zs : List Int) (s : Nat × Int) (m : Int) (w : World) (h : Rd w R G zs s.1 s.2) :
  Calls Tryz.prog 136 #[.pointer (some ⟨R, 0, none⟩), .int .i64 m] w fun en w' => (∃ ao k, en = .returned (.slice ao k k) ∧ Byt w' ao k k (sB zs s m).1 ∧ (0 < k → ao = some ⟨G, s.1, none⟩) ∧ k ≤ zs.length) ∧ Rd w' R G zs (sB zs s m).2.1 (sB zs s m).2.2 ∧ w.grownBy w' (some R) := by
 obtain ⟨p, e⟩ := s
 by_cases he : e = 0
 ·subst he
  have hp : p ≤ zs.length := h.le
  by_cases h0 : m < 0 ∨ (zs.length : Int) - p < m
  ·have e1 : sB zs (p, 0) m = ([], (p, 10)) := by unfold sB; rw [if_pos rfl, if_pos h0]
   rw [e1];rcases h0 with h0 | h0
   ·refine (bytes_neg R G zs p m w h h0).mono ?_
    rintro en w' ⟨rfl, h1, h2⟩;exact ⟨⟨_, _, rfl, Byt.zero _ _, fun h => by omega, by omega⟩, h1, h2⟩
   ·refine (bytes_short R G zs p m w h h0).mono ?_
    rintro en w' ⟨rfl, h1, h2⟩;exact ⟨⟨_, _, rfl, Byt.zero _ _, fun h => by omega, by omega⟩, h1, h2⟩
  ·have e1 : sB zs (p, 0) m = ((zs.drop p).take m.toNat, (p + m.toNat, 0)) := by unfold sB; rw [if_pos rfl, if_neg h0]
   rw [e1];obtain ⟨k, rfl⟩ : ∃ k : Nat, m = (k : Int) := ⟨m.toNat, by omega⟩;rw [Int.toNat_natCast];refine (bytes_ok R G zs p k w h (by omega)).mono ?_;rintro en w' ⟨ao, rfl, h1, h2, h3, h4⟩;exact ⟨⟨ao, k, rfl, h2, h1, by omega⟩, h3, h4⟩
 ·have e1 : sB zs (p, e) m = ([], (p, e)) := by unfold sB; rw [if_neg he]
  rw [e1];refine (bytes_broken R G zs p e m w h (by simpa using he)).mono ?_;rintro en w' ⟨ao, rfl, h1, h2⟩;exact ⟨⟨ao, 0, rfl, Byt.zero _ _, fun h => by omega, by omega⟩, h1, h2⟩
theorem rd_N2 (R G : Nat) (zs : List Int) (s : Nat × Int) (w : World) (h : Rd w R G zs s.1 s.2) (hbt : Bt zs) :
  Calls Tryz.prog 161 #[.pointer (some ⟨R, 0, none⟩)] w fun en w' => en = .returned (.int .u16 ((sN zs s 2).1 : Nat)) ∧ Rd w' R G zs (sN zs s 2).2.1 (sN zs s 2).2.2 ∧ w.grownBy w' (some R) := by
 obtain ⟨p, e⟩ := s
 by_cases he : e = 0
 ·subst he
  by_cases h0 : zs.length < p + 2
  ·have e1 : sN zs (p, 0) 2 = (0, (p, 10)) := by unfold sN; rw [if_pos rfl, if_pos h0]
   rw [e1];exact get_u16_short R G zs p w h h0
  ·have e1 : sN zs (p, 0) 2 = (le 2 (zs.drop p), (p + 2, 0)) := by unfold sN; rw [if_pos rfl, if_neg h0]
   rw [e1];exact get_u16_ok R G zs p w h hbt (by omega)
 ·have e1 : sN zs (p, e) 2 = (0, (p, e)) := by unfold sN; rw [if_neg he]
  rw [e1];exact get_u16_broken R G zs p e w h (by simpa using he)
theorem rd_N4 (R G : Nat) (zs : List Int) (s : Nat × Int) (w : World) (h : Rd w R G zs s.1 s.2) (hbt : Bt zs) :
  Calls Tryz.prog 180 #[.pointer (some ⟨R, 0, none⟩)] w fun en w' => en = .returned (.int .u32 ((sN zs s 4).1 : Nat)) ∧ Rd w' R G zs (sN zs s 4).2.1 (sN zs s 4).2.2 ∧ w.grownBy w' (some R) := by
 obtain ⟨p, e⟩ := s
 by_cases he : e = 0
 ·subst he
  by_cases h0 : zs.length < p + 4
  ·have e1 : sN zs (p, 0) 4 = (0, (p, 10)) := by unfold sN; rw [if_pos rfl, if_pos h0]
   rw [e1];exact get_u32_short R G zs p w h h0
  ·have e1 : sN zs (p, 0) 4 = (le 4 (zs.drop p), (p + 4, 0)) := by unfold sN; rw [if_pos rfl, if_neg h0]
   rw [e1];exact get_u32_ok R G zs p w h hbt (by omega)
 ·have e1 : sN zs (p, e) 4 = (0, (p, e)) := by unfold sN; rw [if_neg he]
  rw [e1];exact get_u32_broken R G zs p e w h (by simpa using he)
def Lr (w : World) (Q R : Nat) (po : Option Addr) (pn pc : Nat) : Prop := w.heap[Q]? = some (.cells #[.pointer (some ⟨R, 0, none⟩), .slice po pn pc] 159 (0, 0))
theorem Lr.cells {w : World} {Q R : Nat} {po : Option Addr} {pn pc : Nat} (h : Lr w Q R po pn pc) : w.cell? ⟨Q, 0, none⟩ = some (.pointer (some ⟨R, 0, none⟩)) ∧ w.cell? ⟨Q, 1, none⟩ = some (.slice po pn pc) ∧ w.frozen? ⟨Q, 1, none⟩ = false := by
 refine ⟨?_, ?_, frozen_of_row w Q 1 _ _ h⟩
 ·rw [cell_of_row w Q 0 _ _ _ h]; rfl
 ·rw [cell_of_row w Q 1 _ _ _ h]; rfl
theorem Lr.lt {w : World} {Q R : Nat} {po : Option Addr} {pn pc : Nat} (h : Lr w Q R po pn pc) : Q < w.heap.size := (Array.getElem?_eq_some_iff.1 h).1
theorem Lr.kept {w w' : World} {Q R : Nat} {po : Option Addr} {pn pc : Nat} {row : Option Nat} (h : Lr w Q R po pn pc) (hg : w.grownBy w' row) (hne : some Q ≠ row) : Lr w' Q R po pn pc := (hg.block Q h.lt hne).trans h
theorem sV_lt (zs : List Int) (s : Nat × Int) (h : Bt zs) : (sV zs s).1 < 18446744073709551616 := by
 unfold sV
 split
 ·split
  ·rename_i h0 h1
   obtain ⟨x, n, e⟩ : ∃ x n, rv (zs.drop s.1) = (x, n, 0) := ⟨_, _, by rw [← h1]⟩;have := (rv_back (zs.drop s.1) x n (h.drop _) e).1;rw [e]; exact this
  ·exact Nat.zero_lt_succ _
 ·exact Nat.zero_lt_succ _
theorem i64_wrap {x : Nat} (h : x < 18446744073709551616) : IntKind.i64.wrap (x : Int) = i64 x := by
 unfold i64;simp [IntKind.wrap, IntKind.bits, IntKind.signed]
 split <;> omega
theorem wpList_copy_ro {w : World} {ops : Array Oper} {rest : List Oper} {o : Oper} {a : Act} {Q : Exit → Act → World → Prop} (hgd : o.guard = none) (d s : Operand)
  (ho : o.op = .call { callee := .builtin .copy, args := #[d, s], argTypes := #[25, 25] })
  (dp sp : Option Addr) (dLen dCap sLen sCap : Nat) (hd : a.eval d = .slice dp dLen dCap) (hs : a.eval s = .slice sp sLen sCap)
  (g off : Nat) (cur : List Value) (hg : w.heap[g]? = some (.cells cur.toArray 5 (0, 0))) (cs : List Value) (hn : cs.length = Nat.min sLen dLen)
  (hpos : 0 < cs.length → dp = some ⟨g, off, none⟩ ∧ ∃ ad, sp = some ad ∧ ∀ j v, cs[j]? = some v → w.cell? (ad.add j) = some v)
  (hfit : off + cs.length ≤ cur.length) (h1 : ∀ v ∈ cs, v.oneCell' = true) (k : Nat) (hk : cs.length = k)
  (h : ∀ w', Ro w w' g (splice cur off cs) → wpList Tryz.prog ops Q rest (a.put o.dst (.int .i64 (k : Int))) w') : wpList Tryz.prog ops Q (o :: rest) a w := by
 obtain ⟨i0, hi, hz0, hz1, hz2⟩ := info_parts info_u8;have hsz : (Tryz.prog.info? 5).map (·.size) = some 1 := by rw [hi]; exact congrArg some hz1
 subst hk
 by_cases h0 : cs.length = 0
 ·obtain rfl : cs = [] := List.eq_nil_of_length_eq_zero h0
  refine wpList_copy_nothing hgd d s 25 25 ho 5 Tryz.underlying25 hsz dp sp dLen dCap sLen sCap hd hs (by simpa using hn.symm) ?_;exact h w ⟨by simpa [splice] using hg, fun _ _ => rfl, rfl, rfl, rfl, rfl⟩
 ·obtain ⟨rfl, ad, rfl, hsrc⟩ := hpos (by omega)
  refine wpList_copy_own hgd d s 25 25 ho 5 Tryz.underlying25 hsz g off dLen dCap ad sLen sCap hd hs cur.toArray 5 hg cs hn hsrc (by simpa using hfit) h1 ?_;exact h _ ⟨by simpa [splice] using setRow_heap w g _ _ _ _ hg, fun k hk => setRow_other w g k _ hk, by simp [World.setRow], rfl, rfl, rfl⟩
theorem wpList_copy_bytes {w : World} {ops : Array Oper} {rest : List Oper} {o : Oper} {a : Act} {Q : Exit → Act → World → Prop} (hgd : o.guard = none) (d s : Operand)
  (ho : o.op = .call { callee := .builtin .copy, args := #[d, s], argTypes := #[25, 25] })
  (dp sp : Option Addr) (dLen dCap sLen sCap : Nat) (hd : a.eval d = .slice dp dLen dCap) (hs : a.eval s = .slice sp sLen sCap)
  (g off : Nat) (cs ts : List Int) (hg : Rw w g cs) (hb : Byt w sp sLen sCap ts) (hn : sLen ≤ dLen) (hdp : 0 < sLen → dp = some ⟨g, off, none⟩) (hfit : off + sLen ≤ cs.length)
  (h : ∀ w', Rw w' g (splice cs off ts) → w.grownBy w' (some g) → wpList Tryz.prog ops Q rest (a.put o.dst (.int .i64 (sLen : Int))) w') : wpList Tryz.prog ops Q (o :: rest) a w := by
 have hl := hb.len;refine wpList_copy_ro hgd d s ho dp sp dLen dCap sLen sCap hd hs g off (cs.map (Value.int .u8)) hg (ts.map (Value.int .u8)) (by rw [List.length_map, hl]; exact (Nat.min_eq_left hn).symm) (fun h0 => ?_) (by rw [List.length_map, List.length_map]; omega) (ints_oneCell _ _) sLen (by rw [List.length_map, hl]) fun w' hro => h w' ?_ hro.grown
 ·refine ⟨hdp (by simpa [hl] using h0), ?_⟩
  cases sp with
  | none => have := (hb.nil rfl).1; simp [hl] at h0; omega
  | some ad => exact ⟨ad, rfl, hb.cells ad rfl⟩
 ·unfold Rw
  rw [← splice_map];exact hro.row
theorem grown_newR {a b c : World} {R g : Nat} (h : a.grownBy b (some R)) (k : b.grownBy c (some g)) (hg : a.heap.size ≤ g) : a.grownBy c (some R) :=
 ⟨k.os.trans h.os, k.tape.trans h.tape, k.output.trans h.output, Nat.le_trans h.size k.size,
  fun i hi hne => (k.block i (Nat.lt_of_lt_of_le hi h.size) (by intro e; have := Option.some.inj e; omega)).trans (h.block i hi hne)⟩
theorem splice_fill {Z X Y : List Int} (hZ : Z.length = X.length + Y.length) : splice (splice Z 0 X) X.length Y = X ++ Y := by
 have := splice_two (cs := Z) (xs := X) (ys := Y) (p := 0) (by omega);rw [Nat.zero_add] at this;rw [this];unfold splice;rw [List.take_zero, List.nil_append, Nat.zero_add, List.drop_eq_nil_of_le (by rw [List.length_append]; omega), List.append_nil]
theorem key_any (Q R G : Nat) (zs : List Int) (s : Nat × Int) (po : Option Addr) (pn pc : Nat) (P : List Int) (w : World) (hq : Lr w Q R po pn pc) (h : Rd w R G zs s.1 s.2) (hbt : Bt zs) (hP : Byt w po pn pc P) (hpb : ∀ ad, po = some ad → 0 < pn → ad.block ≠ R) (hQR : Q ≠ R) (hpn : pn ≤ 5000) (hz : zs.length ≤ 5000) :
  Calls Tryz.prog 199 #[.pointer (some ⟨Q, 0, none⟩)] w fun en w' => (∃ g k, en = .returned (.slice (some ⟨g, 0, none⟩) k k) ∧ Rw w' g (sKey zs P s).1 ∧ (sKey zs P s).1.length = k ∧ w.heap.size ≤ g ∧ k ≤ 10000) ∧ Rd w' R G zs (sKey zs P s).2.1 (sKey zs P s).2.2 ∧ w.grownBy w' (some R) := by
 obtain ⟨i0, hi, hz0, hz1, hz2⟩ := info_parts info_u8;obtain ⟨c0, c1, _⟩ := hq.cells;have HKD : Hid (sKey zs P s = (P ++ (sB zs (sV zs s).2 (i64 (sV zs s).1)).1, (sB zs (sV zs s).2 (i64 (sV zs s).1)).2)) := rfl;have HV := hJ (fun (W : World) (hW : Rd W R G zs s.1 s.2) => rd_V R G zs s W hW hbt);have HB := hJ (fun (W : World) (hW : Rd W R G zs (sV zs s).2.1 (sV zs s).2.2) => rd_B R G zs (sV zs s).2 (i64 (sV zs s).1) W hW);have hvl := sV_lt zs s hbt;have hwr := i64_wrap hvl;generalize (sV zs s).2 = s1 at *;generalize (sV zs s).1 = x at *;generalize i64 x = m at *;have HR := hJ h;have HQ := hJ hq;have HP := hJ hP;clear h hq hP;go_enter Tryz.func199, Tryz.ntmps199
 go_wp2_with fail
 go_region_with (first
  | (go_at_call 162; refine (HV.out _ (by exact HR.out.kept ((Qt.refl w).drew.grown none) (by simp) (by simp))).mono ?_; rintro en w1 ⟨rfl, hr1, hg1⟩; have d0 := hg1.cell (by exact c0) (by intro e; exact hQR (Option.some.inj e)); have d1 := hg1.cell (by exact c1) (by intro e; exact hQR (Option.some.inj e)))
  | (go_at_call 136; refine (HB.out _ hr1).mono ?_; rintro en w2 ⟨⟨ao, k, rfl, hb2, hao, hk⟩, hr2, hg2⟩; have e0 := hg2.cell d0 (by intro e; exact hQR (Option.some.inj e)); have e1 := hg2.cell d1 (by intro e; exact hQR (Option.some.inj e))))
 all_goals
  have hP2 : Byt w2 po pn pc P := ((HP.out.kept ((Qt.refl w).drew.grown none) (by simp)).kept hg1 (fun ad e h e2 => hpb ad e h (Option.some.inj e2))).kept hg2 (fun ad e h e2 => hpb ad e h (Option.some.inj e2));have HP2 := hJ hP2;have HG2 := hJ (gQ (gQ ((Qt.refl w).drew.grown (some R)) hg1) hg2);have HR2 := hJ hr2;have HB2 := hJ hb2;have HAO := hJ hao;have hlP := HP.out.len;have hlB := hb2.len;have HLP := hJ hlP;have HLB := hJ hlB;clear hP2 hg1 hg2 hr1 hr2 hb2 hao d0 d1 c0 c1 HV HB HR HQ HP hlP hlB
  go_wp2_with (at_make; refine wpList_make_full _ rfl _ _ 25 rfl w2.heap.size 5 i0 (.int .u8 0) 1 Tryz.underlying25 hi hz0 hz1 _ _ _ _ (pn + k) rfl rfl (by simp) (by simp) ?b2 ?b3 (Nat.le_refl _) ?_)
  case b2 => rw [hz2]; omega
  case b3 => unfold maxLen; omega
  intro w3 hown3 hg3;rw [made] at hown3;have R3 := hJ (Rw.of_owns hown3);have HG3 := hJ (gQ HG2.out (grown_any hg3));have P3 := hJ (HP2.out.keptN hg3);have B3 := hJ (HB2.out.keptN hg3);have D3 := hJ (HR2.out.kept hg3 (by simp) (by simp));have hgl : Hid (w.heap.size ≤ w2.heap.size) := HG2.out.size
  have HGR : Hid (w2.heap.size ≠ R ∧ w2.heap.size ≠ G ∧ w2.heap.size ≠ Q) := by
   have a1 := HR2.out.lt;have a2 := World.block_lt_of_cell? _ _ e0;exact ⟨by omega, by omega, by intro e; simp at a2; omega⟩
  have e1' := hg3.cell e1 (by simp);have HBB : Hid (∀ ad, po = some ad → 0 < pn → ad.block < w2.heap.size) := fun ad e h => HP2.out.lt e h
  have HBC : Hid (∀ ad, ao = some ad → 0 < k → ad.block < w2.heap.size) := fun ad e h => HB2.out.lt e h
  clear hown3 hg3 HG2 HP2 HB2 HR2 e0 e1;generalize w2.heap.size = g at *;have hfit : Hid ((List.replicate (pn + k) (0 : Int)).length = pn + k) := List.length_replicate
  go_wp2_with (refine wpList_copy_bytes rfl _ _ rfl _ _ _ _ _ _ rfl rfl g 0 (List.replicate (pn + k) 0) P R3.out P3.out (by omega) (fun _ => rfl) (by rw [hfit.out]; omega) ?_)
  intro w4 hr4 hg4;have R4 := hJ hr4;have B4 := hJ (B3.out.kept hg4 (fun ad e h e2 => by have := HBC.out ad e h; have := Option.some.inj e2; omega));have D4 := hJ (D3.out.kept hg4 (fun e2 => HGR.out.1 (Option.some.inj e2).symm) (fun e2 => HGR.out.2.1 (Option.some.inj e2).symm));have HG4 := hJ (grown_newR HG3.out hg4 hgl.out);clear hr4 hg4 R3 B3 D3 HG3 P3 e1';have g1 : (0 : Int) ≤ (pn : Int) := by omega
  have g2 : (pn : Int) ≤ (pn : Int) + (k : Int) := by omega
  have hl4 : Hid ((splice (List.replicate (pn + k) 0) 0 P).length = pn + k) := by show _ = _; rw [splice_len (by rw [hfit.out, HLP.out]; omega)]; exact hfit.out
  by_cases hk0 : k = 0
  ·subst hk0
   go_wp2_with (refine wpList_copy_bytes rfl _ _ rfl _ _ _ _ _ _ rfl rfl g pn (splice (List.replicate (pn + 0) 0) 0 P) (sB zs s1 m).1 R4.out B4.out (by omega) (fun h => by omega) (by rw [hl4.out]; exact Nat.le_refl _) ?_)
   intro w5 hr5 hg5;have R5 := hJ hr5;have D5 := hJ (D4.out.kept hg5 (fun e2 => HGR.out.1 (Option.some.inj e2).symm) (fun e2 => HGR.out.2.1 (Option.some.inj e2).symm));have HG5 := hJ (grown_newR HG4.out hg5 hgl.out);clear hr5 hg5 R4 B4 D4 HG4;go_wp2;go_ret;rw [HKD.out];refine ⟨⟨g, pn + 0, rfl, ?_, by rw [List.length_append, HLP.out, HLB.out], hgl.out, by omega⟩, D5.out, HG5.out⟩;have e := splice_fill (Z := List.replicate (pn + 0) 0) (X := P) (Y := (sB zs s1 m).1) (by rw [hfit.out, HLP.out, HLB.out]);rw [HLP.out] at e;rw [← e]; exact R5.out
  ·have g3 : ¬ pn + k = pn := by omega
   go_wp2_with (refine wpList_copy_bytes rfl _ _ rfl _ _ _ _ _ _ rfl rfl g pn (splice (List.replicate (pn + k) 0) 0 P) (sB zs s1 m).1 R4.out B4.out (by omega) (fun h => by first | rfl | simp [Nat.zero_add]) (by rw [hl4.out]; exact Nat.le_refl _) ?_)
   intro w5 hr5 hg5;have R5 := hJ hr5;have D5 := hJ (D4.out.kept hg5 (fun e2 => HGR.out.1 (Option.some.inj e2).symm) (fun e2 => HGR.out.2.1 (Option.some.inj e2).symm));have HG5 := hJ (grown_newR HG4.out hg5 hgl.out);clear hr5 hg5 R4 B4 D4 HG4;go_wp2;go_ret;rw [HKD.out];refine ⟨⟨g, pn + k, rfl, ?_, by rw [List.length_append, HLP.out, HLB.out], hgl.out, by omega⟩, D5.out, HG5.out⟩;have e := splice_fill (Z := List.replicate (pn + k) 0) (X := P) (Y := (sB zs s1 m).1) (by rw [hfit.out, HLP.out, HLB.out]);rw [HLP.out] at e;rw [← e]; exact R5.out
theorem le_lt' (k : Nat) (zs : List Int) (h : Bt zs) : le k zs < 256 ^ k := le_lt k zs h
theorem sN_lt (zs : List Int) (s : Nat × Int) (k : Nat) (h : Bt zs) : (sN zs s k).1 < 256 ^ k := by
 unfold sN
 split
 ·split
  ·exact Nat.pow_pos (by omega)
  ·exact le_lt' k _ (h.drop _)
 ·exact Nat.pow_pos (by omega)
def Bx (w : World) (T : Nat) (a b c d : Value) : Prop := w.heap[T]? = some (.cells #[a, b, c, d] 62 (0, 0))
theorem Bx.lt {w : World} {T : Nat} {a b c d : Value} (h : Bx w T a b c d) : T < w.heap.size := (Array.getElem?_eq_some_iff.1 h).1
theorem Bx.cells {w : World} {T : Nat} {a b c d : Value} (h : Bx w T a b c d) : w.cell? ⟨T, 0, none⟩ = some a ∧ w.cell? ⟨T, 1, none⟩ = some b ∧ w.cell? ⟨T, 2, none⟩ = some c ∧ w.cell? ⟨T, 3, none⟩ = some d := by
 refine ⟨?_, ?_, ?_, ?_⟩
 ·rw [cell_of_row w T 0 _ _ _ h]; rfl
 ·rw [cell_of_row w T 1 _ _ _ h]; rfl
 ·rw [cell_of_row w T 2 _ _ _ h]; rfl
 ·rw [cell_of_row w T 3 _ _ _ h]; rfl
theorem Bx.frozen {w : World} {T : Nat} {a b c d : Value} (h : Bx w T a b c d) (j : Nat) : w.frozen? ⟨T, j, none⟩ = false := frozen_of_row w T j _ _ h
theorem Bx.kept {w w' : World} {T : Nat} {a b c d : Value} {row : Option Nat} (h : Bx w T a b c d) (hg : w.grownBy w' row) (hne : some T ≠ row) : Bx w' T a b c d := (hg.block T h.lt hne).trans h
theorem Bx.set1 {w : World} {T : Nat} {a b c d : Value} (h : Bx w T a b c d) (v : Value) : Bx (w.setCell ⟨T, 1, none⟩ v) T a v c d := heap_setCell_same w T 1 _ _ v h
theorem Bx.set2 {w : World} {T : Nat} {a b c d : Value} (h : Bx w T a b c d) (v : Value) : Bx (w.setCell ⟨T, 2, none⟩ v) T a b v d := heap_setCell_same w T 2 _ _ v h
theorem Bx.set3 {w : World} {T : Nat} {a b c d : Value} (h : Bx w T a b c d) (v : Value) : Bx (w.setCell ⟨T, 3, none⟩ v) T a b c v := heap_setCell_same w T 3 _ _ v h
theorem Bx.new (w : World) (a b c d : Value) : Bx (w.alloc (.cells #[a, b, c, d] 62)) w.heap.size a b c d := heap_alloc_new w _
structure Fr (w w' : World) (Q R G U T g : Nat) (po : Option Addr) (pn pc : Nat) (zs : List Int) (st : Nat × Int) (Ky : List Int) (a b c d : Value) : Prop where
 rd : Rd w' R G zs st.1 st.2
 lr : Lr w' Q R po pn pc
 u : Bx w' U (.slice none 0 0) (.slice none 0 0) (.int .i64 0) (.int .i64 0)
 t : Bx w' T a b c d
 ky : Rw w' g Ky
 gr : w.grownBy w' (some R)
 hT : T ≠ R ∧ T ≠ G ∧ T ≠ Q ∧ T ≠ U ∧ T ≠ g ∧ w.heap.size ≤ T
 hR : U ≠ R ∧ g ≠ R ∧ Q ≠ R
theorem Fr.call {w w' w'' : World} {Q R G U T g : Nat} {po : Option Addr} {pn pc : Nat} {zs : List Int} {st st' : Nat × Int} {Ky : List Int} {a b c d : Value} (h : Fr w w' Q R G U T g po pn pc zs st Ky a b c d) (hr : Rd w'' R G zs st'.1 st'.2) (hg : w'.grownBy w'' (some R)) : Fr w w'' Q R G U T g po pn pc zs st' Ky a b c d :=
 ⟨hr, h.lr.kept hg (fun e => h.hR.2.2 (Option.some.inj e)), h.u.kept hg (fun e => h.hR.1 (Option.some.inj e)), h.t.kept hg (fun e => h.hT.1 (Option.some.inj e)), h.ky.kept hg (fun e => h.hR.2.1 (Option.some.inj e)), gQ h.gr hg, h.hT, h.hR⟩
theorem Fr.drew {w w' : World} {Q R G U T g : Nat} {po : Option Addr} {pn pc : Nat} {zs : List Int} {st : Nat × Int} {Ky : List Int} {a b c d : Value} (h : Fr w w' Q R G U T g po pn pc zs st Ky a b c d) : Fr w w'.drew Q R G U T g po pn pc zs st Ky a b c d :=
 h.call (h.rd.kept ((Qt.refl w').drew.grown none) (by simp) (by simp)) ((Qt.refl w').drew.grown _)
theorem Fr.frame {w w' w'' : World} {Q R G U T g : Nat} {po : Option Addr} {pn pc : Nat} {zs : List Int} {st : Nat × Int} {Ky : List Int} {a b c d a' b' c' d' : Value} (h : Fr w w' Q R G U T g po pn pc zs st Ky a b c d) (hg : w'.grownBy w'' (some T)) (ht : Bx w'' T a' b' c' d') : Fr w w'' Q R G U T g po pn pc zs st Ky a' b' c' d' :=
 ⟨h.rd.kept hg (fun e => h.hT.1 (Option.some.inj e).symm) (fun e => h.hT.2.1 (Option.some.inj e).symm), h.lr.kept hg (fun e => h.hT.2.2.1 (Option.some.inj e).symm), h.u.kept hg (fun e => h.hT.2.2.2.1 (Option.some.inj e).symm), ht, h.ky.kept hg (fun e => h.hT.2.2.2.2.1 (Option.some.inj e).symm), grown_newR h.gr hg h.hT.2.2.2.2.2, h.hT, h.hR⟩
theorem Bx.set0 {w : World} {T : Nat} {a b c d : Value} (h : Bx w T a b c d) (v : Value) : Bx (w.setCell ⟨T, 0, none⟩ v) T v b c d := heap_setCell_same w T 0 _ _ v h
theorem item_size : (Tryz.prog.info? 62).map (·.size) = some 4 := by kernel_rfl
theorem ret_item {fn : Func} {p : Tmp} (h : fn.results = #[.cell p 62]) (tmps : Array Value) (w : World) (U : Nat) (a b c d : Value) (hp : tmps.getD p undef = .pointer (some ⟨U, 0, none⟩)) (hx : Bx w U a b c d) :
  (results fn tmps).run Tryz.prog w = .ok (.agg #[a, b, c, d]) w :=
 results_cell_row h tmps w U 62 #[a, b, c, d] (0, 0) _ hp hx Tryz.underlying62 rfl item_size
theorem Fr.done {w w' : World} {Q R G U T g : Nat} {po : Option Addr} {pn pc : Nat} {zs : List Int} {st : Nat × Int} {Ky : List Int} {a b c d : Value} (h : Fr w w' Q R G U T g po pn pc zs st Ky a b c d) (hU : w.heap.size ≤ U) (hUG : U ≠ G) (hUg : U ≠ g) :
  Bx ((((w'.setCell ⟨U, 0, none⟩ a).setCell ⟨U, 1, none⟩ b).setCell ⟨U, 2, none⟩ c).setCell ⟨U, 3, none⟩ d) U a b c d ∧ w'.grownBy ((((w'.setCell ⟨U, 0, none⟩ a).setCell ⟨U, 1, none⟩ b).setCell ⟨U, 2, none⟩ c).setCell ⟨U, 3, none⟩ d) (some U) ∧
  Rd ((((w'.setCell ⟨U, 0, none⟩ a).setCell ⟨U, 1, none⟩ b).setCell ⟨U, 2, none⟩ c).setCell ⟨U, 3, none⟩ d) R G zs st.1 st.2 ∧ Rw ((((w'.setCell ⟨U, 0, none⟩ a).setCell ⟨U, 1, none⟩ b).setCell ⟨U, 2, none⟩ c).setCell ⟨U, 3, none⟩ d) g Ky ∧
  w.grownBy ((((w'.setCell ⟨U, 0, none⟩ a).setCell ⟨U, 1, none⟩ b).setCell ⟨U, 2, none⟩ c).setCell ⟨U, 3, none⟩ d) (some R) := by
 have hg := gQ (gQ (gQ (grown_cell w' U 0 a) (grown_cell _ U 1 b)) (grown_cell _ U 2 c)) (grown_cell _ U 3 d);refine ⟨(((h.u.set0 a).set1 b).set2 c).set3 d, hg, h.rd.kept hg (fun e => h.hR.1 (Option.some.inj e).symm) (fun e => hUG (Option.some.inj e).symm), h.ky.kept hg (fun e => hUg (Option.some.inj e).symm), grown_newR h.gr hg hU⟩
def U8 (w : World) (b : Nat) : Prop := ∃ cur, w.heap[b]? = some (.cells cur 5 (0, 0))
theorem Rw.u8 {w : World} {g : Nat} {zs : List Int} (h : Rw w g zs) : U8 w g := ⟨_, h⟩
theorem Rd.u8 {w : World} {R G : Nat} {zs : List Int} {p : Nat} {e : Int} (h : Rd w R G zs p e) : U8 w G := by
 obtain ⟨cur, h1, _⟩ := h.row;exact ⟨cur, h1⟩
structure Im (w : World) (R : Nat) (ao : Option Addr) (n c : Nat) (bo : Option Addr) (m d : Nat) (x : It) : Prop where
 key : Byt w ao n c x.key
 kc : n ≤ c ∧ c ≤ 9223372036854775807
 val : Byt w bo m d x.val
 vc : m ≤ d ∧ d ≤ 9223372036854775807
 kb : ∀ ad, ao = some ad → 0 < n → ad.block ≠ R ∧ U8 w ad.block
 vb : ∀ ad, bo = some ad → 0 < m → ad.block ≠ R ∧ U8 w ad.block
theorem item_any (Q R G : Nat) (zs : List Int) (s : Nat × Int) (po : Option Addr) (pn pc : Nat) (P : List Int) (w : World) (hq : Lr w Q R po pn pc) (h : Rd w R G zs s.1 s.2) (hbt : Bt zs) (hP : Byt w po pn pc P) (hpb : ∀ ad, po = some ad → 0 < pn → ad.block ≠ R) (hQR : Q ≠ R) (hpn : pn ≤ 5000) (hz : zs.length ≤ 5000) :
  Calls Tryz.prog 163 #[.pointer (some ⟨Q, 0, none⟩)] w fun en w' => (∃ ao n c bo m d, en = .returned (.agg #[.slice ao n c, .slice bo m d, .int .i64 (sItem zs P s).1.size, .int .i64 (sItem zs P s).1.first]) ∧ Im w' R ao n c bo m d (sItem zs P s).1) ∧ Rd w' R G zs (sItem zs P s).2.1 (sItem zs P s).2.2 ∧ w.grownBy w' (some R) := by
 have HQ := hJ hq;have HR := hJ h;have HP := hJ hP;have hRl := h.lt.1;have HRL := hJ hRl;clear hq h hP hRl;have HI : Hid (sItem zs P s = sVal zs (sKey zs P s).1 (sV zs (sKey zs P s).2)) := rfl;have ga := World.grownBy_alloc w (.cells #[.slice none 0 0, .slice none 0 0, .int .i64 0, .int .i64 0] 62) none;have HKc := hJ (key_any Q R G zs s po pn pc P _ (HQ.out.kept ga (by simp)) (HR.out.kept ga (by simp) (by simp)) hbt (HP.out.keptN ga) hpb hQR hpn hz);clear ga;go_enter Tryz.func163, Tryz.ntmps163
 go_wp2_with fail
 refine HKc.out.mono ?_;rintro en w2 ⟨⟨g, k, rfl, hr2, hk2, hg2, hkk⟩, hd2, hgr2⟩;have hwg : w.heap.size < g := by simp at hg2; omega
 have U2 := hJ ((Bx.new w (.slice none 0 0) (.slice none 0 0) (.int .i64 0) (.int .i64 0)).kept hgr2 (fun e => by have := Option.some.inj e; have := HRL.out; omega));have W2 := hJ (gQ (grown_any (row := some R) (World.grownBy_alloc w (.cells #[.slice none 0 0, .slice none 0 0, .int .i64 0, .int .i64 0] 62) none)) hgr2);have Q2 := hJ (HQ.out.kept W2.out (fun e => hQR (Option.some.inj e)));have K2 := hJ hr2;have D2 := hJ hd2;have HSV := hJ (fun (W : World) (hW : Rd W R G zs (sKey zs P s).2.1 (sKey zs P s).2.2) => rd_V R G zs (sKey zs P s).2 W hW hbt);have hvl := sV_lt zs (sKey zs P s).2 hbt;have HB := hJ (fun (W : World) (hW : Rd W R G zs (sV zs (sKey zs P s).2).2.1 (sV zs (sKey zs P s).2).2.2) => rd_B R G zs (sV zs (sKey zs P s).2).2 ((sV zs (sKey zs P s).2).1 / 2 : Nat) W hW);have HN := hJ (fun (W : World) (hW : Rd W R G zs (sV zs (sKey zs P s).2).2.1 (sV zs (sKey zs P s).2).2.2) => rd_N4 R G zs (sV zs (sKey zs P s).2).2 W hW hbt);have hnl := sN_lt zs (sV zs (sKey zs P s).2).2 4 hbt;have HV : Hid (sVal zs (sKey zs P s).1 (sV zs (sKey zs P s).2) = if (sV zs (sKey zs P s).2).1 % 2 = 1 then (⟨(sKey zs P s).1, [], ((sV zs (sKey zs P s).2).1 / 2 : Nat), ((sN zs (sV zs (sKey zs P s).2).2 4).1 : Nat)⟩, (sN zs (sV zs (sKey zs P s).2).2 4).2) else (⟨(sKey zs P s).1, (sB zs (sV zs (sKey zs P s).2).2 ((sV zs (sKey zs P s).2).1 / 2 : Nat)).1, ((sV zs (sKey zs P s).2).1 / 2 : Nat), 0⟩, (sB zs (sV zs (sKey zs P s).2).2 ((sV zs (sKey zs P s).2).1 / 2 : Nat)).2)) := rfl;have HK2 := hJ hk2;have hRl2 : R < w2.heap.size := hd2.lt.1;have hGl2 : G < w2.heap.size := hd2.lt.2;have hQl2 : Q < w2.heap.size := Q2.out.lt;have hUl := U2.out.lt;have hgl := hr2.lt;have HUg : Hid (w.heap.size ≠ g) := fun e => by omega
 have hRU : w.heap.size ≠ R := by have := HRL.out; omega
 have HGLw := hJ HR.out.lt.2;have hGU : w.heap.size ≠ G := by have := HGLw.out; omega
 clear hr2 hk2 hd2 hgr2 HKc hg2;generalize (sKey zs P s).1 = Ky at *;generalize (sKey zs P s).2 = s2 at *;generalize (sV zs s2).2 = s3 at *;generalize (sV zs s2).1 = tg1 at *;obtain ⟨qc0, _, _⟩ := Q2.out.cells;have gb := World.grownBy_alloc w2 (.cells #[.slice (some ⟨g, 0, none⟩) k k, .slice none 0 0, .int .i64 0, .int .i64 0] 62) none
 have F3 : Hid (Fr w (w2.alloc (.cells #[.slice (some ⟨g, 0, none⟩) k k, .slice none 0 0, .int .i64 0, .int .i64 0] 62)) Q R G w.heap.size w2.heap.size g po pn pc zs s2 Ky (.slice (some ⟨g, 0, none⟩) k k) (.slice none 0 0) (.int .i64 0) (.int .i64 0)) :=
  ⟨D2.out.kept gb (by simp) (by simp), Q2.out.kept gb (by simp), U2.out.kept gb (by simp), Bx.new w2 _ _ _ _, K2.out.keptN gb, gQ W2.out (grown_any gb), ⟨by omega, by omega, by omega, by omega, by omega, W2.out.size⟩, ⟨hRU, by have := HRL.out; omega, hQR⟩⟩
 obtain ⟨h2, hh2⟩ : ∃ h2 : Nat, tg1 / 2 = h2 := ⟨_, rfl⟩;have hdiv : (tg1 : Int) / 2 = (h2 : Int) := by omega
 rw [hh2] at HB HV;have hh3 : h2 ≤ 9223372036854775807 := by omega
 clear hh2 gb D2 Q2 U2 W2 K2
 go_wp2_with fail
 clear qc0;generalize w2.alloc (.cells #[.slice (some ⟨g, 0, none⟩) k k, .slice none 0 0, .int .i64 0, .int .i64 0] 62) = w3 at *;have hTl : w.heap.size ≤ w2.heap.size := F3.out.hT.2.2.2.2.2;have HTL := hJ hTl;clear hTl hRl2 hGl2 hQl2 hUl hgl hwg;generalize w2.heap.size = T at *;refine (HSV.out _ F3.out.rd).mono ?_;rintro en w4 ⟨rfl, hr4, hg4⟩;have F4 := hJ (F3.out.call hr4 hg4);clear hr4 hg4 F3;have f2 := F4.out.t.frozen 2;obtain ⟨t0, t1, t2, t3⟩ := F4.out.t.cells
 by_cases hod : tg1 % 2 = 1
 ·have hmod : (tg1 : Int) % 2 = 1 := by omega
  rw [if_pos hod] at HV;have qq := (F4.out.frame (grown_cell w4 T 2 (.int .i64 (h2 : Int))) (F4.out.t.set2 _)).lr.cells.1;have F5 := hJ (F4.out.frame (grown_cell w4 T 2 (.int .i64 (h2 : Int))) (F4.out.t.set2 _))
  go_wp2_with fail
  generalize w4.setCell ⟨T, 2, none⟩ (.int .i64 (h2 : Int)) = w5 at *;refine (HN.out _ F5.out.rd).mono ?_;rintro en w6 ⟨rfl, hr6, hg6⟩;have F6 := hJ (F5.out.call hr6 hg6);clear hr6 hg6 F5 qq F4 t0 t1 t2 t3 f2;generalize (sN zs s3 4).1 = fn at *;have hfn : fn < 4294967296 := hnl;have f3 := F6.out.t.frozen 3;obtain ⟨t0, t1, t2, t3⟩ := F6.out.t.cells;have F7 := hJ (F6.out.frame (grown_cell w6 T 3 (.int .i64 (fn : Int))) (F6.out.t.set3 _));obtain ⟨v0, v1, v2, v3⟩ := F7.out.t.cells;obtain ⟨y0, y1, y2, y3⟩ := F7.out.u.cells;have z0 := F7.out.u.frozen 0;have z1 := F7.out.u.frozen 1;have z2 := F7.out.u.frozen 2;have z3 := F7.out.u.frozen 3;have HD := hJ (F7.out.done (Nat.le_refl _) hGU HUg.out);go_wp2;obtain ⟨d1, d2, d3, d4, d5⟩ := HD.out;refine bodyPost_ret (ret_item rfl _ _ w.heap.size _ _ _ _ rfl d1) rfl ?_;rw [HI.out, HV.out];exact ⟨⟨_, _, _, _, _, _, rfl, ⟨d4.all k k HK2.out.symm, ⟨Nat.le_refl _, by omega⟩, Byt.zero _ _, ⟨Nat.le_refl _, by omega⟩, fun ad e _ => by obtain rfl := Option.some.inj e; exact ⟨F7.out.hR.2.1, d4.u8⟩, fun ad e _ => by cases e⟩⟩, d3, d5⟩
 ·have hmod : (tg1 : Int) % 2 = 0 := by omega
  rw [if_neg hod] at HV;have F5 := hJ (F4.out.frame (grown_cell w4 T 2 (.int .i64 (h2 : Int))) (F4.out.t.set2 _));obtain ⟨q0, _, _⟩ := F5.out.lr.cells;obtain ⟨x0, x1, x2, x3⟩ := F5.out.t.cells
  go_wp2_with fail
  clear t0 t1 t2 t3 f2;generalize w4.setCell ⟨T, 2, none⟩ (.int .i64 (h2 : Int)) = w5 at *;clear F4
  go_region_with (go_at_call 136; refine (HB.out _ (by exact F5.out.drew.rd)).mono ?_; rintro en w6 ⟨⟨bo, m, rfl, hb6, hbo, hm6⟩, hr6, hg6⟩; have F6 := hJ (F5.out.drew.call hr6 hg6); have f1 := F6.out.t.frozen 1; obtain ⟨t0, t1, t2, t3⟩ := F6.out.t.cells; obtain ⟨r0, _, _⟩ := F6.out.lr.cells)
  all_goals
   have F7 := hJ (F6.out.frame (grown_cell w6 T 1 (.slice bo m m)) (F6.out.t.set1 _));have B7 := hJ (hb6.kept (grown_cell w6 T 1 (.slice bo m m)) (fun ad e h e2 => by have := hbo h; rw [e] at this; obtain rfl := Option.some.inj this; exact F6.out.hT.2.1 (Option.some.inj e2).symm));have HBO := hJ hbo;clear hb6 hbo hr6 hg6;obtain ⟨v0, v1, v2, v3⟩ := F7.out.t.cells;obtain ⟨y0, y1, y2, y3⟩ := F7.out.u.cells;have z0 := F7.out.u.frozen 0;have z1 := F7.out.u.frozen 1;have z2 := F7.out.u.frozen 2;have z3 := F7.out.u.frozen 3;have HD := hJ (F7.out.done (Nat.le_refl _) hGU HUg.out);go_wp2;obtain ⟨d1, d2, d3, d4, d5⟩ := HD.out;refine bodyPost_ret (ret_item rfl _ _ w.heap.size _ _ _ _ rfl d1) rfl ?_;rw [HI.out, HV.out];refine ⟨⟨_, _, _, _, _, _, rfl, ⟨d4.all k k HK2.out.symm, ⟨Nat.le_refl _, by omega⟩, B7.out.kept d2 (fun ad e h e2 => ?_), ⟨Nat.le_refl _, by omega⟩, fun ad e _ => by obtain rfl := Option.some.inj e; exact ⟨F7.out.hR.2.1, d4.u8⟩, fun ad e h => ?_⟩⟩, d3, d5⟩
   ·have h9 := HBO.out h
    rw [e] at h9;obtain rfl := Option.some.inj h9;exact hGU (Option.some.inj e2).symm
   ·have h9 := HBO.out h
    rw [e] at h9;obtain rfl := Option.some.inj h9;exact ⟨F7.out.rd.ne, d3.u8⟩
theorem U8.kept {w w' : World} {b : Nat} {row : Option Nat} (h : U8 w b) (hg : w.grownBy w' row) (hne : some b ≠ row) : U8 w' b := by
 obtain ⟨cur, h1⟩ := h;exact ⟨cur, (hg.block b (Array.getElem?_eq_some_iff.1 h1).1 hne).trans h1⟩
theorem Im.kept {w w' : World} {R : Nat} {ao : Option Addr} {n c : Nat} {bo : Option Addr} {m d : Nat} {x : It} {row : Option Nat} (h : Im w R ao n c bo m d x) (hg : w.grownBy w' row) (hne : ∀ b, b ≠ R → U8 w b → some b ≠ row) : Im w' R ao n c bo m d x :=
 ⟨h.key.kept hg (fun ad e hn => hne _ (h.kb ad e hn).1 (h.kb ad e hn).2), h.kc, h.val.kept hg (fun ad e hn => hne _ (h.vb ad e hn).1 (h.vb ad e hn).2), h.vc,
  fun ad e hn => ⟨(h.kb ad e hn).1, (h.kb ad e hn).2.kept hg (hne _ (h.kb ad e hn).1 (h.kb ad e hn).2)⟩, fun ad e hn => ⟨(h.vb ad e hn).1, (h.vb ad e hn).2.kept hg (hne _ (h.vb ad e hn).1 (h.vb ad e hn).2)⟩⟩
structure Iv (w : World) (R : Nat) (xs : List Value) (L : List It) : Prop where
 len : xs.length = L.length * 4
 el : ∀ j, j < L.length → ∃ ao n c bo m d, xs[j * 4]? = some (.slice ao n c) ∧ xs[j * 4 + 1]? = some (.slice bo m d) ∧ xs[j * 4 + 2]? = some (.int .i64 (L.getD j it0).size) ∧ xs[j * 4 + 3]? = some (.int .i64 (L.getD j it0).first) ∧ Im w R ao n c bo m d (L.getD j it0)
theorem Iv.nil (w : World) (R : Nat) : Iv w R [] [] := ⟨rfl, fun j hj => by simp at hj⟩
theorem Iv.kept {w w' : World} {R : Nat} {xs : List Value} {L : List It} {row : Option Nat} (h : Iv w R xs L) (hg : w.grownBy w' row) (hne : ∀ b, b ≠ R → U8 w b → some b ≠ row) : Iv w' R xs L := by
 refine ⟨h.len, fun j hj => ?_⟩;obtain ⟨ao, n, c, bo, m, d, h1, h2, h3, h4, h5⟩ := h.el j hj;exact ⟨ao, n, c, bo, m, d, h1, h2, h3, h4, h5.kept hg hne⟩
theorem Iv.snoc {w : World} {R : Nat} {xs : List Value} {L : List It} {ao : Option Addr} {n c : Nat} {bo : Option Addr} {m d : Nat} {x : It} (h : Iv w R xs L) (hx : Im w R ao n c bo m d x) (s f : Int) (hs : x.size = s) (hf : x.first = f) :
  Iv w R (xs ++ [.slice ao n c, .slice bo m d, .int .i64 s, .int .i64 f]) (L ++ [x]) := by
 have hl := h.len;refine ⟨by simp [hl]; omega, fun j hj => ?_⟩;rw [List.length_append] at hj;simp only [List.length_cons, List.length_nil] at hj
 by_cases e : j < L.length
 ·obtain ⟨ao, n, c, bo, m, d, h1, h2, h3, h4, h5⟩ := h.el j e
  have eg : (L ++ [x]).getD j it0 = L.getD j it0 := by simp [List.getD, List.getElem?_append_left e]
  rw [eg];exact ⟨ao, n, c, bo, m, d, by rw [List.getElem?_append_left (by omega)]; exact h1, by rw [List.getElem?_append_left (by omega)]; exact h2, by rw [List.getElem?_append_left (by omega)]; exact h3, by rw [List.getElem?_append_left (by omega)]; exact h4, h5⟩
 ·obtain rfl : j = L.length := by omega
  have eg : (L ++ [x]).getD L.length it0 = x := by simp [List.getD]
  rw [eg, hs, hf];refine ⟨ao, n, c, bo, m, d, ?_, ?_, ?_, ?_, hx⟩
  ·rw [List.getElem?_append_right (by omega), hl, Nat.sub_self]; rfl
  ·rw [List.getElem?_append_right (by omega), hl, Nat.add_sub_cancel_left]; rfl
  ·rw [List.getElem?_append_right (by omega), hl, Nat.add_sub_cancel_left]; rfl
  ·rw [List.getElem?_append_right (by omega), hl, Nat.add_sub_cancel_left]; rfl
theorem Iv.il {w : World} {R base : Nat} {v : Value} {n : Nat} {xs : List Value} {L : List It} (h : Iv w R xs L) (ho : w.ownsRow base 62 4 v n xs) : ∃ a cap, v = .slice a n cap ∧ Il w a L ∧ L.length = n ∧ n ≤ cap ∧ cap ≤ 9223372036854775807 := by
 have hl := h.len;have hn : L.length = n := by have := ho.1; omega
 rcases ho.2 with ⟨rfl, rfl⟩ | ⟨g, cap, cur, rfl, _, _, hc, hm, _⟩
 ·obtain rfl : L = [] := List.length_eq_zero_iff.1 hn
  exact ⟨none, 0, rfl, Il.zero _ _, rfl, Nat.le_refl _, by omega⟩
 ·refine ⟨_, cap, rfl, ⟨fun i hi => ?_⟩, hn, hc, by unfold maxLen at hm; omega⟩
  obtain ⟨ao, n', c, bo, m, d, h1, h2, h3, h4, h5⟩ := h.el i hi;refine ⟨g, 0, ao, n', c, bo, m, d, rfl, ?_, ?_, ?_, ?_, h5.key, h5.kc.1, by have := h5.kc.2; omega, h5.val, h5.vc.1, by have := h5.vc.2; omega⟩
  ·rw [Nat.zero_add, ho.cellAt _ (by omega)]; exact h1
  ·rw [Nat.zero_add, ho.cellAt _ (by omega)]; exact h2
  ·rw [Nat.zero_add, ho.cellAt _ (by omega)]; exact h3
  ·rw [Nat.zero_add, ho.cellAt _ (by omega)]; exact h4
theorem own_item_ne {w : World} {base : Nat} {v : Value} {n : Nat} {xs : List Value} (ho : w.ownsRow base 62 4 v n xs) : ∀ b, U8 w b → some b ≠ v.ownBlock := by
 intro b ⟨cur, h1⟩ e;rcases ho.2 with ⟨rfl, _⟩ | ⟨g, cap, cur', rfl, _, hg, _⟩
 ·cases e
 ·obtain rfl : b = g := Option.some.inj e
  rw [h1] at hg;simp only [Option.some.injEq, Obj.cells.injEq] at hg;exact absurd hg.2.1 (by decide)
theorem info_item : (Tryz.prog.info? 62).map (fun i => (i.zero, i.size, i.bytes)) = some (some (.agg #[.slice none 0 0, .slice none 0 0, .int .i64 0, .int .i64 0]), 4, 64) := by kernel_rfl
theorem cell_four_new (w : World) (a b c d : Value) (t : TypeId) : ∀ j u, [a, b, c, d][j]? = some u → (w.alloc (.cells #[a, b, c, d] t)).cell? ((⟨w.heap.size, 0, none⟩ : Addr).add j) = some u := by
 intro j u hu;rw [Addr.add_lit, Nat.zero_add, cell_of_row _ w.heap.size j _ _ (0, 0) (heap_alloc_new w _)];simpa using hu
theorem Two.grown2 {w w' w'' : World} {R Q : Nat} {row : Option Nat} (h : Two w w' R Q) (hg : w'.grownBy w'' row) (hr : ∀ k, row = some k → k = R ∨ k = Q ∨ w.heap.size ≤ k) : Two w w'' R Q :=
 ⟨hg.os.trans h.os, hg.tape.trans h.tape, hg.output.trans h.output, Nat.le_trans h.size hg.size, fun k hk h1 h2 => (hg.block k (Nat.lt_of_lt_of_le hk h.size) (fun e => by rcases hr k e.symm with e2 | e2 | e2 <;> omega)).trans (h.block k hk h1 h2)⟩
theorem rr_V (R G : Nat) (zs : List Int) (s : Nat × Int) (w : World) (h : Rr w R G zs s.1 s.2) (hbt : Bt zs) :
  Calls Tryz.prog 63 #[.pointer (some ⟨R, 0, none⟩)] w fun en w' => en = .returned (.int .u64 ((sV zs s).1 : Nat)) ∧ Rr w' R G zs (sV zs s).2.1 (sV zs s).2.2 ∧ w.grownBy w' (some R) := by
 obtain ⟨p, e⟩ := s
 by_cases he : e = 0
 ·subst he
  by_cases h0 : (rv (zs.drop p)).2.2 = 0
  ·have e1 : sV zs (p, 0) = ((rv (zs.drop p)).1, (p + (rv (zs.drop p)).2.1, 0)) := by unfold sV; rw [if_pos rfl, if_pos h0]
   rw [e1];exact refV_ok R G zs p _ _ w h hbt (by rw [← h0])
  ·have e1 : sV zs (p, 0) = (0, (p, (rv (zs.drop p)).2.2)) := by unfold sV; rw [if_pos rfl, if_neg h0]
   rw [e1];refine refV_bad R G zs p _ w h hbt ?_ h0;rcases scan_err 10 0 0 (zs.drop p) with h1 | h1 | h1 | h1
   ·exact absurd h1 h0
   ·show rv _ = _; unfold rv; rw [h1]
   ·show rv _ = _; unfold rv; rw [h1]
   ·show rv _ = _; unfold rv; rw [h1]
 ·have e1 : sV zs (p, e) = (0, (p, e)) := by unfold sV; rw [if_neg he]
  rw [e1];refine (refV_broken R G zs p e w h (by simpa using he)).mono ?_;rintro en w' ⟨rfl, rfl⟩;exact ⟨rfl, h, World.grownBy.refl _ _⟩
theorem rr_B (R G : Nat) (zs : List Int) (s : Nat × Int) (m : Int) (w : World) (h : Rr w R G zs s.1 s.2) :
  Calls Tryz.prog 64 #[.pointer (some ⟨R, 0, none⟩), .int .i64 m] w fun en w' => (∃ ao k c, en = .returned (.slice ao k c) ∧ Byt w' ao k c (sB zs s m).1 ∧ k ≤ zs.length ∧ k ≤ c ∧ c ≤ zs.length ∧ (∀ ad, ao = some ad → 0 < k → w.heap.size ≤ ad.block ∧ ∃ cur, w'.heap[ad.block]? = some (.cells cur 5 (0, 0)))) ∧ Rr w' R G zs (sB zs s m).2.1 (sB zs s m).2.2 ∧ w.grownBy w' (some R) := by
 obtain ⟨p, e⟩ := s
 by_cases he : e = 0
 ·subst he
  have hp : p ≤ zs.length := h.le
  by_cases h0 : m < 0 ∨ (zs.length : Int) - p < m
  ·have e1 : sB zs (p, 0) m = ([], (p, 10)) := by unfold sB; rw [if_pos rfl, if_pos h0]
   rw [e1];rcases h0 with h0 | h0
   ·refine (rbytes_neg R G zs p m w h h0).mono ?_
    rintro en w' ⟨rfl, h1, h2⟩;exact ⟨⟨_, _, _, rfl, Byt.zero _ _, by omega, by omega, by omega, fun _ _ h => by omega⟩, h1, h2⟩
   ·refine (rbytes_short R G zs p m w h h0).mono ?_
    rintro en w' ⟨rfl, h1, h2⟩;exact ⟨⟨_, _, _, rfl, Byt.zero _ _, by omega, by omega, by omega, fun _ _ h => by omega⟩, h1, h2⟩
  ·have e1 : sB zs (p, 0) m = ((zs.drop p).take m.toNat, (p + m.toNat, 0)) := by unfold sB; rw [if_pos rfl, if_neg h0]
   rw [e1];obtain ⟨k, rfl⟩ : ∃ k : Nat, m = (k : Int) := ⟨m.toNat, by omega⟩;rw [Int.toNat_natCast];refine (rbytes_new R G zs p k w h (by omega)).mono ?_;rintro en w' ⟨ao, rfl, h2, h3, h4, h5⟩;exact ⟨⟨ao, k, k, rfl, h2, by omega, Nat.le_refl _, by omega, fun ad e _ => h5 ad e⟩, h3, h4⟩
 ·have e1 : sB zs (p, e) m = ([], (p, e)) := by unfold sB; rw [if_neg he]
  rw [e1];refine (rbytes_broken R G zs p e m w h (by simpa using he)).mono ?_;rintro en w' ⟨rfl, rfl⟩;exact ⟨⟨_, _, _, rfl, Byt.zero _ _, by omega, by omega, by omega, fun _ _ h => by omega⟩, h, World.grownBy.refl _ _⟩
theorem rr_N (R G : Nat) (zs : List Int) (s : Nat × Int) (k : Nat) (w : World) (h : Rr w R G zs s.1 s.2) (hbt : Bt zs) (hk : k ≤ 8) :
  Calls Tryz.prog 62 #[.pointer (some ⟨R, 0, none⟩), .int .i64 k] w fun en w' => en = .returned (.int .u64 ((sN zs s k).1 : Nat)) ∧ Rr w' R G zs (sN zs s k).2.1 (sN zs s k).2.2 ∧ w.grownBy w' (some R) := by
 obtain ⟨p, e⟩ := s
 by_cases he : e = 0
 ·subst he
  by_cases h0 : zs.length < p + k
  ·have e1 : sN zs (p, 0) k = (0, (p, 10)) := by unfold sN; rw [if_pos rfl, if_pos h0]
   rw [e1];exact rnum_short R G zs p k w h hk h0
  ·have e1 : sN zs (p, 0) k = (le k (zs.drop p), (p + k, 0)) := by unfold sN; rw [if_pos rfl, if_neg h0]
   rw [e1];exact rnum_ok R G zs p k w h hbt hk (by omega)
 ·have e1 : sN zs (p, e) k = (0, (p, e)) := by unfold sN; rw [if_neg he]
  rw [e1];refine (rnum_broken R G zs p e k w h (by simpa using he)).mono ?_;rintro en w' ⟨rfl, rfl⟩;exact ⟨rfl, h, World.grownBy.refl _ _⟩
end Go.Proofs.YtkiopabcnemgnaaGreatDoor
