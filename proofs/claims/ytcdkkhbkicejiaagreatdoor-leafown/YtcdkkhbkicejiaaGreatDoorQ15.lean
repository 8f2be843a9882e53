import Derived.Test.YtcdkkhbkicejiaaGreatDoorQ14
import Derived.Deep.RegionLaw
import Derived.Great.Walk
import Derived.Test.YtcdkkhbkicejiaaGreatDoorQ16
namespace Go.Proofs.YtcdkkhbkicejiaaGreatDoor
open Go.RowKit
def Rw (w : World) (g : Nat) (zs : List Int) : Prop := w.heap[g]? = some (.cells (zs.map (Value.int .u8)).toArray 5 (0, 0))
theorem Rw.lt {w : World} {g : Nat} {zs : List Int} (h : Rw w g zs) : g < w.heap.size := (Array.getElem?_eq_some_iff.1 h).1
theorem Rw.cell {w : World} {g : Nat} {zs : List Int} (h : Rw w g zs) (i : Nat) (hi : i < zs.length) : w.cell? ⟨g, i, none⟩ = some (.int .u8 (zs.getD i 0)) := by
 rw [cell_of_row w g i _ _ (0, 0) h]
 simp [List.getD, List.getElem?_eq_getElem hi]
theorem Rw.byt {w : World} {g : Nat} {zs : List Int} (h : Rw w g zs) (off n cap : Nat) (hn : off + n ≤ zs.length) : Byt w (some ⟨g, off, none⟩) n cap ((zs.drop off).take n) := by
 refine Byt.of_cells (by rw [List.length_take, List.length_drop]; omega) fun i hi => ?_
 rw [h.cell (off + i) (by omega)]
 simp [List.getD, hi]
theorem Rw.all {w : World} {g : Nat} {zs : List Int} (h : Rw w g zs) (n cap : Nat) (hn : n = zs.length) : Byt w (some ⟨g, 0, none⟩) n cap zs := by
 have := h.byt 0 n cap (by omega)
 rwa [List.drop_zero, List.take_of_length_le (by omega)] at this
theorem Rw.kept {w w' : World} {row : Option Nat} {g : Nat} {zs : List Int} (h : Rw w g zs) (hg : w.grownBy w' row) (hne : some g ≠ row) : Rw w' g zs := (hg.block g h.lt hne).trans h
theorem Rw.keptN {w w' : World} {g : Nat} {zs : List Int} (h : Rw w g zs) (hg : w.grownBy w' none) : Rw w' g zs := h.kept hg (by simp)
theorem Rw.of_owns {w : World} {base g n : Nat} {zs : List Int} (h : w.ownsRow base 5 1 (.slice (some ⟨g, 0, none⟩) n n) n (zs.map (Value.int .u8))) : Rw w g zs := by
 rcases h with ⟨hl, ⟨h0, _⟩ | ⟨g', cap, cur, hv, _, hg, _, _, hs, ht⟩⟩
 ·cases h0
 ·injection hv with e1 e2 e3
  injection e1 with e1
  injection e1 with e4
  subst e4 e3
  have : cur.toList = zs.map (Value.int .u8) := by
   rw [← ht, List.take_of_length_le (by simp [hs])]
  unfold Rw
  rw [hg, ← this]
theorem made (n : Nat) : (madeCells #[Value.int .u8 0] n).toList = (List.replicate n (0 : Int)).map (Value.int .u8) := by
 refine List.ext_getElem (by simp [madeCells]) fun i h1 h2 => ?_
 simp [madeCells, Nat.mod_one]
structure Ro (w w' : World) (g : Nat) (xs : List Value) : Prop where
 row : w'.heap[g]? = some (.cells xs.toArray 5 (0, 0))
 oth : ∀ k, k ≠ g → w'.heap[k]? = w.heap[k]?
 size : w'.heap.size = w.heap.size
 os : w'.os = w.os
 tape : w'.tape = w.tape
 output : w'.output = w.output
theorem Ro.cell {w w' : World} {g : Nat} {xs : List Value} (h : Ro w w' g xs) (R i : Nat) (hR : R ≠ g) : w'.cell? ⟨R, i, none⟩ = w.cell? ⟨R, i, none⟩ := World.cell?_of_block (h.oth R hR)
theorem Ro.grown {w w' : World} {g : Nat} {xs : List Value} (h : Ro w w' g xs) : w.grownBy w' (some g) :=
 ⟨h.os, h.tape, h.output, by rw [h.size]; exact Nat.le_refl _, fun k _ hne => h.oth k (fun e => hne (by rw [e]))⟩
theorem step_copy_ro {ops : Array Oper} {o : Oper} {a : Act} {w : World} {K : Act → World → Prop} {Q : Exit → Act → World → Prop} {E : Prop} (hgd : o.guard = none) (d s : Operand)
  (ho : o.op = .call { callee := .builtin .copy, args := #[d, s], argTypes := #[42, 42] })
  (dp sp : Option Addr) (dLen dCap sLen sCap : Nat) (hd : a.eval d = .slice dp dLen dCap) (hs : a.eval s = .slice sp sLen sCap)
  (g off : Nat) (cur : List Value) (hg : w.heap[g]? = some (.cells cur.toArray 5 (0, 0))) (cs : List Value) (hn : cs.length = Nat.min sLen dLen)
  (hpos : 0 < cs.length → dp = some ⟨g, off, none⟩ ∧ ∃ ad, sp = some ad ∧ ∀ j v, cs[j]? = some v → w.cell? (ad.add j) = some v)
  (hfit : off + cs.length ≤ cur.length) (h1 : ∀ v ∈ cs, v.oneCell' = true) (k : Nat) (hk : cs.length = k)
  (h : ∀ w', Ro w w' g (splice cur off cs) → K (a.put o.dst (.int .i64 (k : Int))) w') :
  if Region.wanted o (yielded ops a.tmps) = true then Oper.wp Tryz.prog o a w K Q else E := by
 obtain ⟨i0, hi, hz0, hz1, hz2⟩ := info_parts info_u8
 have hsz : (Tryz.prog.info? 5).map (·.size) = some 1 := by rw [hi]; exact congrArg some hz1
 have hw : Region.wanted o (yielded ops a.tmps) = true := by simp [Region.wanted, hgd]
 rw [if_pos hw]
 subst hk
 by_cases h0 : cs.length = 0
 ·obtain rfl : cs = [] := List.eq_nil_of_length_eq_zero h0
  have hrun := run_copy_none (P := Tryz.prog) w 42 42 o.type 5 dp sp dLen dCap sLen sCap Tryz.underlying42 hsz (by simpa using hn.symm)
  unfold Oper.wp
  simp [execOp, ho, resolve, invoke, builtin, hd, hs, hrun, Result.andThen]
  exact h w ⟨by simpa [splice] using hg, fun _ _ => rfl, rfl, rfl, rfl, rfl⟩
 ·obtain ⟨rfl, ad, rfl, hsrc⟩ := hpos (by omega)
  have hrun := run_copy_row (P := Tryz.prog) w 42 42 o.type 5 g off dLen dCap ad sLen sCap cur.toArray 5 cs Tryz.underlying42 hsz hg hn hsrc (by simpa using hfit) h1
  unfold Oper.wp
  simp [execOp, ho, resolve, invoke, builtin, hd, hs, hrun, Result.andThen]
  exact h _ ⟨by simpa [splice] using setRow_heap w g _ _ _ _ hg, fun k hk => setRow_other w g k _ hk, by simp [World.setRow], rfl, rfl, rfl⟩
def Wt (w : World) (R G p : Nat) : Prop := w.heap[R]? = some (.cells #[.slice (some ⟨G, 0, none⟩) 4092 4092, .int .i64 p] 72 (0, 0))
theorem Wt.cells {w : World} {R G p : Nat} (h : Wt w R G p) : w.cell? ⟨R, 0, none⟩ = some (.slice (some ⟨G, 0, none⟩) 4092 4092) ∧ w.cell? ⟨R, 1, none⟩ = some (.int .i64 p) ∧ w.frozen? ⟨R, 1, none⟩ = false := by
 refine ⟨?_, ?_, frozen_of_row w R 1 _ _ h⟩
 ·rw [cell_of_row w R 0 _ _ _ h]; rfl
 ·rw [cell_of_row w R 1 _ _ _ h]; rfl
theorem Wt.lt {w : World} {R G p : Nat} (h : Wt w R G p) : R < w.heap.size := (Array.getElem?_eq_some_iff.1 h).1
theorem Wt.set {w : World} {R G p : Nat} (h : Wt w R G p) (q : Nat) (v : Int) (hv : v = (q : Int)) : Wt (w.setCell ⟨R, 1, none⟩ (.int .i64 v)) R G q := by
 have := heap_setCell_same w R 1 _ _ (.int .i64 v) h
 subst hv
 exact this
structure Two (w w' : World) (R G : Nat) : Prop where
 os : w'.os = w.os
 tape : w'.tape = w.tape
 output : w'.output = w.output
 size : w.heap.size ≤ w'.heap.size
 block : ∀ k, k < w.heap.size → k ≠ R → k ≠ G → w'.heap[k]? = w.heap[k]?
theorem Two.of_grown {w w' : World} {R G : Nat} (h : w.grownBy w' none) : Two w w' R G := ⟨h.os, h.tape, h.output, h.size, fun k hk _ _ => h.block k hk (by simp)⟩
theorem Two.trans {a b c : World} {R G : Nat} (h : Two a b R G) (k : Two b c R G) : Two a c R G :=
 ⟨k.os.trans h.os, k.tape.trans h.tape, k.output.trans h.output, Nat.le_trans h.size k.size, fun i hi h1 h2 => (k.block i (Nat.lt_of_lt_of_le hi h.size) h1 h2).trans (h.block i hi h1 h2)⟩
theorem Two.grown {w0 w w' : World} {R G : Nat} (h : Two w w' R G) (hg : w0.grownBy w none) (h1 : w0.heap.size ≤ R) (h2 : w0.heap.size ≤ G) : w0.grownBy w' none :=
 ⟨h.os.trans hg.os, h.tape.trans hg.tape, h.output.trans hg.output, Nat.le_trans hg.size h.size, fun k hk _ => (h.block k (Nat.lt_of_lt_of_le hk hg.size) (by omega) (by omega)).trans (hg.block k hk (by simp))⟩
theorem splice_map (cs zs : List Int) (p : Nat) : splice (cs.map (Value.int .u8)) p (zs.map (Value.int .u8)) = (splice cs p zs).map (Value.int .u8) := by
 simp [splice]
set_option maxHeartbeats 2000000 in
set_option maxRecDepth 100000 in
theorem lay_any (R G p : Nat) (cs : List Int) (ao : Option Addr) (n c : Nat) (zs : List Int) (w : World) (hw : Wt w R G p) (hr : Rw w G cs) (hcs : cs.length = 4092) (hb : Byt w ao n c zs) (hRG : R ≠ G) (hp : p + n ≤ 4092) :
  Calls Tryz.prog 35 #[.pointer (some ⟨R, 0, none⟩), .slice ao n c] w fun en w' => en = .returned (.tuple #[]) ∧ Wt w' R G (p + n) ∧ Rw w' G (splice cs p zs) ∧ Two w w' R G ∧ w'.heap.size = w.heap.size := by
 obtain ⟨c0, c1, f1⟩ := hw.cells
 have hl := hb.len
 obtain ⟨X, hX⟩ : ∃ X, X = zs.map (Value.int .u8) := ⟨_, rfl⟩
 obtain ⟨Z, hZ⟩ : ∃ Z, Z = cs.map (Value.int .u8) := ⟨_, rfl⟩
 have hXl : X.length = n := by rw [hX, List.length_map]; exact hl
 have hZl : Z.length = 4092 := by rw [hZ, List.length_map]; exact hcs
 have hX1 : ∀ v ∈ X, v.oneCell' = true := by rw [hX]; exact ints_oneCell _ _
 have HZ : Hid (∀ W : World, W.heap = w.heap → W.heap[G]? = some (.cells Z.toArray 5 (0, 0))) := fun W e => by rw [e, hZ]; exact hr
 have HS : Hid (∀ W : World, W.heap = w.heap → 0 < X.length → ∃ ad, ao = some ad ∧ ∀ j v, X[j]? = some v → W.cell? (ad.add j) = some v) := by
  intro W e h0
  cases ao with
  | none => have := (hb.nil rfl).1; omega
  | some ad => exact ⟨ad, rfl, by rw [hX]; exact (hb.heap e).cells ad rfl⟩
 have HC : Hid (∀ W : World, W.heap = w.heap → W.cell? ⟨R, 0, none⟩ = some (.slice (some ⟨G, 0, none⟩) 4092 4092) ∧ W.cell? ⟨R, 1, none⟩ = some (.int .i64 p) ∧ W.frozen? ⟨R, 1, none⟩ = false) := by
  intro W e
  exact ⟨(World.cell?_of_block (by rw [e])).trans c0, (World.cell?_of_block (by rw [e])).trans c1, (World.frozen?_of_block (by rw [e])).trans f1⟩
 have HF : Hid (∀ w4 wq : World, wq.os = w.os → wq.tape = w.tape → wq.output = w.output → wq.heap = w.heap → Ro wq w4 G (splice Z p X) → ∀ v : Int, v = ((p + n : Nat) : Int) → Wt (w4.setCell ⟨R, 1, none⟩ (.int .i64 v)) R G (p + n) ∧ Rw (w4.setCell ⟨R, 1, none⟩ (.int .i64 v)) G (splice cs p zs) ∧ Two w (w4.setCell ⟨R, 1, none⟩ (.int .i64 v)) R G ∧ (w4.setCell ⟨R, 1, none⟩ (.int .i64 v)).heap.size = w.heap.size) := by
  intro w4 wq e1 e2 e3 e4 hro v hv
  have h4 : Wt w4 R G p := (hro.oth R hRG).trans (by rw [e4]; exact hw)
  have hs : w4.heap.size = w.heap.size := by rw [hro.size, e4]
  have hg := grown_cell w4 R 1 (.int .i64 v)
  refine ⟨h4.set (p + n) v hv, ?_, ⟨hro.os.trans e1, hro.tape.trans e2, hro.output.trans e3, ?_, fun k hk h1 h2 => ?_⟩, ?_⟩
  ·have : Rw w4 G (splice cs p zs) := by
    unfold Rw
    rw [← splice_map, ← hX, ← hZ]
    exact hro.row
   exact this.kept hg (fun e => hRG (Option.some.inj e).symm)
  ·have := hg.size; omega
  ·rw [hg.block k (by omega) (fun e => h1 (Option.some.inj e)), hro.oth k h2, e4]
  ·simp [hs]
 clear hw hr hX hZ hb
 have g1 : (p : Int) ≤ 4092 := by omega
 have hwr : Hid (IntKind.i64.wrap ((p : Int) + (n : Int)) = ((p + n : Nat) : Int)) := by show _ = _; simp [IntKind.wrap, IntKind.bits, IntKind.signed]; omega
 by_cases hp2 : p < 4092
 ·have g2 : ¬ 4092 = p := by omega
  go_enter Tryz.func35, Tryz.ntmps35
  go_wp2_with fail
  go_region_law
   (refine step_copy_ro rfl (.tmp 16) (.tmp 17) (by rfl) _ _ _ _ _ _ (by rfl) (by rfl) G p Z (by exact HZ.out _ rfl) X (by rw [hXl]; exact (Nat.min_eq_left (by omega)).symm) (fun h => ⟨by rfl, by exact HS.out _ rfl h⟩) (by omega) hX1 n hXl ?_; intro w4 hro; have cc0 := (hro.cell R 0 hRG).trans (by exact (HC.out _ rfl).1); have cc1 := (hro.cell R 1 hRG).trans (by exact (HC.out _ rfl).2.1); have ff1 := (World.frozen?_of_block (hro.oth R hRG)).trans (by exact (HC.out _ rfl).2.2))
  all_goals
   refine Go.Great.bodyPost_end0 rfl rfl ?_
   exact ⟨rfl, HF.out w4 w.drew rfl rfl rfl rfl hro _ hwr.out⟩
 ·have hp3 : 4092 = p := by omega
  subst hp3
  obtain rfl : n = 0 := by omega
  go_enter Tryz.func35, Tryz.ntmps35
  go_wp2_with fail
  go_region_law
   (refine step_copy_ro rfl (.tmp 16) (.tmp 17) (by rfl) _ _ _ _ _ _ (by rfl) (by rfl) G 4092 Z (by exact HZ.out _ rfl) X (by rw [hXl]; rfl) (fun h => absurd h (by omega)) (by omega) hX1 0 hXl ?_; intro w4 hro; have cc0 := (hro.cell R 0 hRG).trans (by exact (HC.out _ rfl).1); have cc1 := (hro.cell R 1 hRG).trans (by exact (HC.out _ rfl).2.1); have ff1 := (World.frozen?_of_block (hro.oth R hRG)).trans (by exact (HC.out _ rfl).2.2))
  all_goals
   refine Go.Great.bodyPost_end0 rfl rfl ?_
   exact ⟨rfl, HF.out w4 w.drew rfl rfl rfl rfl hro _ (by first | rfl | exact hwr.out)⟩
theorem splice_len {cs zs : List Int} {p : Nat} (h : p + zs.length ≤ cs.length) : (splice cs p zs).length = cs.length := length_splice cs p zs h
theorem splice_two {cs xs ys : List Int} {p : Nat} (h : p + xs.length + ys.length ≤ cs.length) : splice (splice cs p xs) (p + xs.length) ys = splice cs p (xs ++ ys) := by
 unfold splice
 have e1 : (cs.take p ++ (xs ++ cs.drop (p + xs.length))).take (p + xs.length) = cs.take p ++ xs := by
  rw [← List.append_assoc, List.take_left' (by simp; omega)]
 have e2 : (cs.take p ++ (xs ++ cs.drop (p + xs.length))).drop (p + xs.length + ys.length) = cs.drop (p + xs.length + ys.length) := by
  rw [← List.append_assoc, ← List.drop_drop, List.drop_left' (by simp; omega), List.drop_drop]
 rw [e1, e2]
 simp [Nat.add_assoc]
theorem Wt.kept {w w' : World} {R G p : Nat} (h : Wt w R G p) (hg : w.grownBy w' none) : Wt w' R G p := (hg.block R h.lt (by simp)).trans h
theorem Wt.two {w w' : World} {R G p R' : Nat} (h : Wt w R' G p) (hg : Two w w' R G) (h1 : R' ≠ R) (h2 : R' ≠ G) : Wt w' R' G p := (hg.block R' h.lt h1 h2).trans h
theorem Byt.two {w w' : World} {R G : Nat} {ao : Option Addr} {n c : Nat} {zs : List Int} (h : Byt w ao n c zs) (hg : Two w w' R G) (hne : ∀ ad, ao = some ad → 0 < n → ad.block ≠ R ∧ ad.block ≠ G) : Byt w' ao n c zs := by
 refine ⟨h.len, h.nil, fun ad had j u hu => ?_⟩
 have hj : j < zs.length := by have := (List.getElem?_eq_some_iff.1 hu).1; simpa using this
 have hc := h.cells ad had j u hu
 have hb : (ad.add j).block = ad.block := by unfold Addr.add; split <;> rfl
 have hn := hne ad had (by have := h.len; omega)
 have hlt := World.block_lt_of_cell? w _ hc
 rw [World.cell?_of_block (hg.block _ hlt (by rw [hb]; exact hn.1) (by rw [hb]; exact hn.2))]
 exact hc
theorem Byt.lt {w : World} {ao : Option Addr} {n c : Nat} {zs : List Int} (h : Byt w ao n c zs) {ad : Addr} (e : ao = some ad) (hn : 0 < n) : ad.block < w.heap.size := by
 obtain ⟨b, off, e2, hb, _⟩ := h.at hn
 rw [e] at e2
 obtain rfl := Option.some.inj e2
 exact hb
theorem Byt.drop {w : World} {b off : Nat} {n c : Nat} {zs : List Int} (h : Byt w (some ⟨b, off, none⟩) n c zs) (k c' : Nat) (hk : k ≤ n) : Byt w (some ⟨b, off + k, none⟩) (n - k) c' (zs.drop k) := by
 have hl := h.len
 refine Byt.of_cells (by rw [List.length_drop]; omega) fun i hi => ?_
 obtain ⟨b', off', e, _, hc⟩ := h.at (by omega)
 simp only [Option.some.injEq, Addr.mk.injEq] at e
 obtain ⟨rfl, rfl, _⟩ := e
 rw [Nat.add_assoc, hc (k + i) (by omega)]
 simp [List.getD]
theorem Byt.zlen (w : World) (b off c : Nat) : Byt w (some ⟨b, off, none⟩) 0 c [] := Byt.of_cells rfl fun i hi => by omega
theorem put_u8_nil (x : Nat) (w : World) (hx : x < 256) :
  Calls Tryz.prog 36 #[.slice none 0 0, .int .u8 x] w fun e w' => e = .returned (.slice (some ⟨w.heap.size, 0, none⟩) 1 1) ∧ Byt w' (some ⟨w.heap.size, 0, none⟩) 1 1 (lb 1 x) ∧ w.grownBy w' none ∧ w.heap.size < w'.heap.size := by
 refine (put_u8 none 0 0 [] x w (Byt.empty w) (by omega) hx).mono ?_
 rintro e w' ⟨rfl, h1, h2, h3⟩
 exact ⟨rfl, Byt.of_owns h1, h2, h3⟩
theorem put_u16_nil (x : Nat) (w : World) (hx : x < 65536) :
  Calls Tryz.prog 37 #[.slice none 0 0, .int .u16 x] w fun e w' => e = .returned (.slice (some ⟨w.heap.size, 0, none⟩) 2 2) ∧ Byt w' (some ⟨w.heap.size, 0, none⟩) 2 2 (lb 2 x) ∧ w.grownBy w' none ∧ w.heap.size < w'.heap.size := by
 refine (put_u16 none 0 0 [] x w (Byt.empty w) (by omega) hx).mono ?_
 rintro e w' ⟨rfl, h1, h2, h3⟩
 exact ⟨rfl, Byt.of_owns h1, h2, h3⟩
theorem put_u32_nil (x : Nat) (w : World) (hx : x < 4294967296) :
  Calls Tryz.prog 107 #[.slice none 0 0, .int .u32 x] w fun e w' => e = .returned (.slice (some ⟨w.heap.size, 0, none⟩) 4 4) ∧ Byt w' (some ⟨w.heap.size, 0, none⟩) 4 4 (lb 4 x) ∧ w.grownBy w' none ∧ w.heap.size < w'.heap.size := by
 refine (put_u32 none 0 0 [] x w (Byt.empty w) (by omega) hx).mono ?_
 rintro e w' ⟨rfl, h1, h2, h3⟩
 exact ⟨rfl, Byt.of_owns h1, h2, h3⟩
theorem splice_four {cs A B C D : List Int} {q a b c : Nat} (ha : A.length = a) (hb : B.length = b) (hc : C.length = c) (h : q + a + b + c + D.length ≤ cs.length) :
  splice (splice (splice (splice cs q A) (q + a) B) (q + a + b) C) (q + a + b + c) D = splice cs q (A ++ (B ++ (C ++ D))) := by
 subst ha hb hc
 have e1 := splice_two (cs := cs) (xs := A) (ys := B) (p := q) (by omega)
 have e2 := splice_two (cs := cs) (xs := A ++ B) (ys := C) (p := q) (by simp only [List.length_append]; omega)
 have e3 := splice_two (cs := cs) (xs := A ++ B ++ C) (ys := D) (p := q) (by simp only [List.length_append]; omega)
 simp only [List.length_append, ← Nat.add_assoc] at e2 e3
 rw [e1, e2, e3]
 simp only [List.append_assoc]
set_option maxHeartbeats 2000000 in
set_option maxRecDepth 100000 in
theorem layCell_any (R G q : Nat) (cs : List Int) (b off n c : Nat) (bo : Option Addr) (m d : Nat) (s f : Int) (p : Nat) (x : It) (w : World) (hw : Wt w R G q) (hr : Rw w G cs) (hcs : cs.length = 4092) (hRG : R ≠ G)
  (hk : Byt w (some ⟨b, off, none⟩) n c x.key) (hv : Byt w bo m d x.val) (hs : x.size = s) (hf : x.first = f) (h1 : ws x = false) (h2 : wv x = false) (hp : p ≤ n) (hnc : n ≤ c) (hq : q + (cb p x).length ≤ 4092)
  (hkb : b ≠ R ∧ b ≠ G) (hvb : ∀ ad, bo = some ad → 0 < m → ad.block ≠ R ∧ ad.block ≠ G) :
  Calls Tryz.prog 39 #[.pointer (some ⟨R, 0, none⟩), .agg #[.slice (some ⟨b, off, none⟩) n c, .slice bo m d, .int .i64 s, .int .i64 f], .int .i64 p] w fun en w' => en = .returned (.tuple #[]) ∧ Wt w' R G (q + (cb p x).length) ∧ Rw w' G (splice cs q (cb p x)) ∧ Two w w' R G := by
 obtain ⟨a1, a2, a3, a4⟩ := ws_parts h1
 have hlk := hk.len
 have htg := tg_parts h1 h2
 have htt := tg_lt x.size
 obtain ⟨t, ht⟩ : ∃ t, tg x.size = t := ⟨_, rfl⟩
 obtain ⟨r, hr2⟩ : ∃ r, n - p = r := ⟨_, rfl⟩
 obtain ⟨k, hk2⟩ : ∃ k, x.size = ((k : Nat) : Int) := ⟨x.size.toNat, by omega⟩
 obtain rfl : s = (k : Int) := by rw [← hs, hk2]
 have hk5 : k ≤ 262144 := by omega
 have HT : Hid ((if 512 < k then 2 * k + 1 else 2 * k) = t) := by
  show _ = _
  rw [← ht]; unfold tg; rw [lg_of a3 a4, hk2]; rfl
 have hwl := hw.lt
 have hrl := hr.lt
 have g1 : (p : Int) ≤ (n : Int) := by omega
 have g2 : (0 : Int) ≤ (p : Int) := by omega
 have g3 : (p : Int) ≤ (c : Int) := by omega
 obtain ⟨y, hy⟩ : ∃ y, (if 512 < x.size then lb 4 x.first.toNat else x.val).length = y := ⟨_, rfl⟩
 have HCB : Hid (cb p x = vform r ++ (x.key.drop p ++ (vform t ++ (if 512 < x.size then lb 4 x.first.toNat else x.val)))) := by show _ = _; unfold cb; rw [hlk, hr2, ht]
 have hcl : (cb p x).length = (vform r).length + r + (vform t).length + y := by
  rw [HCB.out]; simp only [List.length_append, List.length_drop]; omega
 have hq' : q + (vform r).length + r + (vform t).length + y ≤ 4092 := by omega
 have HD : Hid ((x.key.drop p).length = r) := by show _ = _; rw [List.length_drop]; omega
 have hvl := wv_parts h2
 obtain ⟨l1, hl1⟩ : ∃ l1, (vform r).length = l1 := ⟨_, rfl⟩
 obtain ⟨l2, hl2⟩ : ∃ l2, (vform t).length = l2 := ⟨_, rfl⟩
 have P1 := hid_intro (fun W : World => putV_nil r W (by omega))
 have P2 := hid_intro (fun W : World => putV_nil t W (by omega))
 rw [hl1] at hq' hcl P1
 rw [hl2] at hq' hcl P2
 have HA := hid_intro hl1
 have HC := hid_intro hl2
 clear hl1 hl2
 generalize vform r = A at *
 generalize vform t = C at *
 generalize hB : x.key.drop p = B at *
 have HB := hid_intro hB
 have HCL := hid_intro hcl
 have G1 := hid_intro (World.grownBy_alloc w (.cells #[.slice (some ⟨b, off, none⟩) n c, .slice bo m d, .int .i64 (k : Int), .int .i64 f] 52) none)
 have HW := hid_intro (hw.kept G1.out)
 have HR := hid_intro (hr.keptN G1.out)
 have HV := hid_intro (hv.keptN G1.out)
 have HK0 := hid_intro (hk.keptN G1.out)
 have HYV := hid_intro hy
 have hlv := hv.len
 clear hw hr hk hv hcl hq hy
 have b1' : Hid ((w.alloc (.cells #[.slice (some ⟨b, off, none⟩) n c, .slice bo m d, .int .i64 (k : Int), .int .i64 f] 52)).cell? ⟨w.heap.size, 1, none⟩ = some (.slice bo m d)) := by show _ = _; rw [cell_of_row _ w.heap.size 1 _ _ (0, 0) (heap_alloc_new w _)]; rfl
 have b2' : Hid ((w.alloc (.cells #[.slice (some ⟨b, off, none⟩) n c, .slice bo m d, .int .i64 (k : Int), .int .i64 f] 52)).cell? ⟨w.heap.size, 2, none⟩ = some (.int .i64 (k : Int))) := by show _ = _; rw [cell_of_row _ w.heap.size 2 _ _ (0, 0) (heap_alloc_new w _)]; rfl
 have b3' : Hid ((w.alloc (.cells #[.slice (some ⟨b, off, none⟩) n c, .slice bo m d, .int .i64 (k : Int), .int .i64 f] 52)).cell? ⟨w.heap.size, 3, none⟩ = some (.int .i64 f)) := by show _ = _; rw [cell_of_row _ w.heap.size 3 _ _ (0, 0) (heap_alloc_new w _)]; rfl
 have WL := hid_intro hwl
 have RL := hid_intro hrl
 clear hwl hrl
 by_cases hcp : c = p
 ·subst hcp
  have HK : Hid (Byt (w.alloc (.cells #[.slice (some ⟨b, off, none⟩) n c, .slice bo m d, .int .i64 (k : Int), .int .i64 f] 52)) (some ⟨b, off, none⟩) r 0 B) := by
   obtain rfl : r = 0 := by omega
   have e : B = [] := List.length_eq_zero_iff.1 HD.out
   rw [e]
   exact Byt.zlen _ _ _ _
  go_enter Tryz.func39, Tryz.ntmps39
  go_wp2_with fail
  have Q1 := b1'.out
  have Q2 := b2'.out
  have Q3 := b3'.out
  clear b1' b2' b3'
  generalize w.alloc (.cells #[.slice (some ⟨b, off, none⟩) n c, .slice bo m d, .int .i64 (k : Int), .int .i64 f] 52) = w1 at *
  refine (P1.out _).mono ?_
  rintro en w2 ⟨rfl, hb2, hg2, hs2⟩
  have W2 := hid_intro (HW.out.kept hg2)
  have R2 := hid_intro (HR.out.keptN hg2)
  have B2 := hid_intro hb2
  have K2 := hid_intro (HK.out.keptN hg2)
  have V2 := hid_intro (HV.out.keptN hg2)
  have T2 := hid_intro (Two.of_grown (R := R) (G := G) (grown_trans G1.out hg2))
  have b1 := hg2.cell Q1 (by simp)
  have b2 := hg2.cell Q2 (by simp)
  have b3 := hg2.cell Q3 (by simp)
  have HNE : Hid (w.heap.size ≠ R ∧ w.heap.size ≠ G) := ⟨fun e => by have := WL.out; omega, fun e => by have := RL.out; omega⟩
  clear hb2 hg2 hs2 HW HR HK HV Q1 Q2 Q3
  go_wp2_with fail
  refine (lay_any R G q cs _ _ _ A _ W2.out R2.out hcs B2.out hRG (by omega)).mono ?_
  rintro en w3 ⟨rfl, hw3, hr3, ht3, hs3⟩
  have W3 := hid_intro hw3
  have R3 := hid_intro hr3
  have K3 := hid_intro (K2.out.two ht3 (fun ad e _ => by obtain rfl := Option.some.inj e; exact hkb))
  have V3 := hid_intro (V2.out.two ht3 hvb)
  have T3 := hid_intro (T2.out.trans ht3)
  have d1 : w3.cell? ⟨w.heap.size, 1, none⟩ = some (.slice bo m d) := (World.cell?_of_block (ht3.block w.heap.size (World.block_lt_of_cell? _ _ b1) HNE.out.1 HNE.out.2)).trans b1
  have d2 : w3.cell? ⟨w.heap.size, 2, none⟩ = some (.int .i64 (k : Int)) := (World.cell?_of_block (ht3.block w.heap.size (World.block_lt_of_cell? _ _ b1) HNE.out.1 HNE.out.2)).trans b2
  have d3 : w3.cell? ⟨w.heap.size, 3, none⟩ = some (.int .i64 f) := (World.cell?_of_block (ht3.block w.heap.size (World.block_lt_of_cell? _ _ b1) HNE.out.1 HNE.out.2)).trans b3
  clear hw3 hr3 ht3 hs3 W2 R2 B2 K2 V2 T2 b1 b2 b3
  have L1 : Hid ((splice cs q A).length = 4092) := by show _ = _; rw [splice_len (by rw [HA.out, hcs]; omega)]; exact hcs
  go_wp2_with fail
  refine (lay_any R G _ _ _ _ _ _ _ W3.out R3.out L1.out K3.out hRG (by omega)).mono ?_
  rintro en w4 ⟨rfl, hw4, hr4, ht4, hs4⟩
  have W4 := hid_intro hw4
  have R4 := hid_intro hr4
  have V4 := hid_intro (V3.out.two ht4 hvb)
  have T4 := hid_intro (T3.out.trans ht4)
  have e1 : w4.cell? ⟨w.heap.size, 1, none⟩ = some (.slice bo m d) := (World.cell?_of_block (ht4.block w.heap.size (World.block_lt_of_cell? _ _ d1) HNE.out.1 HNE.out.2)).trans d1
  have e2 : w4.cell? ⟨w.heap.size, 2, none⟩ = some (.int .i64 (k : Int)) := (World.cell?_of_block (ht4.block w.heap.size (World.block_lt_of_cell? _ _ d1) HNE.out.1 HNE.out.2)).trans d2
  have e3 : w4.cell? ⟨w.heap.size, 3, none⟩ = some (.int .i64 f) := (World.cell?_of_block (ht4.block w.heap.size (World.block_lt_of_cell? _ _ d1) HNE.out.1 HNE.out.2)).trans d3
  clear hw4 hr4 ht4 hs4 W3 R3 K3 V3 T3 d1 d2 d3
  have L2 : Hid ((splice (splice cs q A) (q + l1) B).length = 4092) := by show _ = _; rw [splice_len (by rw [L1.out, HD.out]; omega)]; exact L1.out
  go_wp2_with fail
  refine (tagOf_any k _ hk5).mono ?_
  rintro en w5 ⟨rfl, rfl⟩
  rw [HT.out]
  go_wp2_with fail
  refine (P2.out _).mono ?_
  rintro en w5 ⟨rfl, hb5, hg5, hs5⟩
  have W5 := hid_intro (W4.out.kept hg5)
  have R5 := hid_intro (R4.out.keptN hg5)
  have B5 := hid_intro hb5
  have V5 := hid_intro (V4.out.keptN hg5)
  have T5 := hid_intro (T4.out.trans (Two.of_grown hg5))
  have b1 := hg5.cell e1 (by simp)
  have b2 := hg5.cell e2 (by simp)
  have b3 := hg5.cell e3 (by simp)
  clear hb5 hg5 hs5 W4 R4 V4 T4 e1 e2 e3
  go_wp2_with fail
  refine (lay_any R G _ _ _ _ _ _ _ W5.out R5.out L2.out B5.out hRG (by omega)).mono ?_
  rintro en w6 ⟨rfl, hw6, hr6, ht6, hs6⟩
  have W6 := hid_intro hw6
  have R6 := hid_intro hr6
  have V6 := hid_intro (V5.out.two ht6 hvb)
  have T6 := hid_intro (T5.out.trans ht6)
  have e1 : w6.cell? ⟨w.heap.size, 1, none⟩ = some (.slice bo m d) := (World.cell?_of_block (ht6.block w.heap.size (World.block_lt_of_cell? _ _ b1) HNE.out.1 HNE.out.2)).trans b1
  have e2 : w6.cell? ⟨w.heap.size, 2, none⟩ = some (.int .i64 (k : Int)) := (World.cell?_of_block (ht6.block w.heap.size (World.block_lt_of_cell? _ _ b1) HNE.out.1 HNE.out.2)).trans b2
  have e3 : w6.cell? ⟨w.heap.size, 3, none⟩ = some (.int .i64 f) := (World.cell?_of_block (ht6.block w.heap.size (World.block_lt_of_cell? _ _ b1) HNE.out.1 HNE.out.2)).trans b3
  clear hw6 hr6 ht6 hs6 W5 R5 B5 V5 T5 b1 b2 b3
  have L3 : Hid ((splice (splice (splice cs q A) (q + l1) B) (q + l1 + r) C).length = 4092) := by show _ = _; rw [splice_len (by rw [L2.out, HC.out]; omega)]; exact L2.out
  go_wp2_with fail
  refine (chained_any _ _).mono ?_
  rintro en w7 ⟨rfl, rfl⟩
  by_cases h5 : 512 < k
  ·have hd : decide ((512 : Int) < (k : Int)) = true := decide_eq_true (by omega)
   rw [hd]
   have hy4 : y = 4 := by have := HYV.out; rw [if_pos (by omega), lb_len] at this; omega
   obtain ⟨fn, hfn⟩ : ∃ fn : Nat, f = (fn : Int) := ⟨f.toNat, by omega⟩
   subst hfn
   have HF2 : Hid (x.first.toNat = fn) := by show _ = _; rw [hf]; rfl
   go_wp2_with fail
   refine (put_u32_nil fn _ (by omega)).mono ?_
   rintro en w8 ⟨rfl, hb8, hg8, hs8⟩
   have W8 := hid_intro (W6.out.kept hg8)
   have R8 := hid_intro (R6.out.keptN hg8)
   have B8 := hid_intro hb8
   have T8 := hid_intro (T6.out.trans (Two.of_grown hg8))
   clear hb8 hg8 hs8 W6 R6 V6 T6
   go_wp2_with fail
   refine (lay_any R G _ _ _ _ _ _ _ W8.out R8.out L3.out B8.out hRG (by omega)).mono ?_
   rintro en w9 ⟨rfl, hw9, hr9, ht9, hs9⟩
   have W9 := hid_intro hw9
   have R9 := hid_intro hr9
   have T9 := hid_intro (T8.out.trans ht9)
   clear hw9 hr9 ht9 hs9 W8 R8 B8 T8
   go_wp2
   refine bodyPost_ret (results_none rfl _ _ _) rfl ?_
   refine ⟨rfl, ?_, ?_, T9.out⟩
   ·rw [HCL.out, hy4]; exact (by have := W9.out; simpa [Nat.add_assoc] using this)
   ·rw [HCB.out, if_pos (by omega), HF2.out, ← splice_four HA.out HD.out HC.out (by rw [lb_len, hcs]; omega)]
    exact R9.out
  ·have hd : decide ((512 : Int) < (k : Int)) = false := decide_eq_false (by omega)
   rw [hd]
   obtain rfl : y = m := by have := HYV.out; rw [if_neg (by omega)] at this; omega
   go_wp2_with fail
   refine (lay_any R G _ _ _ _ _ _ _ W6.out R6.out L3.out V6.out hRG (by omega)).mono ?_
   rintro en w9 ⟨rfl, hw9, hr9, ht9, hs9⟩
   have W9 := hid_intro hw9
   have R9 := hid_intro hr9
   have T9 := hid_intro (T6.out.trans ht9)
   clear hw9 hr9 ht9 hs9 W6 R6 V6 T6
   go_wp2
   refine Go.Great.bodyPost_end0 rfl rfl ?_
   refine ⟨rfl, ?_, ?_, T9.out⟩
   ·rw [HCL.out]; exact (by have := W9.out; simpa [Nat.add_assoc] using this)
   ·rw [HCB.out, if_neg (by omega), ← splice_four HA.out HD.out HC.out (by rw [hcs]; omega)]
    exact R9.out
 ·have HK : Hid (Byt (w.alloc (.cells #[.slice (some ⟨b, off, none⟩) n c, .slice bo m d, .int .i64 (k : Int), .int .i64 f] 52)) (some ⟨b, off + p, none⟩) r (c - p) B) := by
   have := HK0.out.drop p (c - p) hp
   rwa [hr2, HB.out] at this
  go_enter Tryz.func39, Tryz.ntmps39
  go_wp2_with fail
  have Q1 := b1'.out
  have Q2 := b2'.out
  have Q3 := b3'.out
  clear b1' b2' b3'
  generalize w.alloc (.cells #[.slice (some ⟨b, off, none⟩) n c, .slice bo m d, .int .i64 (k : Int), .int .i64 f] 52) = w1 at *
  refine (P1.out _).mono ?_
  rintro en w2 ⟨rfl, hb2, hg2, hs2⟩
  have W2 := hid_intro (HW.out.kept hg2)
  have R2 := hid_intro (HR.out.keptN hg2)
  have B2 := hid_intro hb2
  have K2 := hid_intro (HK.out.keptN hg2)
  have V2 := hid_intro (HV.out.keptN hg2)
  have T2 := hid_intro (Two.of_grown (R := R) (G := G) (grown_trans G1.out hg2))
  have b1 := hg2.cell Q1 (by simp)
  have b2 := hg2.cell Q2 (by simp)
  have b3 := hg2.cell Q3 (by simp)
  have HNE : Hid (w.heap.size ≠ R ∧ w.heap.size ≠ G) := ⟨fun e => by have := WL.out; omega, fun e => by have := RL.out; omega⟩
  clear hb2 hg2 hs2 HW HR HK HV Q1 Q2 Q3
  go_wp2_with fail
  refine (lay_any R G q cs _ _ _ A _ W2.out R2.out hcs B2.out hRG (by omega)).mono ?_
  rintro en w3 ⟨rfl, hw3, hr3, ht3, hs3⟩
  have W3 := hid_intro hw3
  have R3 := hid_intro hr3
  have K3 := hid_intro (K2.out.two ht3 (fun ad e _ => by obtain rfl := Option.some.inj e; exact hkb))
  have V3 := hid_intro (V2.out.two ht3 hvb)
  have T3 := hid_intro (T2.out.trans ht3)
  have d1 : w3.cell? ⟨w.heap.size, 1, none⟩ = some (.slice bo m d) := (World.cell?_of_block (ht3.block w.heap.size (World.block_lt_of_cell? _ _ b1) HNE.out.1 HNE.out.2)).trans b1
  have d2 : w3.cell? ⟨w.heap.size, 2, none⟩ = some (.int .i64 (k : Int)) := (World.cell?_of_block (ht3.block w.heap.size (World.block_lt_of_cell? _ _ b1) HNE.out.1 HNE.out.2)).trans b2
  have d3 : w3.cell? ⟨w.heap.size, 3, none⟩ = some (.int .i64 f) := (World.cell?_of_block (ht3.block w.heap.size (World.block_lt_of_cell? _ _ b1) HNE.out.1 HNE.out.2)).trans b3
  clear hw3 hr3 ht3 hs3 W2 R2 B2 K2 V2 T2 b1 b2 b3
  have L1 : Hid ((splice cs q A).length = 4092) := by show _ = _; rw [splice_len (by rw [HA.out, hcs]; omega)]; exact hcs
  go_wp2_with fail
  refine (lay_any R G _ _ _ _ _ _ _ W3.out R3.out L1.out K3.out hRG (by omega)).mono ?_
  rintro en w4 ⟨rfl, hw4, hr4, ht4, hs4⟩
  have W4 := hid_intro hw4
  have R4 := hid_intro hr4
  have V4 := hid_intro (V3.out.two ht4 hvb)
  have T4 := hid_intro (T3.out.trans ht4)
  have e1 : w4.cell? ⟨w.heap.size, 1, none⟩ = some (.slice bo m d) := (World.cell?_of_block (ht4.block w.heap.size (World.block_lt_of_cell? _ _ d1) HNE.out.1 HNE.out.2)).trans d1
  have e2 : w4.cell? ⟨w.heap.size, 2, none⟩ = some (.int .i64 (k : Int)) := (World.cell?_of_block (ht4.block w.heap.size (World.block_lt_of_cell? _ _ d1) HNE.out.1 HNE.out.2)).trans d2
  have e3 : w4.cell? ⟨w.heap.size, 3, none⟩ = some (.int .i64 f) := (World.cell?_of_block (ht4.block w.heap.size (World.block_lt_of_cell? _ _ d1) HNE.out.1 HNE.out.2)).trans d3
  clear hw4 hr4 ht4 hs4 W3 R3 K3 V3 T3 d1 d2 d3
  have L2 : Hid ((splice (splice cs q A) (q + l1) B).length = 4092) := by show _ = _; rw [splice_len (by rw [L1.out, HD.out]; omega)]; exact L1.out
  go_wp2_with fail
  refine (tagOf_any k _ hk5).mono ?_
  rintro en w5 ⟨rfl, rfl⟩
  rw [HT.out]
  go_wp2_with fail
  refine (P2.out _).mono ?_
  rintro en w5 ⟨rfl, hb5, hg5, hs5⟩
  have W5 := hid_intro (W4.out.kept hg5)
  have R5 := hid_intro (R4.out.keptN hg5)
  have B5 := hid_intro hb5
  have V5 := hid_intro (V4.out.keptN hg5)
  have T5 := hid_intro (T4.out.trans (Two.of_grown hg5))
  have b1 := hg5.cell e1 (by simp)
  have b2 := hg5.cell e2 (by simp)
  have b3 := hg5.cell e3 (by simp)
  clear hb5 hg5 hs5 W4 R4 V4 T4 e1 e2 e3
  go_wp2_with fail
  refine (lay_any R G _ _ _ _ _ _ _ W5.out R5.out L2.out B5.out hRG (by omega)).mono ?_
  rintro en w6 ⟨rfl, hw6, hr6, ht6, hs6⟩
  have W6 := hid_intro hw6
  have R6 := hid_intro hr6
  have V6 := hid_intro (V5.out.two ht6 hvb)
  have T6 := hid_intro (T5.out.trans ht6)
  have e1 : w6.cell? ⟨w.heap.size, 1, none⟩ = some (.slice bo m d) := (World.cell?_of_block (ht6.block w.heap.size (World.block_lt_of_cell? _ _ b1) HNE.out.1 HNE.out.2)).trans b1
  have e2 : w6.cell? ⟨w.heap.size, 2, none⟩ = some (.int .i64 (k : Int)) := (World.cell?_of_block (ht6.block w.heap.size (World.block_lt_of_cell? _ _ b1) HNE.out.1 HNE.out.2)).trans b2
  have e3 : w6.cell? ⟨w.heap.size, 3, none⟩ = some (.int .i64 f) := (World.cell?_of_block (ht6.block w.heap.size (World.block_lt_of_cell? _ _ b1) HNE.out.1 HNE.out.2)).trans b3
  clear hw6 hr6 ht6 hs6 W5 R5 B5 V5 T5 b1 b2 b3
  have L3 : Hid ((splice (splice (splice cs q A) (q + l1) B) (q + l1 + r) C).length = 4092) := by show _ = _; rw [splice_len (by rw [L2.out, HC.out]; omega)]; exact L2.out
  go_wp2_with fail
  refine (chained_any _ _).mono ?_
  rintro en w7 ⟨rfl, rfl⟩
  by_cases h5 : 512 < k
  ·have hd : decide ((512 : Int) < (k : Int)) = true := decide_eq_true (by omega)
   rw [hd]
   have hy4 : y = 4 := by have := HYV.out; rw [if_pos (by omega), lb_len] at this; omega
   obtain ⟨fn, hfn⟩ : ∃ fn : Nat, f = (fn : Int) := ⟨f.toNat, by omega⟩
   subst hfn
   have HF2 : Hid (x.first.toNat = fn) := by show _ = _; rw [hf]; rfl
   go_wp2_with fail
   refine (put_u32_nil fn _ (by omega)).mono ?_
   rintro en w8 ⟨rfl, hb8, hg8, hs8⟩
   have W8 := hid_intro (W6.out.kept hg8)
   have R8 := hid_intro (R6.out.keptN hg8)
   have B8 := hid_intro hb8
   have T8 := hid_intro (T6.out.trans (Two.of_grown hg8))
   clear hb8 hg8 hs8 W6 R6 V6 T6
   go_wp2_with fail
   refine (lay_any R G _ _ _ _ _ _ _ W8.out R8.out L3.out B8.out hRG (by omega)).mono ?_
   rintro en w9 ⟨rfl, hw9, hr9, ht9, hs9⟩
   have W9 := hid_intro hw9
   have R9 := hid_intro hr9
   have T9 := hid_intro (T8.out.trans ht9)
   clear hw9 hr9 ht9 hs9 W8 R8 B8 T8
   go_wp2
   refine bodyPost_ret (results_none rfl _ _ _) rfl ?_
   refine ⟨rfl, ?_, ?_, T9.out⟩
   ·rw [HCL.out, hy4]; exact (by have := W9.out; simpa [Nat.add_assoc] using this)
   ·rw [HCB.out, if_pos (by omega), HF2.out, ← splice_four HA.out HD.out HC.out (by rw [lb_len, hcs]; omega)]
    exact R9.out
  ·have hd : decide ((512 : Int) < (k : Int)) = false := decide_eq_false (by omega)
   rw [hd]
   obtain rfl : y = m := by have := HYV.out; rw [if_neg (by omega)] at this; omega
   go_wp2_with fail
   refine (lay_any R G _ _ _ _ _ _ _ W6.out R6.out L3.out V6.out hRG (by omega)).mono ?_
   rintro en w9 ⟨rfl, hw9, hr9, ht9, hs9⟩
   have W9 := hid_intro hw9
   have R9 := hid_intro hr9
   have T9 := hid_intro (T6.out.trans ht9)
   clear hw9 hr9 ht9 hs9 W6 R6 V6 T6
   go_wp2
   refine Go.Great.bodyPost_end0 rfl rfl ?_
   refine ⟨rfl, ?_, ?_, T9.out⟩
   ·rw [HCL.out]; exact (by have := W9.out; simpa [Nat.add_assoc] using this)
   ·rw [HCB.out, if_neg (by omega), ← splice_four HA.out HD.out HC.out (by rw [hcs]; omega)]
    exact R9.out
theorem Rw.two {w w' : World} {R G g : Nat} {zs : List Int} (h : Rw w g zs) (hg : Two w w' R G) (h1 : g ≠ R) (h2 : g ≠ G) : Rw w' g zs := (hg.block g h.lt h1 h2).trans h
structure Ls (w : World) (H S C G p0 c0 cl i : Nat) (B : List Int) : Prop where
 h : Wt w H G p0
 s : Wt w S G (p0 + 2 * i)
 c : Wt w C G (c0 + cl)
 b : Rw w G B
set_option maxHeartbeats 4000000 in
set_option maxRecDepth 100000 in
theorem layOut_any (a : Option Addr) (n cap : Nat) (L : List It) (w : World) (hl : Il w a L) (hn : L.length = n) (hw : wrong L = 0) (hs : size L ≤ 4092) :
  Calls Tryz.prog 19 #[.slice a n cap] w fun en w' => ∃ G, en = .returned (.slice (some ⟨G, 0, none⟩) 4092 4092) ∧ Rw w' G (body L) ∧ w.grownBy w' none ∧ w.heap.size ≤ G := by
 obtain ⟨i0, hi, hz0, hz1, hz2⟩ := info_parts info_u8
 obtain ⟨hm1, hm2⟩ := many_le hw hs
 obtain ⟨hL0, hws, hwv, hup⟩ := wrong_parts hw
 have HCS := hid_intro (cst_le hw hs)
 have hLne : L ≠ [] := fun e => hL0 (by rw [e]; rfl)
 have hhl := head_len hLne
 have hc0 := cst_le hw hs 0
 have HL := hid_intro hl
 have hm : n ≤ 2046 := by omega
 have hn0 : 0 < n := by omega
 obtain ⟨b, off, ao, n0, c0, bo, m0, d0, rfl, q2, q3, q4, q5, q6, q7, q8, q9, q10, q11⟩ := hl.row 0 (by omega)
 have hpl : pre L ≤ n0 := by
  have := (pre_each _ (getD_mem (L := L) (i := 0) (by omega))).1
  have e := q6.len
  omega
 have HB0 : Hid (headB L = lb 1 1 ++ (lb 2 n ++ (vform (pre L) ++ (L.getD 0 it0).key.take (pre L)))) := by
  show _ = _
  unfold headB
  rw [hn]
  cases L with
  | nil => exact absurd rfl hLne
  | cons x L => rfl
 rw [Nat.zero_mul, Nat.add_zero] at q2
 have HQ2 := hid_intro q2
 have HQ6 := hid_intro q6
 have HWS := hid_intro hws
 have HWV := hid_intro hwv
 clear hl q2 q3 q4 q5 q6 q9 hws hwv hup hL0 hLne
 go_enter Tryz.func19, Tryz.ntmps19
 go_wp2_with fail
 refine (common4_any _ n cap L _ HL.out hn (by omega)).mono ?_
 rintro en w1 ⟨rfl, hg1⟩
 have G1 := hid_intro hg1
 clear hg1
 have P1 := hid_intro (fun W : World => putV_nil (pre L) W (by omega))
 have hvl : vl (pre L) = (vform (pre L)).length := rfl
 have HBD : Hid (∀ i, i < L.length → (headB L).length = 3 + vl (pre L) + pre L) := fun _ _ => hhl
 obtain ⟨l1, hl1⟩ : ∃ l1, (vform (pre L)).length = l1 := ⟨_, rfl⟩
 rw [hl1] at P1 hvl
 rw [hvl] at hhl
 have hcst : cst L = (headB L).length + 2 * n := by unfold cst; rw [hn]
 have HCST := hid_intro hcst
 have HHL := hid_intro hhl
 have HL1 := hid_intro hl1
 have hb1 : 3 + l1 + pre L + 2 * n ≤ 4092 := by rw [hcst, hhl] at hc0; omega
 clear hc0 hvl HBD hl1 hcst hhl
 generalize hpp : pre L = p at *
 have HPP := hid_intro hpp
 clear hpp
 go_wp2_with (at_make; refine wpList_make_full _ rfl _ _ 42 rfl w1.heap.size 5 i0 (.int .u8 0) 1 Tryz.underlying42 hi hz0 hz1 _ _ _ _ 4092 rfl rfl rfl rfl ?b2 ?b3 (Nat.le_refl _) ?_)
 case b2 => rw [hz2]; omega
 case b3 => unfold maxLen; omega
 intro w2 hown2 hg2
 rw [made] at hown2
 have R2 := hid_intro (Rw.of_owns hown2)
 have hG0 : w.heap.size ≤ w1.heap.size := G1.out.size
 have HG0 := hid_intro hG0
 have G2 := hid_intro (grown_trans G1.out hg2)
 clear hown2 hg2 hG0 G1
 generalize w1.heap.size = G at *
 have G3 := hid_intro (grown_trans G2.out (World.grownBy_alloc w2 (.cells #[.slice (some ⟨G, 0, none⟩) 4092 4092, .int .i64 0] 72) none))
 have R3 := hid_intro (R2.out.keptN (World.grownBy_alloc w2 (.cells #[.slice (some ⟨G, 0, none⟩) 4092 4092, .int .i64 0] 72) none))
 have W3 : Hid (Wt (w2.alloc (.cells #[.slice (some ⟨G, 0, none⟩) 4092 4092, .int .i64 0] 72)) w2.heap.size G 0) := by
  show _ = _
  exact heap_alloc_new w2 _
 have HGH : Hid (w2.heap.size ≠ G) := fun e => by have := R2.out.lt; omega
 have HH0 : Hid (w.heap.size ≤ w2.heap.size) := by have := R2.out.lt; have := HG0.out; show _ ≤ _; omega
 go_wp2_with fail
 generalize w2.alloc (.cells #[.slice (some ⟨G, 0, none⟩) 4092 4092, .int .i64 0] 72) = w3 at *
 clear R2 G2
 generalize w2.heap.size = H at *
 refine (put_u8_nil 1 _ (by omega)).mono ?_
 rintro en w4 ⟨rfl, hb4, hg4, hs4⟩
 have B4 := hid_intro hb4
 have W4 := hid_intro (W3.out.kept hg4)
 have R4 := hid_intro (R3.out.keptN hg4)
 have G4 := hid_intro (grown_trans G3.out hg4)
 clear hb4 hg4 hs4 W3 R3 G3
 go_wp2_with fail
 refine (lay_any H G 0 _ _ _ _ (lb 1 1) _ W4.out R4.out (by rw [List.length_replicate]) B4.out HGH.out (by omega)).mono ?_
 rintro en w5 ⟨rfl, hw5, hr5, ht5, hs5⟩
 have W5 := hid_intro hw5
 have R5 := hid_intro hr5
 have G5 := hid_intro (ht5.grown G4.out HH0.out HG0.out)
 clear hw5 hr5 ht5 hs5 W4 R4 G4 B4
 have L1 : Hid ((splice (List.replicate 4092 0) 0 (lb 1 1)).length = 4092) := by show _ = _; rw [splice_len (by rw [lb_len, List.length_replicate]; omega), List.length_replicate]
 go_wp2_with fail
 refine (put_u16_nil n _ (by omega)).mono ?_
 rintro en w6 ⟨rfl, hb6, hg6, hs6⟩
 have B6 := hid_intro hb6
 have W6 := hid_intro (W5.out.kept hg6)
 have R6 := hid_intro (R5.out.keptN hg6)
 have G6 := hid_intro (grown_trans G5.out hg6)
 clear hb6 hg6 hs6 W5 R5 G5
 go_wp2_with fail
 refine (lay_any H G _ _ _ _ _ (lb 2 n) _ W6.out R6.out L1.out B6.out HGH.out (by omega)).mono ?_
 rintro en w7 ⟨rfl, hw7, hr7, ht7, hs7⟩
 have W7 := hid_intro hw7
 have R7 := hid_intro hr7
 have G7 := hid_intro (ht7.grown G6.out HH0.out HG0.out)
 clear hw7 hr7 ht7 hs7 W6 R6 G6 B6
 have L2 : Hid ((splice (splice (List.replicate 4092 0) 0 (lb 1 1)) (0 + 1) (lb 2 n)).length = 4092) := by show _ = _; rw [splice_len (by rw [L1.out, lb_len]; omega)]; exact L1.out
 go_wp2_with fail
 refine (P1.out _).mono ?_
 rintro en w8 ⟨rfl, hb8, hg8, hs8⟩
 have B8 := hid_intro hb8
 have W8 := hid_intro (W7.out.kept hg8)
 have R8 := hid_intro (R7.out.keptN hg8)
 have G8 := hid_intro (grown_trans G7.out hg8)
 clear hb8 hg8 hs8 W7 R7 G7
 go_wp2_with fail
 refine (lay_any H G _ _ _ _ _ (vform p) _ W8.out R8.out L2.out B8.out HGH.out (by omega)).mono ?_
 rintro en w9 ⟨rfl, hw9, hr9, ht9, hs9⟩
 have W9 := hid_intro hw9
 have R9 := hid_intro hr9
 have G9 := hid_intro (ht9.grown G8.out HH0.out HG0.out)
 clear hw9 hr9 ht9 hs9 W8 R8 G8 B8
 have L3 : Hid ((splice (splice (splice (List.replicate 4092 0) 0 (lb 1 1)) (0 + 1) (lb 2 n)) (0 + 1 + 2) (vform p)).length = 4092) := by show _ = _; rw [splice_len (by rw [L2.out, HL1.out]; omega)]; exact L2.out
 have e0 : w9.cell? ⟨b, off, none⟩ = some (.slice ao n0 c0) := G9.out.cell HQ2.out (by simp)
 have B9 := hid_intro ((HQ6.out.keptN G9.out).take p c0 hpl (fun e => by have := ((HQ6.out).nil e).2; omega))
 have g1 : (0 : Int) ≤ (p : Int) := by omega
 have g2 : (p : Int) ≤ (c0 : Int) := by omega
 have g3 : (0 : Int) < (n : Int) := by omega
 go_wp2_with fail
 refine (lay_any H G _ _ _ _ _ _ _ W9.out R9.out L3.out B9.out HGH.out (by omega)).mono ?_
 rintro en w10 ⟨rfl, hw10, hr10, ht10, hs10⟩
 have hh0 : 0 + 1 + 2 + l1 + p = (headB L).length := by have := HHL.out; omega
 have W10 : Hid (Wt w10 H G (headB L).length) := by rw [← hh0]; exact hw10
 have R10 : Hid (Rw w10 G (laid L 0)) := by
  have e := splice_four (cs := List.replicate 4092 0) (A := lb 1 1) (B := lb 2 n) (C := vform p) (D := (L.getD 0 it0).key.take p) (q := 0) (a := 1) (b := 2) (c := l1) (lb_len _ _) (lb_len _ _) HL1.out (by rw [List.length_replicate, List.length_take]; omega)
  have e2 := laid_zero L (by have := HCS.out 0; omega)
  rw [HB0.out, ← e] at e2
  show Rw _ _ _
  rw [← e2]
  exact hr10
 have G10 := hid_intro (ht10.grown G9.out HH0.out HG0.out)
 have HHt := hid_intro W10.out.lt
 have HGt := hid_intro R10.out.lt
 have hb2 : (headB L).length + 2 * n ≤ 4092 := by rw [HHL.out]; omega
 have HHC := hid_intro HHL.out
 clear hw10 hr10 ht10 hs10 W9 R9 G9 B9 hh0 L1 L2 L3 HB0 P1 HQ2 HQ6
 obtain ⟨k0, k1, _⟩ := W10.out.cells
 generalize hhe : (headB L).length = h0 at *
 have HHE := hid_intro hhe
 clear hhe
 have HS : Hid (∀ v : Int, v = ((h0 + 2 * n : Nat) : Int) → Ls ((w10.alloc (.cells #[.slice (some ⟨G, 0, none⟩) 4092 4092, .int .i64 (h0 : Int)] 72)).alloc (.cells #[.slice (some ⟨G, 0, none⟩) 4092 4092, .int .i64 v] 72)) H w10.heap.size (w10.heap.size + 1) G h0 (h0 + 2 * n) 0 0 (laid L 0) ∧ w.grownBy ((w10.alloc (.cells #[.slice (some ⟨G, 0, none⟩) 4092 4092, .int .i64 (h0 : Int)] 72)).alloc (.cells #[.slice (some ⟨G, 0, none⟩) 4092 4092, .int .i64 v] 72)) none) := by
  intro v hv
  subst hv
  have ga := World.grownBy_alloc w10 (.cells #[.slice (some ⟨G, 0, none⟩) 4092 4092, .int .i64 (h0 : Int)] 72) none
  have wa : Wt (w10.alloc (.cells #[.slice (some ⟨G, 0, none⟩) 4092 4092, .int .i64 (h0 : Int)] 72)) w10.heap.size G h0 := heap_alloc_new w10 _
  have hsa : (w10.alloc (.cells #[.slice (some ⟨G, 0, none⟩) 4092 4092, .int .i64 (h0 : Int)] 72)).heap.size = w10.heap.size + 1 := by simp
  have Wa := W10.out.kept ga
  have Ra := R10.out.keptN ga
  have Ga := grown_trans G10.out ga
  generalize w10.alloc (.cells #[.slice (some ⟨G, 0, none⟩) 4092 4092, .int .i64 (h0 : Int)] 72) = wa1 at *
  have gb := World.grownBy_alloc wa1 (.cells #[.slice (some ⟨G, 0, none⟩) 4092 4092, .int .i64 ((h0 + 2 * n : Nat) : Int)] 72) none
  have wb : Wt (wa1.alloc (.cells #[.slice (some ⟨G, 0, none⟩) 4092 4092, .int .i64 ((h0 + 2 * n : Nat) : Int)] 72)) (w10.heap.size + 1) G (h0 + 2 * n) := by rw [← hsa]; exact heap_alloc_new wa1 _
  exact ⟨⟨Wa.kept gb, wa.kept gb, wb, Ra.keptN gb⟩, grown_trans Ga gb⟩
 have g5 : (0 : Int) ≤ (h0 : Int) := by omega
 go_wp2
 have HSl := hid_intro (G10.out.size)
 clear k0 k1
 go_loopw [8, 42] (fun _ si wr => ∃ i : Nat, i ≤ n ∧ si = .int .i64 i ∧ Ls wr H w10.heap.size (w10.heap.size + 1) G h0 (h0 + 2 * n) (cells p (L.take i)).length i (laid L i) ∧ w.grownBy wr none) (fun _ si _ => n - (intOf si).toNat)
 case atStart =>
  obtain ⟨x1, x2⟩ := HS.out _ (by go_num)
  exact ⟨0, Nat.zero_le _, rfl, x1, x2⟩
 case round =>
  obtain ⟨i, hi', rfl, hls, hg⟩ := hrel
  have HLS := hid_intro hls
  have HG := hid_intro hg
  have HHt1 := HHt.out
  have HGt1 := HGt.out
  have HSl1 := HSl.out
  clear hls hg HS W10 R10 G10 HHt HGt HSl
  by_cases hlt : i < n
  ·obtain ⟨b', off', ao', m, c', bo', m2, d2, e1, r2, r3, r4, r5, r6, r7, r8, r9, r10, r11⟩ := HL.out.row i (by omega)
   simp only [Option.some.injEq, Addr.mk.injEq] at e1
   obtain ⟨rfl, rfl, _⟩ := e1
   have hx := getD_mem (L := L) (i := i) (by omega)
   have x1 := HWS.out _ hx
   have x2 := HWV.out _ hx
   have x3 := (ws_parts x1).1
   have x4 := r6.len
   obtain ⟨kb, ko, rfl, hkb, _⟩ := r6.at (by omega)
   have hbv : ∀ ad, bo' = some ad → 0 < m2 → ad.block < w.heap.size := fun ad e h => r9.lt e h
   have hpx : p ≤ m := by
    have := (pre_each _ hx).1
    rw [HPP.out] at this
    omega
   have u0 := HG.out.cell r2 (by simp)
   have u1 := HG.out.cell r3 (by simp)
   have u2 := HG.out.cell r4 (by simp)
   have u3 := HG.out.cell r5 (by simp)
   have hA0 := HCS.out (i + 1)
   have hcsn := cells_snoc p L i (by omega)
   have hst := laid_step L i (by omega) (by rw [HPP.out]; rw [hcsn, List.length_append] at hA0; omega)
   rw [HHE.out, HCST.out, HPP.out] at hst
   rw [hcsn, List.length_append, HCST.out, ← Nat.add_assoc] at hA0
   have HCN : Hid ((cells p (L.take (i + 1))).length = (cells p (L.take i)).length + (cb p (L.getD i it0)).length) := by show _ = _; rw [hcsn, List.length_append]
   have hll := laid_len L i (by omega) (HCS.out i |> fun h => by rw [HPP.out]; exact h)
   have HKy := hid_intro r6
   have HVl := hid_intro r9
   have HLC := HLS.out.c
   have HLCh := hid_intro HLC
   obtain ⟨A, hA⟩ : ∃ A, h0 + 2 * n + (cells p (L.take i)).length = A := ⟨_, rfl⟩
   rw [hA] at HLC hst hA0
   have HAA := hid_intro hA
   have HST := hid_intro hst
   have HLL := hid_intro hll
   have HLCc := hid_intro HLC
   have hA9 : A ≤ 4092 := by omega
   clear r2 r3 r4 r5 r6 r9 hcsn hst hll HLC hA HLCh hx
   generalize hxx : L.getD i it0 = x at *
   generalize hBi : laid L i = Bi at *
   have HBi := hid_intro hBi
   clear hBi
   have HSz : Hid (x.size = x.size) := rfl
   obtain ⟨sz, hsz⟩ : ∃ sz, x.size = sz := ⟨_, rfl⟩
   obtain ⟨fs, hfs⟩ : ∃ fs, x.first = fs := ⟨_, rfl⟩
   rw [hsz] at u2
   rw [hfs] at u3
   have HSZ := hid_intro hsz
   have HFS := hid_intro hfs
   have HX1 := hid_intro x1
   have HX2 := hid_intro x2
   have HX4 := hid_intro x4
   have HXX := hid_intro hxx
   clear hsz hfs x1 x2 x3 x4 hxx HSz
   have ga := World.grownBy_alloc wr (.cells #[.slice (some ⟨kb, ko, none⟩) m c', .slice bo' m2 d2, .int .i64 sz, .int .i64 fs] 52) none
   have k0 : Hid ((wr.alloc (.cells #[.slice (some ⟨kb, ko, none⟩) m c', .slice bo' m2 d2, .int .i64 sz, .int .i64 fs] 52)).cell? ⟨wr.heap.size, 0, none⟩ = some (.slice (some ⟨kb, ko, none⟩) m c')) := by show _ = _; rw [cell_of_row _ wr.heap.size 0 _ _ (0, 0) (heap_alloc_new wr _)]; rfl
   have k1 : Hid ((wr.alloc (.cells #[.slice (some ⟨kb, ko, none⟩) m c', .slice bo' m2 d2, .int .i64 sz, .int .i64 fs] 52)).cell? ⟨wr.heap.size, 1, none⟩ = some (.slice bo' m2 d2)) := by show _ = _; rw [cell_of_row _ wr.heap.size 1 _ _ (0, 0) (heap_alloc_new wr _)]; rfl
   have k2 : Hid ((wr.alloc (.cells #[.slice (some ⟨kb, ko, none⟩) m c', .slice bo' m2 d2, .int .i64 sz, .int .i64 fs] 52)).cell? ⟨wr.heap.size, 2, none⟩ = some (.int .i64 sz)) := by show _ = _; rw [cell_of_row _ wr.heap.size 2 _ _ (0, 0) (heap_alloc_new wr _)]; rfl
   have k3 : Hid ((wr.alloc (.cells #[.slice (some ⟨kb, ko, none⟩) m c', .slice bo' m2 d2, .int .i64 sz, .int .i64 fs] 52)).cell? ⟨wr.heap.size, 3, none⟩ = some (.int .i64 fs)) := by show _ = _; rw [cell_of_row _ wr.heap.size 3 _ _ (0, 0) (heap_alloc_new wr _)]; rfl
   have Hh := hid_intro (HLS.out.h.kept ga)
   have Hs := hid_intro (HLS.out.s.kept ga)
   have Hc := hid_intro (HLCc.out.kept ga)
   have Hb := hid_intro (HLS.out.b.keptN ga)
   have Hg := hid_intro (grown_trans HG.out ga)
   have HNE : Hid (wr.heap.size ≠ w10.heap.size ∧ wr.heap.size ≠ w10.heap.size + 1 ∧ wr.heap.size ≠ G) := by
    have a1 := HLS.out.s.lt
    have a2 := HLCc.out.lt
    have a3 := HLS.out.b.lt
    exact ⟨by omega, by omega, by omega⟩
   obtain ⟨_, j1, _⟩ := (HLCc.out.kept ga).cells
   clear ga HLS HLCc HG
   go_wp2_with fail
   have k0' := k0.out
   have k1' := k1.out
   have k2' := k2.out
   have k3' := k3.out
   clear k0 k1 k2 k3 u0 u1 u2 u3 j1
   generalize wr.alloc (.cells #[.slice (some ⟨kb, ko, none⟩) m c', .slice bo' m2 d2, .int .i64 sz, .int .i64 fs] 52) = wq at *
   generalize wr.heap.size = Q at *
   refine (put_u16_nil A _ (by omega)).mono ?_
   rintro en w5 ⟨rfl, hb5, hg5, hs5⟩
   have B5 := hid_intro hb5
   have Hh5 := hid_intro (Hh.out.kept hg5)
   have Hs5 := hid_intro (Hs.out.kept hg5)
   have Hc5 := hid_intro (Hc.out.kept hg5)
   have Hb5 := hid_intro (Hb.out.keptN hg5)
   have Hg5 := hid_intro (grown_trans Hg.out hg5)
   have z0 := hg5.cell k0' (by simp)
   have z1 := hg5.cell k1' (by simp)
   have z2 := hg5.cell k2' (by simp)
   have z3 := hg5.cell k3' (by simp)
   clear hb5 hg5 hs5 Hh Hs Hc Hb Hg k0' k1' k2' k3'
   go_wp2_with fail
   refine (lay_any w10.heap.size G _ _ _ _ _ (lb 2 A) _ Hs5.out Hb5.out HLL.out B5.out (by omega) (by omega)).mono ?_
   rintro en w6 ⟨rfl, hw6, hr6, ht6, hs6⟩
   have Hs6 := hid_intro hw6
   have Hb6 := hid_intro hr6
   have Hh6 := hid_intro (Hh5.out.two ht6 (by omega) HGH.out)
   have Hc6 := hid_intro (Hc5.out.two ht6 (by omega) (by omega))
   have Hg6 := hid_intro (ht6.grown Hg5.out (by omega) HG0.out)
   have y0 : w6.cell? ⟨Q, 0, none⟩ = some (.slice (some ⟨kb, ko, none⟩) m c') := (World.cell?_of_block (ht6.block Q (World.block_lt_of_cell? _ _ z0) HNE.out.1 HNE.out.2.2)).trans z0
   have y1 : w6.cell? ⟨Q, 1, none⟩ = some (.slice bo' m2 d2) := (World.cell?_of_block (ht6.block Q (World.block_lt_of_cell? _ _ z0) HNE.out.1 HNE.out.2.2)).trans z1
   have y2 : w6.cell? ⟨Q, 2, none⟩ = some (.int .i64 sz) := (World.cell?_of_block (ht6.block Q (World.block_lt_of_cell? _ _ z0) HNE.out.1 HNE.out.2.2)).trans z2
   have y3 : w6.cell? ⟨Q, 3, none⟩ = some (.int .i64 fs) := (World.cell?_of_block (ht6.block Q (World.block_lt_of_cell? _ _ z0) HNE.out.1 HNE.out.2.2)).trans z3
   have L6 : Hid ((splice Bi (h0 + 2 * i) (lb 2 A)).length = 4092) := by show _ = _; rw [splice_len (by rw [HLL.out, lb_len]; omega)]; exact HLL.out
   clear hw6 hr6 ht6 hs6 Hs5 Hb5 Hh5 Hc5 Hg5 B5 z0 z1 z2 z3
   have hg0 := HG0.out
   go_wp2_with fail
   refine (layCell_any (w10.heap.size + 1) G A _ kb ko m c' bo' m2 d2 sz fs p x _ Hc6.out Hb6.out L6.out (by omega) (HKy.out.keptN Hg6.out) (HVl.out.keptN Hg6.out) HSZ.out HFS.out HX1.out HX2.out hpx r7 (by omega) ⟨by omega, by omega⟩ (fun ad e h => by have := hbv ad e h; exact ⟨by omega, by omega⟩)).mono ?_
   rintro en w7 ⟨rfl, hw7, hr7, ht7⟩
   have Hc7 := hid_intro hw7
   have Hb7 := hid_intro hr7
   have Hh7 := hid_intro (Hh6.out.two ht7 (by omega) HGH.out)
   have Hs7 := hid_intro (Hs6.out.two ht7 (by omega) (by omega))
   have Hg7 := hid_intro (ht7.grown Hg6.out (by omega) HG0.out)
   clear hw7 hr7 ht7 Hc6 Hb6 Hh6 Hs6 Hg6 y0 y1 y2 y3
   go_wp2
   go_roundw
   case rel =>
    refine ⟨i + 1, by omega, by go_num, ⟨Hh7.out, ?_, ?_, ?_⟩, Hg7.out⟩
    ·exact (by have := Hs7.out; simpa [Nat.mul_add, Nat.add_assoc] using this)
    ·rw [HCN.out, ← Nat.add_assoc, HAA.out]; exact Hc7.out
    ·rw [← HST.out]; exact Hb7.out
   case measure => simp [intOf]; omega
  ·have hin : i = n := by omega
   subst hin
   obtain ⟨k0, k1, _⟩ := HLS.out.h.cells
   go_wp2
   go_ret
   refine ⟨G, rfl, ?_, HG.out, HG0.out⟩
   have := HLS.out.b
   rw [← hn, laid_all] at this
   exact this
set_option maxHeartbeats 1000000 in
set_option maxRecDepth 100000 in
theorem encode_wrong (a : Option Addr) (n cap : Nat) (L : List It) (w : World) (hl : Il w a L) (hb : Ib L) (hn : L.length = n) (hm : n ≤ 5000) (h : wrong L ≠ 0) :
  Calls Tryz.prog 7 #[.slice a n cap] w fun en w' => en = .returned (.tuple #[.slice none 0 0, .int .i64 (wrong L)]) ∧ w.grownBy w' none := by
 have HE := hid_intro (fun (W : World) (hW : Il W a L) => errorOf_any a n cap L W hW hb hn hm)
 generalize wrong L = e at *
 have h1 : ¬ e = 0 := h
 go_enter Tryz.func7, Tryz.ntmps7
 go_wp2_with fail
 refine (HE.out _ hl).mono ?_
 rintro en w1 ⟨rfl, hg⟩
 have HG := hid_intro hg
 clear hg hl
 go_wp2
 go_ret2
 exact ⟨rfl, HG.out⟩
set_option maxHeartbeats 1000000 in
set_option maxRecDepth 100000 in
theorem encode_big (a : Option Addr) (n cap : Nat) (L : List It) (w : World) (hl : Il w a L) (hb : Ib L) (hn : L.length = n) (hm : n ≤ 5000) (h : wrong L = 0) (hs : 4092 < size L) :
  Calls Tryz.prog 7 #[.slice a n cap] w fun en w' => en = .returned (.tuple #[.slice none 0 0, .int .i64 42]) ∧ w.grownBy w' none := by
 obtain ⟨_, hws, _, _⟩ := wrong_parts h
 have hk : ∀ x ∈ L, x.key.length ≤ 1000000 := fun x hx => by have := (ws_parts (hws x hx)).2.1; omega
 have HL := hid_intro hl
 go_enter Tryz.func7, Tryz.ntmps7
 go_wp2_with fail
 refine (errorOf_any a n cap L _ hl hb hn hm).mono ?_
 rintro en w1 ⟨rfl, hg⟩
 have HG := hid_intro hg
 clear hg hl
 rw [h]
 go_wp2_with fail
 refine (size_any a n cap L _ (HL.out.keptN HG.out) hn hm hk).mono ?_
 rintro en w2 ⟨rfl, hg⟩
 have HG2 := hid_intro (grown_trans HG.out hg)
 clear hg
 generalize size L = s at *
 go_wp2
 go_ret2
 exact ⟨rfl, HG2.out⟩
set_option maxHeartbeats 1000000 in
set_option maxRecDepth 100000 in
theorem encode_ok (a : Option Addr) (n cap : Nat) (L : List It) (w : World) (hl : Il w a L) (hb : Ib L) (hn : L.length = n) (hm : n ≤ 5000) (h : wrong L = 0) (hs : size L ≤ 4092) :
  Calls Tryz.prog 7 #[.slice a n cap] w fun en w' => ∃ G, en = .returned (.tuple #[.slice (some ⟨G, 0, none⟩) 4092 4092, .int .i64 0]) ∧ Rw w' G (body L) ∧ w.grownBy w' none ∧ w.heap.size ≤ G := by
 obtain ⟨_, hws, _, _⟩ := wrong_parts h
 have hk : ∀ x ∈ L, x.key.length ≤ 1000000 := fun x hx => by have := (ws_parts (hws x hx)).2.1; omega
 have HL := hid_intro hl
 have HO := hid_intro (fun (W : World) (hW : Il W a L) => layOut_any a n cap L W hW hn h hs)
 go_enter Tryz.func7, Tryz.ntmps7
 go_wp2_with fail
 refine (errorOf_any a n cap L _ hl hb hn hm).mono ?_
 rintro en w1 ⟨rfl, hg⟩
 have HG := hid_intro hg
 clear hg hl
 rw [h]
 go_wp2_with fail
 refine (size_any a n cap L _ (HL.out.keptN HG.out) hn hm hk).mono ?_
 rintro en w2 ⟨rfl, hg⟩
 have HG2 := hid_intro (grown_trans HG.out hg)
 clear hg
 generalize size L = s at *
 go_wp2_with fail
 refine (HO.out _ (HL.out.keptN HG2.out)).mono ?_
 rintro en w3 ⟨G, rfl, h1, h2, h3⟩
 have H1 := hid_intro h1
 have H2 := hid_intro (grown_trans HG2.out h2)
 have H3 := hid_intro (Nat.le_trans HG2.out.size h3)
 clear h1 h2 h3
 go_wp2
 go_ret2
 exact ⟨G, rfl, H1.out, H2.out, H3.out⟩
def enc (L : List It) : List Int × Int := if wrong L = 0 then (if size L ≤ 4092 then (body L, 0) else ([], 42)) else ([], wrong L)
theorem encode_any (a : Option Addr) (n cap : Nat) (L : List It) (w : World) (hl : Il w a L) (hb : Ib L) (hn : L.length = n) (hm : n ≤ 5000) :
  Calls Tryz.prog 7 #[.slice a n cap] w fun en w' => (∃ ao k c, en = .returned (.tuple #[.slice ao k c, .int .i64 (enc L).2]) ∧ Byt w' ao k c (enc L).1 ∧ k ≤ 4092) ∧ w.grownBy w' none := by
 by_cases h : wrong L = 0
 ·by_cases hs : size L ≤ 4092
  ·refine (encode_ok a n cap L w hl hb hn hm h hs).mono ?_
   rintro en w' ⟨G, rfl, h1, h2, h3⟩
   have e : enc L = (body L, 0) := by unfold enc; rw [if_pos h, if_pos hs]
   rw [e]
   exact ⟨⟨_, _, _, rfl, h1.all 4092 4092 (body_len h hs).symm, Nat.le_refl _⟩, h2⟩
  ·refine (encode_big a n cap L w hl hb hn hm h (by omega)).mono ?_
   rintro en w' ⟨rfl, h2⟩
   have e : enc L = ([], 42) := by unfold enc; rw [if_pos h, if_neg hs]
   rw [e]
   exact ⟨⟨_, _, _, rfl, Byt.empty _, by omega⟩, h2⟩
 ·refine (encode_wrong a n cap L w hl hb hn hm h).mono ?_
  rintro en w' ⟨rfl, h2⟩
  have e : enc L = ([], wrong L) := by unfold enc; rw [if_neg h]
  rw [e]
  exact ⟨⟨_, _, _, rfl, Byt.empty _, by omega⟩, h2⟩
theorem lb_bt' (k x : Nat) : Bt (lb k x) := lb_bt k x
theorem vform_bt (x : Nat) : Bt (vform x) := lf_bt 10 x
theorem cb_bt (p : Nat) {x : It} (h : Itb x) : Bt (cb p x) := by
 unfold cb
 refine (vform_bt _).app ((h.key.drop p).app ((vform_bt _).app ?_))
 split
 ·exact lb_bt' _ _
 ·exact h.val
theorem slots_bt (p : Nat) : ∀ (L : List It) (a : Nat), Bt (slots p a L)
 | [], _ => Bt.nil
 | _ :: L, _ => (lb_bt' _ _).app (slots_bt p L _)
theorem cells_bt (p : Nat) : ∀ {L : List It}, Ib L → Bt (cells p L)
 | [], _ => Bt.nil
 | x :: _, h => (cb_bt p (h x List.mem_cons_self)).app (cells_bt p (fun y hy => h y (List.mem_cons_of_mem _ hy)))
theorem body_bt {L : List It} (h : Ib L) : Bt (body L) := by
 unfold body used headB
 refine Bt.app (Bt.app ((lb_bt' _ _).app ((lb_bt' _ _).app ((vform_bt _).app ?_))) ((slots_bt _ _ _).app (cells_bt _ h))) ?_
 ·cases L with
  | nil => exact Bt.take Bt.nil _
  | cons x L => exact (h x List.mem_cons_self).key.take _
 ·intro z hz
  obtain ⟨_, rfl⟩ := List.mem_replicate.1 hz
  omega
theorem enc_bt {L : List It} (h : Ib L) : Bt (enc L).1 := by
 unfold enc
 split
 ·split
  ·exact body_bt h
  ·exact Bt.nil
 ·exact Bt.nil
set_option maxHeartbeats 400000 in
set_option maxRecDepth 100000 in
theorem equal_yes (ao bo : Option Addr) (n m c d : Nat) (za zb : List Int) (w : World) (ha : Byt w ao n c za) (hb : Byt w bo m d zb) (e : za = zb) :
  Calls Tryz.prog 22 #[.slice ao n c, .slice bo m d] w fun en w' => en = .returned (.bool true) ∧ w' = w := by
 subst e
 have h1 := conv_str ha
 have h2 := conv_str hb
 clear ha hb
 go_enter Tryz.func22, Tryz.ntmps22
 go_wp2
 go_ret
 exact ⟨rfl, rfl⟩
set_option maxHeartbeats 400000 in
set_option maxRecDepth 100000 in
theorem equal_no (ao bo : Option Addr) (n m c d : Nat) (za zb : List Int) (w : World) (ha : Byt w ao n c za) (hb : Byt w bo m d zb) (ba : Bt za) (bb : Bt zb) (e : za ≠ zb) :
  Calls Tryz.prog 22 #[.slice ao n c, .slice bo m d] w fun en w' => en = .returned (.bool false) ∧ w' = w := by
 have hne : ((strOfNums za).toList == (strOfNums zb).toList) = false := by
  rw [beq_eq_false_iff_ne, ByteArray.toList_eq, ByteArray.toList_eq]
  intro h
  refine e (str_inj ba bb ?_)
  have := Array.toList_inj.1 h
  cases hx : strOfNums za; cases hy : strOfNums zb; simp_all
 have h1 := conv_str ha
 have h2 := conv_str hb
 clear ha hb
 go_enter Tryz.func22, Tryz.ntmps22
 go_wp2
 go_ret
 exact ⟨rfl, rfl⟩
end Go.Proofs.YtcdkkhbkicejiaaGreatDoor
