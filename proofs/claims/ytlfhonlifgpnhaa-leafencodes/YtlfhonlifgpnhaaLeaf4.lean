import Derived.Test.YtlfhonlifgpnhaaLeaf3
import Derived.Deep.RegionLaw
import Derived.Great.Walk
namespace Go.Proofs.Ytlfhonlifgpnhaa
open Go.RowKit

/-- The block g holds just the bytes zs. -/
def Rw (w : World) (g : Nat) (zs : List Int) : Prop := w.heap[g]? = some (.cells (zs.map (Value.int .u8)).toArray 5 (0, 0))
theorem Rw.lt {w : World} {g : Nat} {zs : List Int} (h : Rw w g zs) : g < w.heap.size := (Array.getElem?_eq_some_iff.1 h).1
theorem Rw.cell {w : World} {g : Nat} {zs : List Int} (h : Rw w g zs) (i : Nat) (hi : i < zs.length) : w.cell? ⟨g, i, none⟩ = some (.int .u8 (zs.getD i 0)) := by
  rw [cell_of_row w g i _ _ (0, 0) h]
  simp [List.getD, List.getElem?_eq_getElem hi]
theorem Rw.byt {w : World} {g : Nat} {zs : List Int} (h : Rw w g zs) (off n cap : Nat) (hn : off + n ≤ zs.length) : Byt w (some ⟨g, off, none⟩) n cap ((zs.drop off).take n) := by
  refine Byt.of_cells (by rw [List.length_take, List.length_drop]; omega) fun i hi => ?_
  rw [h.cell (off + i) (by omega)]
  simp [List.getD, hi]
theorem Rw.all {w : World} {g : Nat} {zs : List Int} (h : Rw w g zs) (n cap : Nat) (hn : n = zs.length) : Byt w (some ⟨g, 0, none⟩) n cap zs := by
  have := h.byt 0 n cap (by omega)
  rwa [List.drop_zero, List.take_of_length_le (by omega)] at this
theorem Rw.kept {w w' : World} {row : Option Nat} {g : Nat} {zs : List Int} (h : Rw w g zs) (hg : w.grownBy w' row) (hne : some g ≠ row) : Rw w' g zs := (hg.block g h.lt hne).trans h
theorem Rw.keptN {w w' : World} {g : Nat} {zs : List Int} (h : Rw w g zs) (hg : w.grownBy w' none) : Rw w' g zs := h.kept hg (by simp)
theorem Rw.of_owns {w : World} {base g n : Nat} {zs : List Int} (h : w.ownsRow base 5 1 (.slice (some ⟨g, 0, none⟩) n n) n (zs.map (Value.int .u8))) : Rw w g zs := by
  rcases h with ⟨hl, ⟨h0, _⟩ | ⟨g', cap, cur, hv, _, hg, _, _, hs, ht⟩⟩
  · cases h0
  · injection hv with e1 e2 e3
    injection e1 with e1
    injection e1 with e4
    subst e4 e3
    have : cur.toList = zs.map (Value.int .u8) := by
      rw [← ht, List.take_of_length_le (by simp [hs])]
    unfold Rw
    rw [hg, ← this]
theorem made (n : Nat) : (madeCells #[Value.int .u8 0] n).toList = (List.replicate n (0 : Int)).map (Value.int .u8) := by
  refine List.ext_getElem (by simp [madeCells]) fun i h1 h2 => ?_
  simp [madeCells, Nat.mod_one]

/-- One row is written on, nothing else. -/
structure Ro (w w' : World) (g : Nat) (xs : List Value) : Prop where
  row : w'.heap[g]? = some (.cells xs.toArray 5 (0, 0))
  oth : ∀ k, k ≠ g → w'.heap[k]? = w.heap[k]?
  size : w'.heap.size = w.heap.size
  os : w'.os = w.os
  tape : w'.tape = w.tape
  output : w'.output = w.output

theorem Ro.cell {w w' : World} {g : Nat} {xs : List Value} (h : Ro w w' g xs) (R i : Nat) (hR : R ≠ g) : w'.cell? ⟨R, i, none⟩ = w.cell? ⟨R, i, none⟩ := World.cell?_of_block (h.oth R hR)
theorem Ro.grown {w w' : World} {g : Nat} {xs : List Value} (h : Ro w w' g xs) : w.grownBy w' (some g) :=
  ⟨h.os, h.tape, h.output, by rw [h.size]; exact Nat.le_refl _, fun k _ hne => h.oth k (fun e => hne (by rw [e]))⟩

theorem step_copy_ro {ops : Array Oper} {o : Oper} {a : Act} {w : World} {K : Act → World → Prop} {Q : Exit → Act → World → Prop} {E : Prop} (hgd : o.guard = none) (d s : Operand)
    (ho : o.op = .call { callee := .builtin .copy, args := #[d, s], argTypes := #[34, 34] })
    (dp sp : Option Addr) (dLen dCap sLen sCap : Nat) (hd : a.eval d = .slice dp dLen dCap) (hs : a.eval s = .slice sp sLen sCap)
    (g off : Nat) (cur : List Value) (hg : w.heap[g]? = some (.cells cur.toArray 5 (0, 0))) (cs : List Value) (hn : cs.length = Nat.min sLen dLen)
    (hpos : 0 < cs.length → dp = some ⟨g, off, none⟩ ∧ ∃ ad, sp = some ad ∧ ∀ j v, cs[j]? = some v → w.cell? (ad.add j) = some v)
    (hfit : off + cs.length ≤ cur.length) (h1 : ∀ v ∈ cs, v.oneCell' = true) (k : Nat) (hk : cs.length = k)
    (h : ∀ w', Ro w w' g (splice cur off cs) → K (a.put o.dst (.int .i64 (k : Int))) w') :
    if Region.wanted o (yielded ops a.tmps) = true then Oper.wp Try.prog o a w K Q else E := by
  obtain ⟨i0, hi, hz0, hz1, hz2⟩ := info_parts info_u8
  have hsz : (Try.prog.info? 5).map (·.size) = some 1 := by rw [hi]; exact congrArg some hz1
  have hw : Region.wanted o (yielded ops a.tmps) = true := by simp [Region.wanted, hgd]
  rw [if_pos hw]
  subst hk
  by_cases h0 : cs.length = 0
  · obtain rfl : cs = [] := List.eq_nil_of_length_eq_zero h0
    have hrun := run_copy_none (P := Try.prog) w 34 34 o.type 5 dp sp dLen dCap sLen sCap Try.underlying34 hsz (by simpa using hn.symm)
    unfold Oper.wp
    simp [execOp, ho, resolve, invoke, builtin, hd, hs, hrun, Result.andThen]
    exact h w ⟨by simpa [splice] using hg, fun _ _ => rfl, rfl, rfl, rfl, rfl⟩
  · obtain ⟨rfl, ad, rfl, hsrc⟩ := hpos (by omega)
    have hrun := run_copy_row (P := Try.prog) w 34 34 o.type 5 g off dLen dCap ad sLen sCap cur.toArray 5 cs Try.underlying34 hsz hg hn hsrc (by simpa using hfit) h1
    unfold Oper.wp
    simp [execOp, ho, resolve, invoke, builtin, hd, hs, hrun, Result.andThen]
    exact h _ ⟨by simpa [splice] using setRow_heap w g _ _ _ _ hg, fun k hk => setRow_other w g k _ hk, by simp [World.setRow], rfl, rfl, rfl⟩

/-- A writer at block R over the body at block G: it stands at p. -/
def Wt (w : World) (R G p : Nat) : Prop := w.heap[R]? = some (.cells #[.slice (some ⟨G, 0, none⟩) 4092 4092, .int .i64 p] 84 (0, 0))
theorem Wt.cells {w : World} {R G p : Nat} (h : Wt w R G p) : w.cell? ⟨R, 0, none⟩ = some (.slice (some ⟨G, 0, none⟩) 4092 4092) ∧ w.cell? ⟨R, 1, none⟩ = some (.int .i64 p) ∧ w.frozen? ⟨R, 1, none⟩ = false := by
  refine ⟨?_, ?_, frozen_of_row w R 1 _ _ h⟩
  · rw [cell_of_row w R 0 _ _ _ h]; rfl
  · rw [cell_of_row w R 1 _ _ _ h]; rfl
theorem Wt.lt {w : World} {R G p : Nat} (h : Wt w R G p) : R < w.heap.size := (Array.getElem?_eq_some_iff.1 h).1
theorem Wt.set {w : World} {R G p : Nat} (h : Wt w R G p) (q : Nat) (v : Int) (hv : v = (q : Int)) : Wt (w.setCell ⟨R, 1, none⟩ (.int .i64 v)) R G q := by
  have := heap_setCell_same w R 1 _ _ (.int .i64 v) h
  subst hv
  exact this

/-- What a writer leaves as it was: all but its box and the body. -/
structure Two (w w' : World) (R G : Nat) : Prop where
  os : w'.os = w.os
  tape : w'.tape = w.tape
  output : w'.output = w.output
  size : w.heap.size ≤ w'.heap.size
  block : ∀ k, k < w.heap.size → k ≠ R → k ≠ G → w'.heap[k]? = w.heap[k]?
theorem Two.of_grown {w w' : World} {R G : Nat} (h : w.grownBy w' none) : Two w w' R G := ⟨h.os, h.tape, h.output, h.size, fun k hk _ _ => h.block k hk (by simp)⟩
theorem Two.trans {a b c : World} {R G : Nat} (h : Two a b R G) (k : Two b c R G) : Two a c R G :=
  ⟨k.os.trans h.os, k.tape.trans h.tape, k.output.trans h.output, Nat.le_trans h.size k.size, fun i hi h1 h2 => (k.block i (Nat.lt_of_lt_of_le hi h.size) h1 h2).trans (h.block i hi h1 h2)⟩
theorem Two.grown {w0 w w' : World} {R G : Nat} (h : Two w w' R G) (hg : w0.grownBy w none) (h1 : w0.heap.size ≤ R) (h2 : w0.heap.size ≤ G) : w0.grownBy w' none :=
  ⟨h.os.trans hg.os, h.tape.trans hg.tape, h.output.trans hg.output, Nat.le_trans hg.size h.size, fun k hk _ => (h.block k (Nat.lt_of_lt_of_le hk hg.size) (by omega) (by omega)).trans (hg.block k hk (by simp))⟩

theorem splice_map (cs zs : List Int) (p : Nat) : splice (cs.map (Value.int .u8)) p (zs.map (Value.int .u8)) = (splice cs p zs).map (Value.int .u8) := by
  simp [splice]


set_option maxHeartbeats 2000000 in
set_option maxRecDepth 100000 in
theorem lay_any (R G p : Nat) (cs : List Int) (ao : Option Addr) (n c : Nat) (zs : List Int) (w : World) (hw : Wt w R G p) (hr : Rw w G cs) (hcs : cs.length = 4092) (hb : Byt w ao n c zs) (hRG : R ≠ G) (hp : p + n ≤ 4092) :
    Calls Try.prog 60 #[.pointer (some ⟨R, 0, none⟩), .slice ao n c] w fun en w' => en = .returned (.tuple #[]) ∧ Wt w' R G (p + n) ∧ Rw w' G (splice cs p zs) ∧ Two w w' R G ∧ w'.heap.size = w.heap.size := by
  obtain ⟨c0, c1, f1⟩ := hw.cells
  have hl := hb.len
  obtain ⟨X, hX⟩ : ∃ X, X = zs.map (Value.int .u8) := ⟨_, rfl⟩
  obtain ⟨Z, hZ⟩ : ∃ Z, Z = cs.map (Value.int .u8) := ⟨_, rfl⟩
  have hXl : X.length = n := by rw [hX, List.length_map]; exact hl
  have hZl : Z.length = 4092 := by rw [hZ, List.length_map]; exact hcs
  have hX1 : ∀ v ∈ X, v.oneCell' = true := by rw [hX]; exact ints_oneCell _ _
  have HZ : Hid (∀ W : World, W.heap = w.heap → W.heap[G]? = some (.cells Z.toArray 5 (0, 0))) := fun W e => by rw [e, hZ]; exact hr
  have HS : Hid (∀ W : World, W.heap = w.heap → 0 < X.length → ∃ ad, ao = some ad ∧ ∀ j v, X[j]? = some v → W.cell? (ad.add j) = some v) := by
    intro W e h0
    cases ao with
    | none => have := (hb.nil rfl).1; omega
    | some ad => exact ⟨ad, rfl, by rw [hX]; exact (hb.heap e).cells ad rfl⟩
  have HC : Hid (∀ W : World, W.heap = w.heap → W.cell? ⟨R, 0, none⟩ = some (.slice (some ⟨G, 0, none⟩) 4092 4092) ∧ W.cell? ⟨R, 1, none⟩ = some (.int .i64 p) ∧ W.frozen? ⟨R, 1, none⟩ = false) := by
    intro W e
    exact ⟨(World.cell?_of_block (by rw [e])).trans c0, (World.cell?_of_block (by rw [e])).trans c1, (World.frozen?_of_block (by rw [e])).trans f1⟩
  have HF : Hid (∀ w4 wq : World, wq.os = w.os → wq.tape = w.tape → wq.output = w.output → wq.heap = w.heap → Ro wq w4 G (splice Z p X) → ∀ v : Int, v = ((p + n : Nat) : Int) → Wt (w4.setCell ⟨R, 1, none⟩ (.int .i64 v)) R G (p + n) ∧ Rw (w4.setCell ⟨R, 1, none⟩ (.int .i64 v)) G (splice cs p zs) ∧ Two w (w4.setCell ⟨R, 1, none⟩ (.int .i64 v)) R G ∧ (w4.setCell ⟨R, 1, none⟩ (.int .i64 v)).heap.size = w.heap.size) := by
    intro w4 wq e1 e2 e3 e4 hro v hv
    have h4 : Wt w4 R G p := (hro.oth R hRG).trans (by rw [e4]; exact hw)
    have hs : w4.heap.size = w.heap.size := by rw [hro.size, e4]
    have hg := grown_cell w4 R 1 (.int .i64 v)
    refine ⟨h4.set (p + n) v hv, ?_, ⟨hro.os.trans e1, hro.tape.trans e2, hro.output.trans e3, ?_, fun k hk h1 h2 => ?_⟩, ?_⟩
    · have : Rw w4 G (splice cs p zs) := by
        unfold Rw
        rw [← splice_map, ← hX, ← hZ]
        exact hro.row
      exact this.kept hg (fun e => hRG (Option.some.inj e).symm)
    · have := hg.size; omega
    · rw [hg.block k (by omega) (fun e => h1 (Option.some.inj e)), hro.oth k h2, e4]
    · simp [hs]
  clear hw hr hX hZ hb
  have g1 : (p : Int) ≤ 4092 := by omega
  have hwr : Hid (IntKind.i64.wrap ((p : Int) + (n : Int)) = ((p + n : Nat) : Int)) := by show _ = _; simp [IntKind.wrap, IntKind.bits, IntKind.signed]; omega
  by_cases hp2 : p < 4092
  · have g2 : ¬ 4092 = p := by omega
    go_enter Try.func60, Try.ntmps60
    go_wp2_with fail
    go_region_law
      (refine step_copy_ro rfl (.tmp 16) (.tmp 17) (by rfl) _ _ _ _ _ _ (by rfl) (by rfl) G p Z (by exact HZ.out _ rfl) X (by rw [hXl]; exact (Nat.min_eq_left (by omega)).symm) (fun h => ⟨by rfl, by exact HS.out _ rfl h⟩) (by omega) hX1 n hXl ?_; intro w4 hro; have cc0 := (hro.cell R 0 hRG).trans (by exact (HC.out _ rfl).1); have cc1 := (hro.cell R 1 hRG).trans (by exact (HC.out _ rfl).2.1); have ff1 := (World.frozen?_of_block (hro.oth R hRG)).trans (by exact (HC.out _ rfl).2.2))
    all_goals
      refine Go.Great.bodyPost_end0 rfl rfl ?_
      exact ⟨rfl, HF.out w4 w.drew rfl rfl rfl rfl hro _ hwr.out⟩
  · have hp3 : 4092 = p := by omega
    subst hp3
    obtain rfl : n = 0 := by omega
    go_enter Try.func60, Try.ntmps60
    go_wp2_with fail
    go_region_law
      (refine step_copy_ro rfl (.tmp 16) (.tmp 17) (by rfl) _ _ _ _ _ _ (by rfl) (by rfl) G 4092 Z (by exact HZ.out _ rfl) X (by rw [hXl]; rfl) (fun h => absurd h (by omega)) (by omega) hX1 0 hXl ?_; intro w4 hro; have cc0 := (hro.cell R 0 hRG).trans (by exact (HC.out _ rfl).1); have cc1 := (hro.cell R 1 hRG).trans (by exact (HC.out _ rfl).2.1); have ff1 := (World.frozen?_of_block (hro.oth R hRG)).trans (by exact (HC.out _ rfl).2.2))
    all_goals
      refine Go.Great.bodyPost_end0 rfl rfl ?_
      exact ⟨rfl, HF.out w4 w.drew rfl rfl rfl rfl hro _ (by first | rfl | exact hwr.out)⟩
end Go.Proofs.Ytlfhonlifgpnhaa
