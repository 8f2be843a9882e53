import Derived.Test.YtcdkkhbkicejiaaGreatDoorQ6
import Derived.Laws.AppendOwnNone
import Derived.Test.YtcdkkhbkicejiaaGreatDoorQ4
namespace Go.Proofs.YtcdkkhbkicejiaaGreatDoor
open Go.RowKit
theorem Byt.heap {w w' : World} {ao : Option Addr} {n cap : Nat} {zs : List Int} (h : Byt w ao n cap zs) (e : w'.heap = w.heap) : Byt w' ao n cap zs :=
 ⟨h.len, h.nil, fun ad had j u hu => (World.cell?_of_block (by rw [e])).trans (h.cells ad had j u hu)⟩
set_option maxHeartbeats 400000 in
theorem refBytes_any (ao : Option Addr) (n cap : Nat) (zs : List Int) (w : World) (hb : Byt w ao n cap zs) (hn : n ≤ 140737488351232) :
  Calls Tryz.prog 9 #[.slice ao n cap] w fun e w' =>
   e = .returned (.slice (some ⟨w.heap.size, 0, none⟩) n n) ∧
   w'.ownsRow w.heap.size 5 1 (.slice (some ⟨w.heap.size, 0, none⟩) n n) n (zs.map (Value.int .u8)) ∧ w.grownBy w' none ∧ w.heap.size < w'.heap.size := by
 obtain ⟨i0, hi, hz0, hz1, hz2⟩ := info_parts info_u8
 have HB : Hid (Byt w ao n cap zs) := hb
 clear hb
 go_enter Tryz.func9, Tryz.ntmps9
 go_wp2_with (at_make; refine wpList_make_own _ rfl _ _ 42 rfl w.heap.size 5 i0 (.int .u8 0) 1 Tryz.underlying42 hi hz0 hz1 _ _ _ n rfl rfl rfl ?b2 ?b3 (Nat.le_refl _) ?_)
 case b2 => rw [hz2]; omega
 case b3 => unfold maxLen; omega
 intro w0 hown0 hgrow0
 have hb0 := HB.out.keptN hgrow0
 go_wp2_with (at_builtin; refine wpList_append_fits_any _ rfl _ _ 42 rfl w.heap.size 5 i0 1 Tryz.underlying42 hi hz1 w.heap.size 0 n _ rfl hown0 _ n _ (zs.map (Value.int .u8)) rfl (by rw [List.length_map, hb0.len, Nat.mul_one]) hb0.nil hb0.cells (ints_oneCell _ _) (by omega) ?_)
 intro w1 hown1 hgrow1
 have hg : w.grownBy w1 none := ⟨hgrow1.os.trans hgrow0.os, hgrow1.tape.trans hgrow0.tape, hgrow1.output.trans hgrow0.output, Nat.le_trans hgrow0.size hgrow1.size,
  fun k hk _ => (hgrow1.block k (by have := hgrow0.size; omega) (by intro e; have := Option.some.inj e; omega)).trans (hgrow0.block k hk (by simp))⟩
 have hs : w.heap.size < w1.heap.size := (hown1.lt w.heap.size rfl).2
 go_wp2
 go_ret
 exact ⟨rfl, hown1, hg, hs⟩
theorem owns_any {w : World} {base n : Nat} {v : Value} {zs : List Int} (h : w.ownsRow base 5 1 v n (zs.map (Value.int .u8))) :
  ∃ ao cap, v = .slice ao n cap ∧ Byt w ao n cap zs := by
 rcases h.2 with ⟨rfl, rfl⟩ | ⟨g, cap, cur, rfl, _⟩
 ·have : zs = [] := by have := h.1; simpa using this
  subst this
  exact ⟨none, 0, rfl, Byt.empty w⟩
 ·exact ⟨_, cap, rfl, Byt.of_owns h⟩
theorem grown_own {w wr w1 : World} {o : Obj} {base n : Nat} {v : Value} {xs : List Value} (hg : w.grownBy wr none) (hown : wr.ownsRow base 5 1 v n xs) (hb : w.heap.size ≤ base) (h : (wr.alloc o).grownBy w1 v.ownBlock) : w.grownBy w1 none := by
 refine ⟨h.os.trans hg.os, h.tape.trans hg.tape, h.output.trans hg.output, ?_, fun k hk _ => ?_⟩
 ·have := h.size; have := hg.size; simp at *; omega
 ·have hk2 : k < wr.heap.size := Nat.lt_of_lt_of_le hk hg.size
  rw [h.block k (by simp; omega) (by intro e; have := (hown.lt k e.symm).1; omega), Below.heap_alloc wr o k hk2]
  exact hg.block k hk (by simp)
theorem hid_intro {p : Prop} (h : p) : Hid p := h
structure Ow (w : World) (g cap : Nat) (zs : List Int) : Prop where
 ex : ∃ cur : Array Value, w.heap[g]? = some (.cells cur 5 (0, 0)) ∧ cur.size = cap ∧ ∀ j, j < zs.length → cur[j]? = some (.int .u8 (zs.getD j 0))
 le : zs.length ≤ cap
 max : cap ≤ 9223372036854775807
theorem Ow.of_owns {w : World} {base g n cap : Nat} {zs : List Int} (h : w.ownsRow base 5 1 (.slice (some ⟨g, 0, none⟩) n cap) n (zs.map (Value.int .u8))) : Ow w g cap zs ∧ zs.length = n ∧ base ≤ g ∧ g < w.heap.size := by
 have hl : zs.length = n := by have := h.1; simpa using this
 have hlt := h.lt g rfl
 rcases h.2 with ⟨e, _⟩ | ⟨g', cap', cur, hv, hb, hg, hc, hm, hs, ht⟩
 ·cases e
 ·injection hv with e1 _ e3
  simp only [Option.some.injEq, Addr.mk.injEq] at e1
  obtain ⟨rfl, _⟩ := e1
  subst e3
  refine ⟨⟨⟨cur, hg, by simpa using hs, fun j hj => ?_⟩, by omega, by unfold maxLen at hm; omega⟩, hl, hlt⟩
  have e : (cur.toList.take (n * 1))[j]? = (zs.map (Value.int .u8))[j]? := by rw [ht]
  rw [List.getElem?_take, if_pos (by omega), Array.getElem?_toList] at e
  rw [e]
  simp [List.getD, List.getElem?_eq_getElem hj]
theorem Ow.cell {w : World} {g cap : Nat} {zs : List Int} (h : Ow w g cap zs) {j : Nat} (hj : j < zs.length) : w.cell? ⟨g, j, none⟩ = some (.int .u8 (zs.getD j 0)) := by
 obtain ⟨cur, h1, _, h3⟩ := h.ex
 rw [cell_of_row w g j _ _ _ h1]; exact h3 j hj
theorem Ow.frozen {w : World} {g cap : Nat} {zs : List Int} (h : Ow w g cap zs) (j : Nat) : w.frozen? ⟨g, j, none⟩ = false := by
 obtain ⟨cur, h1, _, _⟩ := h.ex
 exact frozen_of_row w g j _ _ h1
theorem Ow.lt {w : World} {g cap : Nat} {zs : List Int} (h : Ow w g cap zs) : g < w.heap.size := by
 obtain ⟨cur, h1, _, _⟩ := h.ex
 exact (Array.getElem?_eq_some_iff.1 h1).1
theorem Ow.byt {w : World} {g cap : Nat} {zs : List Int} (h : Ow w g cap zs) (n : Nat) (hn : n = zs.length) : Byt w (some ⟨g, 0, none⟩) n cap zs := by
 subst hn
 exact Byt.of_cells rfl fun i hi => by rw [Nat.zero_add]; exact h.cell hi
theorem Ow.same {w w' : World} {g cap : Nat} {zs : List Int} (h : Ow w g cap zs) (e : w'.heap[g]? = w.heap[g]?) : Ow w' g cap zs := by
 obtain ⟨cur, h1, h2, h3⟩ := h.ex
 exact ⟨⟨cur, e.trans h1, h2, h3⟩, h.le, h.max⟩
theorem Ow.kept {w w' : World} {g cap : Nat} {zs : List Int} {row : Option Nat} (h : Ow w g cap zs) (hg : w.grownBy w' row) (hne : some g ≠ row) : Ow w' g cap zs := h.same (hg.block g h.lt hne)
theorem Ow.keptN {w w' : World} {g cap : Nat} {zs : List Int} (h : Ow w g cap zs) (hg : w.grownBy w' none) : Ow w' g cap zs := h.kept hg (by simp)
theorem Ow.qt {w w' : World} {g cap : Nat} {zs : List Int} (h : Ow w g cap zs) (q : Qt w w') : Ow w' g cap zs := h.same (by rw [q.heap])
theorem Ow.part {w : World} {g cap : Nat} {xs ys : List Int} (h : Ow w g cap (xs ++ ys)) : Ow w g cap xs := by
 obtain ⟨cur, h1, h2, h3⟩ := h.ex
 have := h.le
 simp at this
 refine ⟨⟨cur, h1, h2, fun j hj => ?_⟩, by omega, h.max⟩
 rw [h3 j (by simp; omega)]
 simp [List.getD, List.getElem?_append_left hj]
theorem Ow.set {w : World} {g cap : Nat} {zs : List Int} (h : Ow w g cap zs) (i : Nat) (v : Int) (_hi : i < zs.length) : Ow (w.setCell ⟨g, i, none⟩ (.int .u8 v)) g cap (zs.set i v) := by
 obtain ⟨cur, h1, h2, h3⟩ := h.ex
 refine ⟨⟨cur.setIfInBounds i (.int .u8 v), heap_setCell_same w g i cur _ _ h1, by simpa using h2, fun j hj => ?_⟩, by simpa using h.le, h.max⟩
 have hj' : j < zs.length := by simpa using hj
 have hjc : j < cur.size := by have := h.le; omega
 by_cases e : i = j
 ·subst e
  simp [List.getD, hj', hjc]
 ·rw [Array.getElem?_setIfInBounds_ne e, h3 j hj']
  simp [List.getD, e]
theorem grown_cell (w : World) (g j : Nat) (v : Value) : w.grownBy (w.setCell ⟨g, j, none⟩ v) (some g) :=
 ⟨rfl, rfl, rfl, by simp, fun k _ hk => heap_setCell_other w ⟨g, j, none⟩ k _ (fun e => hk (by simp [e]))⟩
def Nw (w w' : World) (t : TypeId) (a : Option Addr) (n : Nat) : Prop := 0 < n → ∃ b cur, a = some ⟨b, 0, none⟩ ∧ w.heap.size ≤ b ∧ w'.heap[b]? = some (.cells cur t (0, 0))
theorem Nw.zero (w w' : World) (t : TypeId) (a : Option Addr) : Nw w w' t a 0 := fun h => by omega
theorem Nw.of_owns {w w' : World} {base sz n cap : Nat} {t : TypeId} {a : Option Addr} {xs : List Value} (h : w'.ownsRow base t sz (.slice a n cap) n xs) (hb : w.heap.size ≤ base) : Nw w w' t a n := by
 intro h0
 rcases h.2 with ⟨_, h1⟩ | ⟨g, cap', cur, e, hg, hc, _⟩
 ·omega
 ·injection e with e1 _ _
  exact ⟨g, cur, e1, Nat.le_trans hb hg, hc⟩
theorem Nw.keptN {w w' w'' : World} {t : TypeId} {a : Option Addr} {n : Nat} (h : Nw w w' t a n) (hg : w'.grownBy w'' none) : Nw w w'' t a n := by
 intro h0
 obtain ⟨b, cur, e1, e2, e3⟩ := h h0
 exact ⟨b, cur, e1, e2, (hg.block b (Array.getElem?_eq_some_iff.1 e3).1 (by simp)).trans e3⟩
theorem Nw.from {w0 w w' : World} {t : TypeId} {a : Option Addr} {n : Nat} (h : Nw w w' t a n) (hs : w0.heap.size ≤ w.heap.size) : Nw w0 w' t a n := by
 intro h0
 obtain ⟨b, cur, e1, e2, e3⟩ := h h0
 exact ⟨b, cur, e1, Nat.le_trans hs e2, e3⟩
set_option maxHeartbeats 400000 in
theorem ints_untouched (B : Nat) (w : World) (h : w.cell? ⟨B, 5, none⟩ = some (.slice none 0 0)) :
  Calls Tryz.prog 47 #[.pointer (some ⟨B, 0, none⟩)] w fun en w' => en = .returned (.bool true) ∧ w' = w := by
 go_enter Tryz.func47, Tryz.ntmps47
 go_wp2
 refine wp_loop_rounds 1 ?_
 rw [rounds_succ]
 go_wp2
 go_ret
 exact ⟨rfl, rfl⟩
set_option maxHeartbeats 400000 in
theorem ints_write (B : Nat) (id : Int) (w : World) (h : w.cell? ⟨B, 5, none⟩ = some (.slice none 0 0)) :
  Calls Tryz.prog 60 #[.pointer (some ⟨B, 0, none⟩), .int .i64 id] w fun en w' => en = .returned (.int .i64 id) ∧ w' = w := by
 go_enter Tryz.func60, Tryz.ntmps60
 go_wp2
 refine wp_loop_rounds 1 ?_
 rw [rounds_succ]
 go_wp2
 go_ret
 exact ⟨rfl, rfl⟩
set_option maxHeartbeats 400000 in
theorem ints_hold (B : Nat) (id : Int) (w : World) (h : w.cell? ⟨B, 5, none⟩ = some (.slice none 0 0)) :
  Calls Tryz.prog 73 #[.pointer (some ⟨B, 0, none⟩), .int .i64 id] w fun en w' => en = .returned (.tuple #[.int .i64 id, .bool true]) ∧ w' = w := by
 go_enter Tryz.func73, Tryz.ntmps73
 go_wp2
 refine wp_loop_rounds 1 ?_
 rw [rounds_succ]
 go_wp2
 go_ret2
 exact ⟨rfl, rfl⟩
set_option maxHeartbeats 400000 in
theorem ints_grow (B : Nat) (id t : Int) (w : World) (h : w.cell? ⟨B, 5, none⟩ = some (.slice none 0 0)) :
  Calls Tryz.prog 86 #[.pointer (some ⟨B, 0, none⟩), .int .i64 id, .int .i64 t] w fun en w' => en = .returned (.int .i64 id) ∧ w' = w := by
 go_enter Tryz.func86, Tryz.ntmps86
 go_wp2
 refine wp_loop_rounds 1 ?_
 rw [rounds_succ]
 go_wp2
 go_ret
 exact ⟨rfl, rfl⟩
set_option maxHeartbeats 400000 in
theorem texts_untouched (B : Nat) (w : World) (h : w.cell? ⟨B, 8, none⟩ = some (.slice none 0 0)) :
  Calls Tryz.prog 48 #[.pointer (some ⟨B, 0, none⟩)] w fun en w' => en = .returned (.bool true) ∧ w' = w := by
 go_enter Tryz.func48, Tryz.ntmps48
 go_wp2
 refine wp_loop_rounds 1 ?_
 rw [rounds_succ]
 go_wp2
 go_ret
 exact ⟨rfl, rfl⟩
set_option maxHeartbeats 400000 in
theorem texts_write (B : Nat) (id : Int) (w : World) (h : w.cell? ⟨B, 8, none⟩ = some (.slice none 0 0)) :
  Calls Tryz.prog 61 #[.pointer (some ⟨B, 0, none⟩), .int .i64 id] w fun en w' => en = .returned (.int .i64 id) ∧ w' = w := by
 go_enter Tryz.func61, Tryz.ntmps61
 go_wp2
 refine wp_loop_rounds 1 ?_
 rw [rounds_succ]
 go_wp2
 go_ret
 exact ⟨rfl, rfl⟩
set_option maxHeartbeats 400000 in
theorem texts_hold (B : Nat) (id : Int) (w : World) (h : w.cell? ⟨B, 8, none⟩ = some (.slice none 0 0)) :
  Calls Tryz.prog 74 #[.pointer (some ⟨B, 0, none⟩), .int .i64 id] w fun en w' => en = .returned (.tuple #[.int .i64 id, .bool true]) ∧ w' = w := by
 go_enter Tryz.func74, Tryz.ntmps74
 go_wp2
 refine wp_loop_rounds 1 ?_
 rw [rounds_succ]
 go_wp2
 go_ret2
 exact ⟨rfl, rfl⟩
set_option maxHeartbeats 400000 in
theorem texts_grow (B : Nat) (id t : Int) (w : World) (h : w.cell? ⟨B, 8, none⟩ = some (.slice none 0 0)) :
  Calls Tryz.prog 87 #[.pointer (some ⟨B, 0, none⟩), .int .i64 id, .int .i64 t] w fun en w' => en = .returned (.int .i64 id) ∧ w' = w := by
 go_enter Tryz.func87, Tryz.ntmps87
 go_wp2
 refine wp_loop_rounds 1 ?_
 rw [rounds_succ]
 go_wp2
 go_ret
 exact ⟨rfl, rfl⟩
set_option maxHeartbeats 400000 in
theorem byteLists_untouched (B : Nat) (w : World) (h : w.cell? ⟨B, 11, none⟩ = some (.slice none 0 0)) :
  Calls Tryz.prog 49 #[.pointer (some ⟨B, 0, none⟩)] w fun en w' => en = .returned (.bool true) ∧ w' = w := by
 go_enter Tryz.func49, Tryz.ntmps49
 go_wp2
 refine wp_loop_rounds 1 ?_
 rw [rounds_succ]
 go_wp2
 go_ret
 exact ⟨rfl, rfl⟩
set_option maxHeartbeats 400000 in
theorem byteLists_write (B : Nat) (id : Int) (w : World) (h : w.cell? ⟨B, 11, none⟩ = some (.slice none 0 0)) :
  Calls Tryz.prog 62 #[.pointer (some ⟨B, 0, none⟩), .int .i64 id] w fun en w' => en = .returned (.int .i64 id) ∧ w' = w := by
 go_enter Tryz.func62, Tryz.ntmps62
 go_wp2
 refine wp_loop_rounds 1 ?_
 rw [rounds_succ]
 go_wp2
 go_ret
 exact ⟨rfl, rfl⟩
set_option maxHeartbeats 400000 in
theorem byteLists_hold (B : Nat) (id : Int) (w : World) (h : w.cell? ⟨B, 11, none⟩ = some (.slice none 0 0)) :
  Calls Tryz.prog 75 #[.pointer (some ⟨B, 0, none⟩), .int .i64 id] w fun en w' => en = .returned (.tuple #[.int .i64 id, .bool true]) ∧ w' = w := by
 go_enter Tryz.func75, Tryz.ntmps75
 go_wp2
 refine wp_loop_rounds 1 ?_
 rw [rounds_succ]
 go_wp2
 go_ret2
 exact ⟨rfl, rfl⟩
set_option maxHeartbeats 400000 in
theorem byteLists_grow (B : Nat) (id t : Int) (w : World) (h : w.cell? ⟨B, 11, none⟩ = some (.slice none 0 0)) :
  Calls Tryz.prog 88 #[.pointer (some ⟨B, 0, none⟩), .int .i64 id, .int .i64 t] w fun en w' => en = .returned (.int .i64 id) ∧ w' = w := by
 go_enter Tryz.func88, Tryz.ntmps88
 go_wp2
 refine wp_loop_rounds 1 ?_
 rw [rounds_succ]
 go_wp2
 go_ret
 exact ⟨rfl, rfl⟩
set_option maxHeartbeats 400000 in
theorem intLists_untouched (B : Nat) (w : World) (h : w.cell? ⟨B, 14, none⟩ = some (.slice none 0 0)) :
  Calls Tryz.prog 50 #[.pointer (some ⟨B, 0, none⟩)] w fun en w' => en = .returned (.bool true) ∧ w' = w := by
 go_enter Tryz.func50, Tryz.ntmps50
 go_wp2
 refine wp_loop_rounds 1 ?_
 rw [rounds_succ]
 go_wp2
 go_ret
 exact ⟨rfl, rfl⟩
set_option maxHeartbeats 400000 in
theorem intLists_write (B : Nat) (id : Int) (w : World) (h : w.cell? ⟨B, 14, none⟩ = some (.slice none 0 0)) :
  Calls Tryz.prog 63 #[.pointer (some ⟨B, 0, none⟩), .int .i64 id] w fun en w' => en = .returned (.int .i64 id) ∧ w' = w := by
 go_enter Tryz.func63, Tryz.ntmps63
 go_wp2
 refine wp_loop_rounds 1 ?_
 rw [rounds_succ]
 go_wp2
 go_ret
 exact ⟨rfl, rfl⟩
set_option maxHeartbeats 400000 in
theorem intLists_hold (B : Nat) (id : Int) (w : World) (h : w.cell? ⟨B, 14, none⟩ = some (.slice none 0 0)) :
  Calls Tryz.prog 76 #[.pointer (some ⟨B, 0, none⟩), .int .i64 id] w fun en w' => en = .returned (.tuple #[.int .i64 id, .bool true]) ∧ w' = w := by
 go_enter Tryz.func76, Tryz.ntmps76
 go_wp2
 refine wp_loop_rounds 1 ?_
 rw [rounds_succ]
 go_wp2
 go_ret2
 exact ⟨rfl, rfl⟩
set_option maxHeartbeats 400000 in
theorem intLists_grow (B : Nat) (id t : Int) (w : World) (h : w.cell? ⟨B, 14, none⟩ = some (.slice none 0 0)) :
  Calls Tryz.prog 89 #[.pointer (some ⟨B, 0, none⟩), .int .i64 id, .int .i64 t] w fun en w' => en = .returned (.int .i64 id) ∧ w' = w := by
 go_enter Tryz.func89, Tryz.ntmps89
 go_wp2
 refine wp_loop_rounds 1 ?_
 rw [rounds_succ]
 go_wp2
 go_ret
 exact ⟨rfl, rfl⟩
set_option maxHeartbeats 400000 in
theorem pairs_untouched (B : Nat) (w : World) (h : w.cell? ⟨B, 17, none⟩ = some (.slice none 0 0)) :
  Calls Tryz.prog 51 #[.pointer (some ⟨B, 0, none⟩)] w fun en w' => en = .returned (.bool true) ∧ w' = w := by
 go_enter Tryz.func51, Tryz.ntmps51
 go_wp2
 refine wp_loop_rounds 1 ?_
 rw [rounds_succ]
 go_wp2
 go_ret
 exact ⟨rfl, rfl⟩
set_option maxHeartbeats 400000 in
theorem pairs_write (B : Nat) (id : Int) (w : World) (h : w.cell? ⟨B, 17, none⟩ = some (.slice none 0 0)) :
  Calls Tryz.prog 64 #[.pointer (some ⟨B, 0, none⟩), .int .i64 id] w fun en w' => en = .returned (.int .i64 id) ∧ w' = w := by
 go_enter Tryz.func64, Tryz.ntmps64
 go_wp2
 refine wp_loop_rounds 1 ?_
 rw [rounds_succ]
 go_wp2
 go_ret
 exact ⟨rfl, rfl⟩
set_option maxHeartbeats 400000 in
theorem pairs_hold (B : Nat) (id : Int) (w : World) (h : w.cell? ⟨B, 17, none⟩ = some (.slice none 0 0)) :
  Calls Tryz.prog 77 #[.pointer (some ⟨B, 0, none⟩), .int .i64 id] w fun en w' => en = .returned (.tuple #[.int .i64 id, .bool true]) ∧ w' = w := by
 go_enter Tryz.func77, Tryz.ntmps77
 go_wp2
 refine wp_loop_rounds 1 ?_
 rw [rounds_succ]
 go_wp2
 go_ret2
 exact ⟨rfl, rfl⟩
set_option maxHeartbeats 400000 in
theorem pairs_grow (B : Nat) (id t : Int) (w : World) (h : w.cell? ⟨B, 17, none⟩ = some (.slice none 0 0)) :
  Calls Tryz.prog 90 #[.pointer (some ⟨B, 0, none⟩), .int .i64 id, .int .i64 t] w fun en w' => en = .returned (.int .i64 id) ∧ w' = w := by
 go_enter Tryz.func90, Tryz.ntmps90
 go_wp2
 refine wp_loop_rounds 1 ?_
 rw [rounds_succ]
 go_wp2
 go_ret
 exact ⟨rfl, rfl⟩
set_option maxHeartbeats 400000 in
theorem kids_untouched (B : Nat) (w : World) (h : w.cell? ⟨B, 23, none⟩ = some (.slice none 0 0)) :
  Calls Tryz.prog 53 #[.pointer (some ⟨B, 0, none⟩)] w fun en w' => en = .returned (.bool true) ∧ w' = w := by
 go_enter Tryz.func53, Tryz.ntmps53
 go_wp2
 refine wp_loop_rounds 1 ?_
 rw [rounds_succ]
 go_wp2
 go_ret
 exact ⟨rfl, rfl⟩
set_option maxHeartbeats 400000 in
theorem kids_write (B : Nat) (id : Int) (w : World) (h : w.cell? ⟨B, 23, none⟩ = some (.slice none 0 0)) :
  Calls Tryz.prog 66 #[.pointer (some ⟨B, 0, none⟩), .int .i64 id] w fun en w' => en = .returned (.int .i64 id) ∧ w' = w := by
 go_enter Tryz.func66, Tryz.ntmps66
 go_wp2
 refine wp_loop_rounds 1 ?_
 rw [rounds_succ]
 go_wp2
 go_ret
 exact ⟨rfl, rfl⟩
set_option maxHeartbeats 400000 in
theorem kids_hold (B : Nat) (id : Int) (w : World) (h : w.cell? ⟨B, 23, none⟩ = some (.slice none 0 0)) :
  Calls Tryz.prog 79 #[.pointer (some ⟨B, 0, none⟩), .int .i64 id] w fun en w' => en = .returned (.tuple #[.int .i64 id, .bool true]) ∧ w' = w := by
 go_enter Tryz.func79, Tryz.ntmps79
 go_wp2
 refine wp_loop_rounds 1 ?_
 rw [rounds_succ]
 go_wp2
 go_ret2
 exact ⟨rfl, rfl⟩
set_option maxHeartbeats 400000 in
theorem kids_grow (B : Nat) (id t : Int) (w : World) (h : w.cell? ⟨B, 23, none⟩ = some (.slice none 0 0)) :
  Calls Tryz.prog 92 #[.pointer (some ⟨B, 0, none⟩), .int .i64 id, .int .i64 t] w fun en w' => en = .returned (.int .i64 id) ∧ w' = w := by
 go_enter Tryz.func92, Tryz.ntmps92
 go_wp2
 refine wp_loop_rounds 1 ?_
 rw [rounds_succ]
 go_wp2
 go_ret
 exact ⟨rfl, rfl⟩
set_option maxHeartbeats 400000 in
theorem nodes_untouched (B : Nat) (w : World) (h : w.cell? ⟨B, 26, none⟩ = some (.slice none 0 0)) :
  Calls Tryz.prog 54 #[.pointer (some ⟨B, 0, none⟩)] w fun en w' => en = .returned (.bool true) ∧ w' = w := by
 go_enter Tryz.func54, Tryz.ntmps54
 go_wp2
 refine wp_loop_rounds 1 ?_
 rw [rounds_succ]
 go_wp2
 go_ret
 exact ⟨rfl, rfl⟩
set_option maxHeartbeats 400000 in
theorem nodes_write (B : Nat) (id : Int) (w : World) (h : w.cell? ⟨B, 26, none⟩ = some (.slice none 0 0)) :
  Calls Tryz.prog 67 #[.pointer (some ⟨B, 0, none⟩), .int .i64 id] w fun en w' => en = .returned (.int .i64 id) ∧ w' = w := by
 go_enter Tryz.func67, Tryz.ntmps67
 go_wp2
 refine wp_loop_rounds 1 ?_
 rw [rounds_succ]
 go_wp2
 go_ret
 exact ⟨rfl, rfl⟩
set_option maxHeartbeats 400000 in
theorem nodes_hold (B : Nat) (id : Int) (w : World) (h : w.cell? ⟨B, 26, none⟩ = some (.slice none 0 0)) :
  Calls Tryz.prog 80 #[.pointer (some ⟨B, 0, none⟩), .int .i64 id] w fun en w' => en = .returned (.tuple #[.int .i64 id, .bool true]) ∧ w' = w := by
 go_enter Tryz.func80, Tryz.ntmps80
 go_wp2
 refine wp_loop_rounds 1 ?_
 rw [rounds_succ]
 go_wp2
 go_ret2
 exact ⟨rfl, rfl⟩
set_option maxHeartbeats 400000 in
theorem nodes_grow (B : Nat) (id t : Int) (w : World) (h : w.cell? ⟨B, 26, none⟩ = some (.slice none 0 0)) :
  Calls Tryz.prog 93 #[.pointer (some ⟨B, 0, none⟩), .int .i64 id, .int .i64 t] w fun en w' => en = .returned (.int .i64 id) ∧ w' = w := by
 go_enter Tryz.func93, Tryz.ntmps93
 go_wp2
 refine wp_loop_rounds 1 ?_
 rw [rounds_succ]
 go_wp2
 go_ret
 exact ⟨rfl, rfl⟩
set_option maxHeartbeats 400000 in
theorem writes_untouched (B : Nat) (w : World) (h : w.cell? ⟨B, 29, none⟩ = some (.slice none 0 0)) :
  Calls Tryz.prog 55 #[.pointer (some ⟨B, 0, none⟩)] w fun en w' => en = .returned (.bool true) ∧ w' = w := by
 go_enter Tryz.func55, Tryz.ntmps55
 go_wp2
 refine wp_loop_rounds 1 ?_
 rw [rounds_succ]
 go_wp2
 go_ret
 exact ⟨rfl, rfl⟩
set_option maxHeartbeats 400000 in
theorem writes_write (B : Nat) (id : Int) (w : World) (h : w.cell? ⟨B, 29, none⟩ = some (.slice none 0 0)) :
  Calls Tryz.prog 68 #[.pointer (some ⟨B, 0, none⟩), .int .i64 id] w fun en w' => en = .returned (.int .i64 id) ∧ w' = w := by
 go_enter Tryz.func68, Tryz.ntmps68
 go_wp2
 refine wp_loop_rounds 1 ?_
 rw [rounds_succ]
 go_wp2
 go_ret
 exact ⟨rfl, rfl⟩
set_option maxHeartbeats 400000 in
theorem writes_hold (B : Nat) (id : Int) (w : World) (h : w.cell? ⟨B, 29, none⟩ = some (.slice none 0 0)) :
  Calls Tryz.prog 81 #[.pointer (some ⟨B, 0, none⟩), .int .i64 id] w fun en w' => en = .returned (.tuple #[.int .i64 id, .bool true]) ∧ w' = w := by
 go_enter Tryz.func81, Tryz.ntmps81
 go_wp2
 refine wp_loop_rounds 1 ?_
 rw [rounds_succ]
 go_wp2
 go_ret2
 exact ⟨rfl, rfl⟩
set_option maxHeartbeats 400000 in
theorem writes_grow (B : Nat) (id t : Int) (w : World) (h : w.cell? ⟨B, 29, none⟩ = some (.slice none 0 0)) :
  Calls Tryz.prog 94 #[.pointer (some ⟨B, 0, none⟩), .int .i64 id, .int .i64 t] w fun en w' => en = .returned (.int .i64 id) ∧ w' = w := by
 go_enter Tryz.func94, Tryz.ntmps94
 go_wp2
 refine wp_loop_rounds 1 ?_
 rw [rounds_succ]
 go_wp2
 go_ret
 exact ⟨rfl, rfl⟩
set_option maxHeartbeats 400000 in
theorem changes_untouched (B : Nat) (w : World) (h : w.cell? ⟨B, 32, none⟩ = some (.slice none 0 0)) :
  Calls Tryz.prog 56 #[.pointer (some ⟨B, 0, none⟩)] w fun en w' => en = .returned (.bool true) ∧ w' = w := by
 go_enter Tryz.func56, Tryz.ntmps56
 go_wp2
 refine wp_loop_rounds 1 ?_
 rw [rounds_succ]
 go_wp2
 go_ret
 exact ⟨rfl, rfl⟩
set_option maxHeartbeats 400000 in
theorem changes_write (B : Nat) (id : Int) (w : World) (h : w.cell? ⟨B, 32, none⟩ = some (.slice none 0 0)) :
  Calls Tryz.prog 69 #[.pointer (some ⟨B, 0, none⟩), .int .i64 id] w fun en w' => en = .returned (.int .i64 id) ∧ w' = w := by
 go_enter Tryz.func69, Tryz.ntmps69
 go_wp2
 refine wp_loop_rounds 1 ?_
 rw [rounds_succ]
 go_wp2
 go_ret
 exact ⟨rfl, rfl⟩
set_option maxHeartbeats 400000 in
theorem changes_hold (B : Nat) (id : Int) (w : World) (h : w.cell? ⟨B, 32, none⟩ = some (.slice none 0 0)) :
  Calls Tryz.prog 82 #[.pointer (some ⟨B, 0, none⟩), .int .i64 id] w fun en w' => en = .returned (.tuple #[.int .i64 id, .bool true]) ∧ w' = w := by
 go_enter Tryz.func82, Tryz.ntmps82
 go_wp2
 refine wp_loop_rounds 1 ?_
 rw [rounds_succ]
 go_wp2
 go_ret2
 exact ⟨rfl, rfl⟩
set_option maxHeartbeats 400000 in
theorem changes_grow (B : Nat) (id t : Int) (w : World) (h : w.cell? ⟨B, 32, none⟩ = some (.slice none 0 0)) :
  Calls Tryz.prog 95 #[.pointer (some ⟨B, 0, none⟩), .int .i64 id, .int .i64 t] w fun en w' => en = .returned (.int .i64 id) ∧ w' = w := by
 go_enter Tryz.func95, Tryz.ntmps95
 go_wp2
 refine wp_loop_rounds 1 ?_
 rw [rounds_succ]
 go_wp2
 go_ret
 exact ⟨rfl, rfl⟩
set_option maxHeartbeats 400000 in
theorem fates_untouched (B : Nat) (w : World) (h : w.cell? ⟨B, 35, none⟩ = some (.slice none 0 0)) :
  Calls Tryz.prog 57 #[.pointer (some ⟨B, 0, none⟩)] w fun en w' => en = .returned (.bool true) ∧ w' = w := by
 go_enter Tryz.func57, Tryz.ntmps57
 go_wp2
 refine wp_loop_rounds 1 ?_
 rw [rounds_succ]
 go_wp2
 go_ret
 exact ⟨rfl, rfl⟩
set_option maxHeartbeats 400000 in
theorem fates_write (B : Nat) (id : Int) (w : World) (h : w.cell? ⟨B, 35, none⟩ = some (.slice none 0 0)) :
  Calls Tryz.prog 70 #[.pointer (some ⟨B, 0, none⟩), .int .i64 id] w fun en w' => en = .returned (.int .i64 id) ∧ w' = w := by
 go_enter Tryz.func70, Tryz.ntmps70
 go_wp2
 refine wp_loop_rounds 1 ?_
 rw [rounds_succ]
 go_wp2
 go_ret
 exact ⟨rfl, rfl⟩
set_option maxHeartbeats 400000 in
theorem fates_hold (B : Nat) (id : Int) (w : World) (h : w.cell? ⟨B, 35, none⟩ = some (.slice none 0 0)) :
  Calls Tryz.prog 83 #[.pointer (some ⟨B, 0, none⟩), .int .i64 id] w fun en w' => en = .returned (.tuple #[.int .i64 id, .bool true]) ∧ w' = w := by
 go_enter Tryz.func83, Tryz.ntmps83
 go_wp2
 refine wp_loop_rounds 1 ?_
 rw [rounds_succ]
 go_wp2
 go_ret2
 exact ⟨rfl, rfl⟩
set_option maxHeartbeats 400000 in
theorem fates_grow (B : Nat) (id t : Int) (w : World) (h : w.cell? ⟨B, 35, none⟩ = some (.slice none 0 0)) :
  Calls Tryz.prog 96 #[.pointer (some ⟨B, 0, none⟩), .int .i64 id, .int .i64 t] w fun en w' => en = .returned (.int .i64 id) ∧ w' = w := by
 go_enter Tryz.func96, Tryz.ntmps96
 go_wp2
 refine wp_loop_rounds 1 ?_
 rw [rounds_succ]
 go_wp2
 go_ret
 exact ⟨rfl, rfl⟩
set_option maxHeartbeats 400000 in
theorem ops_untouched (B : Nat) (w : World) (h : w.cell? ⟨B, 38, none⟩ = some (.slice none 0 0)) :
  Calls Tryz.prog 58 #[.pointer (some ⟨B, 0, none⟩)] w fun en w' => en = .returned (.bool true) ∧ w' = w := by
 go_enter Tryz.func58, Tryz.ntmps58
 go_wp2
 refine wp_loop_rounds 1 ?_
 rw [rounds_succ]
 go_wp2
 go_ret
 exact ⟨rfl, rfl⟩
set_option maxHeartbeats 400000 in
theorem ops_write (B : Nat) (id : Int) (w : World) (h : w.cell? ⟨B, 38, none⟩ = some (.slice none 0 0)) :
  Calls Tryz.prog 71 #[.pointer (some ⟨B, 0, none⟩), .int .i64 id] w fun en w' => en = .returned (.int .i64 id) ∧ w' = w := by
 go_enter Tryz.func71, Tryz.ntmps71
 go_wp2
 refine wp_loop_rounds 1 ?_
 rw [rounds_succ]
 go_wp2
 go_ret
 exact ⟨rfl, rfl⟩
set_option maxHeartbeats 400000 in
theorem ops_hold (B : Nat) (id : Int) (w : World) (h : w.cell? ⟨B, 38, none⟩ = some (.slice none 0 0)) :
  Calls Tryz.prog 84 #[.pointer (some ⟨B, 0, none⟩), .int .i64 id] w fun en w' => en = .returned (.tuple #[.int .i64 id, .bool true]) ∧ w' = w := by
 go_enter Tryz.func84, Tryz.ntmps84
 go_wp2
 refine wp_loop_rounds 1 ?_
 rw [rounds_succ]
 go_wp2
 go_ret2
 exact ⟨rfl, rfl⟩
set_option maxHeartbeats 400000 in
theorem ops_grow (B : Nat) (id t : Int) (w : World) (h : w.cell? ⟨B, 38, none⟩ = some (.slice none 0 0)) :
  Calls Tryz.prog 97 #[.pointer (some ⟨B, 0, none⟩), .int .i64 id, .int .i64 t] w fun en w' => en = .returned (.int .i64 id) ∧ w' = w := by
 go_enter Tryz.func97, Tryz.ntmps97
 go_wp2
 refine wp_loop_rounds 1 ?_
 rw [rounds_succ]
 go_wp2
 go_ret
 exact ⟨rfl, rfl⟩
end Go.Proofs.YtcdkkhbkicejiaaGreatDoor
