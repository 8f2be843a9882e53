import Derived.Test.YtedpeggdbedmiaaGreatDoorQ1
import Derived.Laws.BytesArg
import Derived.Laws.AppendOwnNone
import Derived.Test.YtedpeggdbedmiaaGreatDoorRows
namespace Go.Proofs.YtedpeggdbedmiaaGreatDoor
open Go.RowKit
theorem info_u8 : (Tryz.prog.info? 5).map (fun i => (i.zero, i.size, i.bytes)) = some (some (.int .u8 0), 1, 1) := by kernel_rfl
theorem conv_str {w : World} {ao : Option Addr} {n cap : Nat} {zs : List Int} (hb : Byt w ao n cap zs) :
  (convert 47 9 (.slice ao n cap)).run Tryz.prog w = .ok (.string (strOfNums zs)) w := by
 cases ao with
 | none =>
  obtain ⟨rfl, rfl⟩ := hb.nil rfl
  have : zs = [] := List.length_eq_zero_iff.1 hb.len
  subst this
  exact run_convert_bytes_nil w 47 5 Tryz.underlying47 Tryz.underlying5 0 0 9 Tryz.underlying9
 | some ad =>
  rw [run_convert_bytes_string w 47 9 5 _ n cap Tryz.underlying47 Tryz.underlying5 Tryz.underlying9]
  have hl : (loadCells ad n).run Tryz.prog w = .ok (zs.map (Value.int .u8)).toArray w := by
   have := run_loadCells_list (P := Tryz.prog) w ad (zs.map (Value.int .u8)) (hb.cells ad rfl)
   rwa [List.length_map, hb.len] at this
  rw [run_bytesToString w ad n cap zs hl, foldl_push_bytes]
  simp [strOfNums]
set_option maxHeartbeats 400000 in
theorem same_yes (ao bo : Option Addr) (n m c d : Nat) (za zb : List Int) (w : World) (ha : Byt w ao n c za) (hb : Byt w bo m d zb) (e : za = zb) :
  Calls Tryz.prog 16 #[.slice ao n c, .slice bo m d] w fun en w' => en = .returned (.bool true) ∧ w' = w := by
 subst e
 have h1 := conv_str ha
 have h2 := conv_str hb
 clear ha hb
 go_enter Tryz.func16, Tryz.ntmps16
 go_wp2
 go_ret
 exact ⟨rfl, rfl⟩
theorem Byt.heap {w w' : World} {ao : Option Addr} {n cap : Nat} {zs : List Int} (h : Byt w ao n cap zs) (e : w'.heap = w.heap) : Byt w' ao n cap zs :=
 ⟨h.len, h.nil, fun ad had j u hu => (World.cell?_of_block (by rw [e])).trans (h.cells ad had j u hu)⟩
set_option maxHeartbeats 400000 in
theorem refBytes_any (ao : Option Addr) (n cap : Nat) (zs : List Int) (w : World) (hb : Byt w ao n cap zs) (hn : n ≤ 140737488351232) :
  Calls Tryz.prog 14 #[.slice ao n cap] w fun e w' =>
   e = .returned (.slice (some ⟨w.heap.size, 0, none⟩) n n) ∧
   w'.ownsRow w.heap.size 5 1 (.slice (some ⟨w.heap.size, 0, none⟩) n n) n (zs.map (Value.int .u8)) ∧ w.grownBy w' none ∧ w.heap.size < w'.heap.size := by
 obtain ⟨i0, hi, hz0, hz1, hz2⟩ := info_parts info_u8
 have HB : Hid (Byt w ao n cap zs) := hb
 clear hb
 go_enter Tryz.func14, Tryz.ntmps14
 go_wp2_with (at_make; refine wpList_make_own _ rfl _ _ 47 rfl w.heap.size 5 i0 (.int .u8 0) 1 Tryz.underlying47 hi hz0 hz1 _ _ _ n rfl rfl rfl ?b2 ?b3 (Nat.le_refl _) ?_)
 case b2 => rw [hz2]; omega
 case b3 => unfold maxLen; omega
 intro w0 hown0 hgrow0
 have hb0 := HB.out.keptN hgrow0
 go_wp2_with (at_builtin; refine wpList_append_fits_any _ rfl _ _ 47 rfl w.heap.size 5 i0 1 Tryz.underlying47 hi hz1 w.heap.size 0 n _ rfl hown0 _ n _ (zs.map (Value.int .u8)) rfl (by rw [List.length_map, hb0.len, Nat.mul_one]) hb0.nil hb0.cells (ints_oneCell _ _) (by omega) ?_)
 intro w1 hown1 hgrow1
 have hg : w.grownBy w1 none := ⟨hgrow1.os.trans hgrow0.os, hgrow1.tape.trans hgrow0.tape, hgrow1.output.trans hgrow0.output, Nat.le_trans hgrow0.size hgrow1.size,
  fun k hk _ => (hgrow1.block k (by have := hgrow0.size; omega) (by intro e; have := Option.some.inj e; omega)).trans (hgrow0.block k hk (by simp))⟩
 have hs : w.heap.size < w1.heap.size := (hown1.lt w.heap.size rfl).2
 go_wp2
 go_ret
 exact ⟨rfl, hown1, hg, hs⟩
structure Qt (w w' : World) : Prop where
 os : w'.os = w.os
 tape : w'.tape = w.tape
 output : w'.output = w.output
 heap : w'.heap = w.heap
theorem Qt.refl (w : World) : Qt w w := ⟨rfl, rfl, rfl, rfl⟩
theorem Qt.drew {w w' : World} (h : Qt w w') : Qt w w'.drew := ⟨h.os, h.tape, h.output, h.heap⟩
theorem Qt.trans {a b c : World} (h : Qt a b) (k : Qt b c) : Qt a c := ⟨k.os.trans h.os, k.tape.trans h.tape, k.output.trans h.output, k.heap.trans h.heap⟩
theorem Qt.grown {w w' : World} (h : Qt w w') (row : Option Nat) : w.grownBy w' row := ⟨h.os, h.tape, h.output, by rw [h.heap]; exact Nat.le_refl _, fun _ _ _ => by rw [h.heap]⟩
theorem Qt.cell {w w' : World} (h : Qt w w') (a : Addr) : w'.cell? a = w.cell? a := World.cell?_of_block (by rw [h.heap])
theorem grown_trans {a b c : World} {row : Option Nat} (h : a.grownBy b row) (k : b.grownBy c row) : a.grownBy c row :=
 ⟨k.os.trans h.os, k.tape.trans h.tape, k.output.trans h.output, Nat.le_trans h.size k.size, fun i hi hne => (k.block i (Nat.lt_of_lt_of_le hi h.size) hne).trans (h.block i hi hne)⟩
theorem grown_any {a b : World} {row : Option Nat} (h : a.grownBy b none) : a.grownBy b row := ⟨h.os, h.tape, h.output, h.size, fun i hi _ => h.block i hi (by simp)⟩
theorem Qt.drewN (w : World) (n : Nat) : Qt w (w.drewN n) := ⟨rfl, rfl, rfl, rfl⟩
theorem hid_intro {p : Prop} (h : p) : Hid p := h
theorem grown_new {a b c : World} {R : Nat} (h : a.grownBy b none) (k : b.grownBy c (some R)) (hR : a.heap.size ≤ R) : a.grownBy c none :=
 ⟨k.os.trans h.os, k.tape.trans h.tape, k.output.trans h.output, Nat.le_trans h.size k.size,
  fun i hi _ => (k.block i (Nat.lt_of_lt_of_le hi h.size) (by intro e; have := Option.some.inj e; omega)).trans (h.block i hi (by simp))⟩
structure Ow (w : World) (g cap : Nat) (zs : List Int) : Prop where
 ex : ∃ cur : Array Value, w.heap[g]? = some (.cells cur 5 (0, 0)) ∧ cur.size = cap ∧ ∀ j, j < zs.length → cur[j]? = some (.int .u8 (zs.getD j 0))
 le : zs.length ≤ cap
 max : cap ≤ 9223372036854775807
theorem Ow.of_owns {w : World} {base g n cap : Nat} {zs : List Int} (h : w.ownsRow base 5 1 (.slice (some ⟨g, 0, none⟩) n cap) n (zs.map (Value.int .u8))) : Ow w g cap zs ∧ zs.length = n ∧ base ≤ g ∧ g < w.heap.size := by
 have hl : zs.length = n := by have := h.1; simpa using this
 have hlt := h.lt g rfl
 rcases h.2 with ⟨e, _⟩ | ⟨g', cap', cur, hv, hb, hg, hc, hm, hs, ht⟩
 ·cases e
 ·injection hv with e1 _ e3
  simp only [Option.some.injEq, Addr.mk.injEq] at e1
  obtain ⟨rfl, _⟩ := e1
  subst e3
  refine ⟨⟨⟨cur, hg, by simpa using hs, fun j hj => ?_⟩, by omega, by unfold maxLen at hm; omega⟩, hl, hlt⟩
  have e : (cur.toList.take (n * 1))[j]? = (zs.map (Value.int .u8))[j]? := by rw [ht]
  rw [List.getElem?_take, if_pos (by omega), Array.getElem?_toList] at e
  rw [e]
  simp [List.getD, List.getElem?_eq_getElem hj]
theorem Ow.cell {w : World} {g cap : Nat} {zs : List Int} (h : Ow w g cap zs) {j : Nat} (hj : j < zs.length) : w.cell? ⟨g, j, none⟩ = some (.int .u8 (zs.getD j 0)) := by
 obtain ⟨cur, h1, _, h3⟩ := h.ex
 rw [cell_of_row w g j _ _ _ h1]; exact h3 j hj
theorem Ow.frozen {w : World} {g cap : Nat} {zs : List Int} (h : Ow w g cap zs) (j : Nat) : w.frozen? ⟨g, j, none⟩ = false := by
 obtain ⟨cur, h1, _, _⟩ := h.ex
 exact frozen_of_row w g j _ _ h1
theorem Ow.lt {w : World} {g cap : Nat} {zs : List Int} (h : Ow w g cap zs) : g < w.heap.size := by
 obtain ⟨cur, h1, _, _⟩ := h.ex
 exact (Array.getElem?_eq_some_iff.1 h1).1
theorem Ow.byt {w : World} {g cap : Nat} {zs : List Int} (h : Ow w g cap zs) (n : Nat) (hn : n = zs.length) : Byt w (some ⟨g, 0, none⟩) n cap zs := by
 subst hn
 exact Byt.of_cells rfl fun i hi => by rw [Nat.zero_add]; exact h.cell hi
theorem Ow.same {w w' : World} {g cap : Nat} {zs : List Int} (h : Ow w g cap zs) (e : w'.heap[g]? = w.heap[g]?) : Ow w' g cap zs := by
 obtain ⟨cur, h1, h2, h3⟩ := h.ex
 exact ⟨⟨cur, e.trans h1, h2, h3⟩, h.le, h.max⟩
theorem Ow.kept {w w' : World} {g cap : Nat} {zs : List Int} {row : Option Nat} (h : Ow w g cap zs) (hg : w.grownBy w' row) (hne : some g ≠ row) : Ow w' g cap zs := h.same (hg.block g h.lt hne)
theorem Ow.keptN {w w' : World} {g cap : Nat} {zs : List Int} (h : Ow w g cap zs) (hg : w.grownBy w' none) : Ow w' g cap zs := h.kept hg (by simp)
theorem Ow.qt {w w' : World} {g cap : Nat} {zs : List Int} (h : Ow w g cap zs) (q : Qt w w') : Ow w' g cap zs := h.same (by rw [q.heap])
theorem Ow.part {w : World} {g cap : Nat} {xs ys : List Int} (h : Ow w g cap (xs ++ ys)) : Ow w g cap xs := by
 obtain ⟨cur, h1, h2, h3⟩ := h.ex
 have := h.le
 simp at this
 refine ⟨⟨cur, h1, h2, fun j hj => ?_⟩, by omega, h.max⟩
 rw [h3 j (by simp; omega)]
 simp [List.getD, List.getElem?_append_left hj]
theorem Ow.set {w : World} {g cap : Nat} {zs : List Int} (h : Ow w g cap zs) (i : Nat) (v : Int) (_hi : i < zs.length) : Ow (w.setCell ⟨g, i, none⟩ (.int .u8 v)) g cap (zs.set i v) := by
 obtain ⟨cur, h1, h2, h3⟩ := h.ex
 refine ⟨⟨cur.setIfInBounds i (.int .u8 v), heap_setCell_same w g i cur _ _ h1, by simpa using h2, fun j hj => ?_⟩, by simpa using h.le, h.max⟩
 have hj' : j < zs.length := by simpa using hj
 have hjc : j < cur.size := by have := h.le; omega
 by_cases e : i = j
 ·subst e
  simp [List.getD, hj', hjc]
 ·rw [Array.getElem?_setIfInBounds_ne e, h3 j hj']
  simp [List.getD, e]
theorem grown_cell (w : World) (g j : Nat) (v : Value) : w.grownBy (w.setCell ⟨g, j, none⟩ v) (some g) :=
 ⟨rfl, rfl, rfl, by simp, fun k _ hk => heap_setCell_other w ⟨g, j, none⟩ k _ (fun e => hk (by simp [e]))⟩
end Go.Proofs.YtedpeggdbedmiaaGreatDoor
