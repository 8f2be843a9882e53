import Derived.Test.YthodgddoolbenaaGreatDoorQ20
import Derived.Deep.RegionHeld3
import Derived.Deep.DrawnRows
namespace Go.Proofs.YthodgddoolbenaaGreatDoor
open Go.RowKit
theorem jdg_small : ∀ {l : List Pq} {a : List Int}, jdg a l = 0 → ∀ p ∈ l, p.1.length ≤ 255 ∧ p.2.length ≤ 262144
 | [], _, _, p, hp => by cases hp
 | q :: l, a, h, p, hp => by
  simp only [jdg] at h
  split at h
  ·rename_i hf
   rcases List.mem_cons.1 hp with rfl | hp
   ·unfold flt at hf
    split at hf
    ·cases hf
    ·rename_i hh; omega
   ·exact jdg_small h p hp
  ·rename_i hf; exact absurd h hf
theorem lne_len {p : Pq} (h : p.1.length ≤ 255 ∧ p.2.length ≤ 262144) : (lne p).length ≤ 525000 := by
 have h1 := (hx_len p.1).1
 have h2 := (hx_len p.2).1
 unfold lne lnh
 simp
 omega
def hdr (n : Nat) : List UInt8 := (ttl ++ Lib.decDigits n) ++ [10]
def txi (l : List Pq) (i : Nat) : List UInt8 := hdr l.length ++ (l.take i).flatMap lne
theorem txi_all (l : List Pq) : txi l l.length = tx l := by unfold txi tx hdr; rw [List.take_length]; simp
theorem txi_snoc {l : List Pq} {i : Nat} {p : Pq} (h : l[i]? = some p) : txi l (i + 1) = txi l i ++ lne p := by
 obtain ⟨hi, e⟩ := List.getElem?_eq_some_iff.1 h
 unfold txi
 rw [List.take_succ_eq_append_getElem hi, e, List.flatMap_append]
 simp
theorem hdr_len {n : Nat} (h : n ≤ 100000000) : (hdr n).length ≤ 30 := by
 have := dec_len 9 n (by omega)
 unfold hdr ttl
 simp
 omega
theorem txi_len {l : List Pq} (hl : l.length ≤ 100000000) (h : ∀ p ∈ l, p.1.length ≤ 255 ∧ p.2.length ≤ 262144) : ∀ i, i ≤ l.length → (txi l i).length ≤ 30 + i * 525000
 | 0, _ => by unfold txi; simp; exact hdr_len hl
 | i + 1, hi => by
  have hp : l[i]? = some (l[i]'(by omega)) := List.getElem?_eq_getElem (by omega)
  rw [txi_snoc hp, List.length_append]
  have h1 := txi_len hl h i (by omega)
  have h2 := lne_len (h _ (List.getElem_mem (by omega : i < l.length)))
  omega
theorem str_cells (t : List UInt8) : Lib.strCells (tstr t) = Lib.byteCells t := rfl
theorem box_kept {w5 w7 w8 : World} {X B : Nat} {x y : Value} (h : w5.heap[X]? = some (.cells #[x, y] 54 (0, 0))) (hg : w5.grownBy w7 none) (hk : Lib.OthersKept 5 (some B) w7 w8) (hne : X ≠ B) :
  w8.cell? ⟨X, 0, none⟩ = some x ∧ w8.cell? ⟨X, 1, none⟩ = some y := by
 have h7 : w7.heap[X]? = some (.cells #[x, y] 54 (0, 0)) := (hg.block X (Array.getElem?_eq_some_iff.1 h).1 (by simp)).trans h
 have h8 := hk X _ h7 (fun e => hne (Option.some.inj e)) (fun c fz e => by cases e)
 exact ⟨by rw [Lib.cell_of_heap h8]; rfl, by rw [Lib.cell_of_heap h8]; rfl⟩
set_option maxHeartbeats 400000 in
set_option maxRecDepth 100000 in
theorem text_bad (a : Option Addr) (n c : Nat) (l : List Pq) (w : World) (h : Pm w a l) (hn : l.length = n) (hm : n ≤ 100000000) (hj : jdg [] l ≠ 0) :
  Calls Tryz.prog 15 #[.slice a n c] w fun en w' => en = .returned (.tuple #[.string ⟨#[]⟩, .int .i64 (jdg [] l)]) ∧ w.grownBy w' none := by
 have HC := hid_intro (judge_any a n c l w h hn hm)
 have g1 : ((jdg [] l) == 0) = false := by rw [beq_eq_false_iff_ne]; exact hj
 have g2 : ((jdg [] l) != 0) = true := by simp only [bne, g1]; rfl
 clear h hj
 generalize jdg [] l = e at *
 go_enter Tryz.func15, Tryz.ntmps15
 go_wp2_with fail
 refine HC.out.mono ?_
 rintro en w1 ⟨rfl, hg⟩
 have HG := hid_intro hg
 clear hg
 go_wp2
 go_ret2
 exact ⟨rfl, HG.out⟩
set_option maxHeartbeats 8000000 in
set_option maxRecDepth 100000 in
theorem text_ok (a : Option Addr) (n c : Nat) (l : List Pq) (w : World) (h : Pm w a l) (hn : l.length = n) (hm : n ≤ 100000000) (hj : jdg [] l = 0) (ht : Tzd w) :
  Calls Tryz.prog 15 #[.slice a n c] w fun en w' => en = .returned (.tuple #[.string (tstr (tx l)), .int .i64 0]) ∧ w.grownBy w' none := by
 have HC := hid_intro (judge_any a n c l w h hn hm)
 rw [hj] at HC
 have HSM := hid_intro (jdg_small hj)
 have HP := hid_intro h
 have HL := hid_intro hn
 have HT := hid_intro ht
 clear h hj ht hn
 go_enter Tryz.func15, Tryz.ntmps15
 go_wp2_with fail
 refine HC.out.mono ?_
 rintro en w1 ⟨rfl, hg⟩
 have HG1 := hid_intro hg
 have HB0 := hid_intro (Lib.fresh_isBuilder 74 5 w1)
 have ga := World.grownBy_alloc w1 (.cells #[.pointer none, .slice none 0 0] 74) none
 have HG2 := hid_intro (grown_trans hg ga)
 have HT2 := hid_intro (HT.out.keptN HG2.out)
 have hs1 := hg.size
 have hs2 : w1.heap.size ≤ (w1.alloc (.cells #[.pointer none, .slice none 0 0] 74)).heap.size := by simp
 clear hg ga HC
 go_upto_region 5 with fail
 generalize w1.alloc (.cells #[.pointer none, .slice none 0 0] 74) = w2 at *
 generalize w1.heap.size = B at *
 clear HG1
 go_wp2_with fail
 refine (itoa_call (n : Nat) (by omega) (by omega) _ HT2.out).mono ?_
 rintro en w3 ⟨rfl, k, os, hw3⟩
 have hg3 : w2.grownBy w3 none := by rw [hw3]; exact sort_grownD w2 k os
 have hb3 := HB0.out.elim (fun x => (Bld.keptN (.inl x) hg3)) (fun x => (Bld.keptN (.inr x) hg3))
 have HB3 := hid_intro hb3
 have HG3 := hid_intro (grown_trans HG2.out hg3)
 have hs3 := hg3.size
 have e1 : Lib.itoa (n : Nat) = Lib.decDigits n := by unfold Lib.itoa; rw [if_neg (by omega)]; simp
 rw [e1]
 have hdl := dec_len 9 n (by omega)
 have HH : Hid ((⟨#[99, 111, 112, 112, 105, 99, 101, 32]⟩ : ByteArray) ++ ⟨(Lib.decDigits n).toArray⟩ ++ (⟨#[10]⟩ : ByteArray) = tstr (hdr n)) := by
  show tstr ttl ++ tstr (Lib.decDigits n) ++ tstr [10] = _
  rw [tstr_app, tstr_app]; rfl
 obtain ⟨D, hD⟩ : ∃ D : ByteArray, D = ⟨(Lib.decDigits n).toArray⟩ := ⟨_, rfl⟩
 have z1 : D.size ≤ 10 := by rw [hD]; show (Lib.decDigits n).toArray.size ≤ 10; simp; exact hdl
 rw [← hD] at HH ⊢
 have z2 : ¬ (9223372036854775807 < 8 + D.size) := by omega
 have z3 : ¬ (9223372036854775807 < 8 + D.size + 1) := by omega
 clear hw3 hg3 hb3 e1 hdl hD HB0 HG2 HT2
 go_wp2_with fail
 rw [HH.out]
 refine (writeString_any B B [] (tstr (hdr n)) w3 HB3.out (by rw [tstr_size]; have := hdr_len hm; simp; omega) (by omega)).mono ?_
 rintro en w4 ⟨rfl, hb4, hbw4, _⟩
 have HB4 : Hid (Bld w4 B B (Lib.byteCells (txi l 0))) := by
  have hh : txi l 0 = hdr n := by unfold txi; rw [HL.out]; simp
  rw [hh, ← str_cells]
  exact hb4
 have HG4 : Hid (w.grownBy w4 none) := by
  have hg3 := HG3.out
  exact ⟨hbw4.os.trans hg3.os, hbw4.tape.trans hg3.tape, hbw4.output.trans hg3.output, Nat.le_trans hg3.size hbw4.size, fun k hk hn => (hbw4.block k (by omega)).trans (hg3.block k hk hn)⟩
 have hs4 : B ≤ w4.heap.size := by have := hbw4.size; omega
 have HS4 := hid_intro hs4
 have HBW := hid_intro hs1
 clear hb4 hbw4 HB3 HG3 HH z1 z2 z3 hs1 hs2 hs3 hs4
 go_wp2
 go_loopw [7, 21] (fun _ si wr => ∃ i : Nat, i ≤ n ∧ si = .int .i64 (i : Nat) ∧ Bld wr B B (Lib.byteCells (txi l i)) ∧ w.grownBy wr none ∧ B ≤ wr.heap.size) (fun _ si _ => n - (intOf si).toNat)
 case atStart => exact ⟨0, Nat.zero_le _, rfl, HB4.out, HG4.out, HS4.out⟩
 case round =>
  obtain ⟨i, hi, rfl, hb, hg, hs⟩ := hrel
  have HB := hid_intro hb
  have HG := hid_intro hg
  have HTL := hid_intro (txi_len (by rw [HL.out]; exact hm) HSM.out i (by rw [HL.out]; exact hi))
  clear hb hg HB4 HG4 HS4
  by_cases hlt : i < n
  ·obtain ⟨p, hp⟩ : ∃ p, l[i]? = some p := ⟨_, List.getElem?_eq_getElem (by have := HL.out; omega)⟩
   have HSN := hid_intro (txi_snoc hp)
   have hsm := HSM.out p (List.mem_of_getElem? hp)
   have hxl1 := (hx_len p.1).1
   have hxl2 := (hx_len p.2).1
   obtain ⟨b, off, ao, c1, bo, d1, rfl, q1, q2, q3, q4, q5, q6⟩ := HP.out.el i p hp
   obtain ⟨ky, vl⟩ := p
   simp only at q1 q2 q3 q4 q5 q6 hsm hxl1 hxl2
   have c0 := HG.out.cell q1 (by simp)
   have c2 := HG.out.cell q2 (by simp)
   obtain ⟨n1, hn1⟩ : ∃ n1, ky.length = n1 := ⟨_, rfl⟩
   obtain ⟨n2, hn2⟩ : ∃ n2, vl.length = n2 := ⟨_, rfl⟩
   rw [hn1] at c0 q3 hsm hxl1
   rw [hn2] at c2 q5 hsm hxl2
   have ga := World.grownBy_alloc wr (.cells #[.slice ao n1 c1, .slice bo n2 d1] 54) none
   have HK := hid_intro ((q3.keptN HG.out).keptN ga)
   have HV := hid_intro ((q5.keptN HG.out).keptN ga)
   have HQ4 := hid_intro q4
   have HQ6 := hid_intro q6
   have HG2 := hid_intro (grown_trans HG.out ga)
   have HB2 := hid_intro (Bld.keptN HB.out ga)
   have hs1 : B ≤ (wr.alloc (.cells #[.slice ao n1 c1, .slice bo n2 d1] 54)).heap.size := by simp; omega
   have HX0 : Hid ((wr.alloc (.cells #[.slice ao n1 c1, .slice bo n2 d1] 54)).heap[wr.heap.size]? = some (.cells #[.slice ao n1 c1, .slice bo n2 d1] 54 (0, 0))) := heap_alloc_new wr _
   have HXB : Hid (B < wr.heap.size) := HB.out.elim (fun x => x.lt) (fun x => x.lt)
   have x0 : (wr.alloc (.cells #[.slice ao n1 c1, .slice bo n2 d1] 54)).cell? ⟨wr.heap.size, 0, none⟩ = some (.slice ao n1 c1) := by simp
   have x1 : (wr.alloc (.cells #[.slice ao n1 c1, .slice bo n2 d1] 54)).cell? ⟨wr.heap.size, 1, none⟩ = some (.slice bo n2 d1) := by simp
   have HLN : Hid (tstr (hx ky) ++ (⟨#[32]⟩ : ByteArray) ++ tstr (hx vl) ++ (⟨#[10]⟩ : ByteArray) = tstr (lne (ky, vl))) := by
    show tstr (hx ky) ++ tstr [32] ++ tstr (hx vl) ++ tstr [10] = _
    rw [tstr_app, tstr_app, tstr_app]; unfold lne lnh; simp
   have HLL : Hid ((lne (ky, vl)).length ≤ 525000) := lne_len (by rw [hn1, hn2]; exact hsm)
   have z1 : (tstr (hx ky)).size ≤ 511 := by rw [tstr_size]; omega
   have z2 : (tstr (hx vl)).size ≤ 524289 := by rw [tstr_size]; omega
   have HXK := hid_intro (hex_any ao n1 c1 ky)
   have HXV := hid_intro (hex_any bo n2 d1 vl)
   clear q1 q2 q3 q4 q5 q6 hn1 hn2 ga HB hp hxl1 hxl2
   generalize tstr (hx ky) = S1 at *
   generalize tstr (hx vl) = S2 at *
   have z3 : ¬ (9223372036854775807 < S1.size + 1) := by omega
   have z4 : ¬ (9223372036854775807 < S1.size + 1 + S2.size) := by omega
   have z5 : ¬ (9223372036854775807 < S1.size + 1 + S2.size + 1) := by omega
   go_upto_region 9 with fail
   generalize wr.alloc (.cells #[.slice ao n1 c1, .slice bo n2 d1] 54) = w5 at *
   generalize wr.heap.size = X at *
   go_region_held3 (fun w' => w'.cell? ⟨X, 0, none⟩ = some (.slice ao n1 c1) ∧ w'.cell? ⟨X, 1, none⟩ = some (.slice bo n2 d1)) (first | exact ⟨x0, x1⟩ | exact T6.out | exact T7.out | exact T8.out | go_keep)
    (first
     | (go_at_call_of 16 (Value.slice ao n1 c1); refine (HXK.out w5.drew (HK.out.heap rfl) HQ4.out (by omega)).mono ?_; rintro en w6 ⟨rfl, hg6⟩; have G6 := hid_intro (grown_undrew hg6); have T6 := hid_intro (And.intro (G6.out.cell x0 (by simp)) (G6.out.cell x1 (by simp))); clear hg6)
     | (go_at_call_of 16 (Value.slice bo n2 d1); refine (HXV.out w6 (HV.out.keptN G6.out) HQ6.out (by omega)).mono ?_; rintro en w7 ⟨rfl, hg7⟩; have G7 := hid_intro (grown_trans G6.out hg7); have T7 := hid_intro (And.intro (G7.out.cell x0 (by simp)) (G7.out.cell x1 (by simp))); clear hg7)
     | (go_at_call 31; rw [HLN.out]; refine (writeString_any B B (Lib.byteCells (txi l i)) (tstr (lne (ky, vl))) w7 (Bld.keptN HB2.out G7.out) (by rw [tstr_size, Lib.byteCells_length]; have := HTL.out; have := HLL.out; omega) (by have := G7.out.size; omega)).mono ?_; rintro en w8 ⟨rfl, hb8, hbw8, hk8⟩; have B8 := hid_intro hb8; have W8 := hid_intro hbw8; have T8 := hid_intro (box_kept HX0.out G7.out hk8 (by have := HXB.out; omega)); clear hb8 hbw8 hk8))
   go_wp2
   go_roundw
   case rel =>
    have hg7 := grown_trans HG2.out G7.out
    have hw8 := W8.out
    refine ⟨i + 1, by omega, by go_num, ?_, ⟨hw8.os.trans hg7.os, hw8.tape.trans hg7.tape, hw8.output.trans hg7.output, Nat.le_trans hg7.size hw8.size, fun k hk hn => (hw8.block k (by have := HBW.out; omega)).trans (hg7.block k hk hn)⟩, by have := hw8.size; have := G7.out.size; omega⟩
    rw [HSN.out, Lib.byteCells_append]
    exact B8.out
   case measure => simp [intOf]; omega
  ·obtain rfl : i = n := by omega
   have e : txi l i = tx l := by rw [← HL.out]; exact txi_all l
   rw [e] at HB
   clear e
   go_wp2_with fail
   refine (builderString_call B B (tx l) _ HB.out hs).mono ?_
   rintro en w9 ⟨rfl, hbw9⟩
   have W9 := hid_intro hbw9
   clear hbw9
   go_wp2
   go_ret2
   have hg := HG.out
   have hw9 := W9.out
   exact ⟨rfl, ⟨hw9.os.trans hg.os, hw9.tape.trans hg.tape, hw9.output.trans hg.output, Nat.le_trans hg.size hw9.size, fun k hk hn => (hw9.block k (by have := HBW.out; omega)).trans (hg.block k hk hn)⟩⟩
def txt (l : List Pq) : List UInt8 := if jdg [] l = 0 then tx l else []
theorem text_any (a : Option Addr) (n c : Nat) (l : List Pq) (w : World) (h : Pm w a l) (hn : l.length = n) (hm : n ≤ 100000000) (ht : Tzd w) :
  Calls Tryz.prog 15 #[.slice a n c] w fun en w' => en = .returned (.tuple #[.string (tstr (txt l)), .int .i64 (jdg [] l)]) ∧ w.grownBy w' none := by
 by_cases hj : jdg [] l = 0
 ·have e : txt l = tx l := by unfold txt; rw [if_pos hj]
  rw [e, hj]
  exact text_ok a n c l w h hn hm hj ht
 ·have e : txt l = [] := by unfold txt; rw [if_neg hj]
  rw [e]
  exact text_bad a n c l w h hn hm hj
end Go.Proofs.YthodgddoolbenaaGreatDoor
