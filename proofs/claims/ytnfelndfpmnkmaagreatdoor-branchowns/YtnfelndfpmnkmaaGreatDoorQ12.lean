import Derived.Test.YtnfelndfpmnkmaaGreatDoorQ10
import Derived.Test.YtnfelndfpmnkmaaGreatDoorQ7
import Derived.Test.YtnfelndfpmnkmaaGreatDoorQ11
import Derived.Laws.CopyOwn
import Derived.Deep.RegionLaw
import Derived.Great.Walk
import Derived.Test.YtnfelndfpmnkmaaGreatDoorQ13
namespace Go.Proofs.YtnfelndfpmnkmaaGreatDoor
open Go.RowKit
def Rw (w : World) (g : Nat) (zs : List Int) : Prop := w.heap[g]? = some (.cells (zs.map (Value.int .u8)).toArray 5 (0, 0))
theorem Rw.lt {w : World} {g : Nat} {zs : List Int} (h : Rw w g zs) : g < w.heap.size := (Array.getElem?_eq_some_iff.1 h).1
theorem Rw.cell {w : World} {g : Nat} {zs : List Int} (h : Rw w g zs) (i : Nat) (hi : i < zs.length) : w.cell? ⟨g, i, none⟩ = some (.int .u8 (zs.getD i 0)) := by
 rw [cell_of_row w g i _ _ (0, 0) h]
 simp [List.getD, List.getElem?_eq_getElem hi]
theorem Rw.byt {w : World} {g : Nat} {zs : List Int} (h : Rw w g zs) (off n cap : Nat) (hn : off + n ≤ zs.length) : Byt w (some ⟨g, off, none⟩) n cap ((zs.drop off).take n) := by
 refine Byt.of_cells (by rw [List.length_take, List.length_drop]; omega) fun i hi => ?_
 rw [h.cell (off + i) (by omega)]
 simp [List.getD, hi]
theorem Rw.all {w : World} {g : Nat} {zs : List Int} (h : Rw w g zs) (n cap : Nat) (hn : n = zs.length) : Byt w (some ⟨g, 0, none⟩) n cap zs := by
 have := h.byt 0 n cap (by omega)
 rwa [List.drop_zero, List.take_of_length_le (by omega)] at this
theorem Rw.kept {w w' : World} {row : Option Nat} {g : Nat} {zs : List Int} (h : Rw w g zs) (hg : w.grownBy w' row) (hne : some g ≠ row) : Rw w' g zs := (hg.block g h.lt hne).trans h
theorem Rw.keptN {w w' : World} {g : Nat} {zs : List Int} (h : Rw w g zs) (hg : w.grownBy w' none) : Rw w' g zs := h.kept hg (by simp)
theorem Rw.of_owns {w : World} {base g n : Nat} {zs : List Int} (h : w.ownsRow base 5 1 (.slice (some ⟨g, 0, none⟩) n n) n (zs.map (Value.int .u8))) : Rw w g zs := by
 rcases h with ⟨hl, ⟨h0, _⟩ | ⟨g', cap, cur, hv, _, hg, _, _, hs, ht⟩⟩
 ·cases h0
 ·injection hv with e1 e2 e3
  injection e1 with e1
  injection e1 with e4
  subst e4 e3
  have : cur.toList = zs.map (Value.int .u8) := by
   rw [← ht, List.take_of_length_le (by simp [hs])]
  unfold Rw
  rw [hg, ← this]
theorem made (n : Nat) : (madeCells #[Value.int .u8 0] n).toList = (List.replicate n (0 : Int)).map (Value.int .u8) := by
 refine List.ext_getElem (by simp [madeCells]) fun i h1 h2 => ?_
 simp [madeCells, Nat.mod_one]
structure Ro (w w' : World) (g : Nat) (xs : List Value) : Prop where
 row : w'.heap[g]? = some (.cells xs.toArray 5 (0, 0))
 oth : ∀ k, k ≠ g → w'.heap[k]? = w.heap[k]?
 size : w'.heap.size = w.heap.size
 os : w'.os = w.os
 tape : w'.tape = w.tape
 output : w'.output = w.output
theorem Ro.cell {w w' : World} {g : Nat} {xs : List Value} (h : Ro w w' g xs) (R i : Nat) (hR : R ≠ g) : w'.cell? ⟨R, i, none⟩ = w.cell? ⟨R, i, none⟩ := World.cell?_of_block (h.oth R hR)
theorem Ro.grown {w w' : World} {g : Nat} {xs : List Value} (h : Ro w w' g xs) : w.grownBy w' (some g) :=
 ⟨h.os, h.tape, h.output, by rw [h.size]; exact Nat.le_refl _, fun k _ hne => h.oth k (fun e => hne (by rw [e]))⟩
structure Two (w w' : World) (R G : Nat) : Prop where
 os : w'.os = w.os
 tape : w'.tape = w.tape
 output : w'.output = w.output
 size : w.heap.size ≤ w'.heap.size
 block : ∀ k, k < w.heap.size → k ≠ R → k ≠ G → w'.heap[k]? = w.heap[k]?
theorem Two.trans {a b c : World} {R G : Nat} (h : Two a b R G) (k : Two b c R G) : Two a c R G :=
 ⟨k.os.trans h.os, k.tape.trans h.tape, k.output.trans h.output, Nat.le_trans h.size k.size, fun i hi h1 h2 => (k.block i (Nat.lt_of_lt_of_le hi h.size) h1 h2).trans (h.block i hi h1 h2)⟩
theorem Two.grown {w0 w w' : World} {R G : Nat} (h : Two w w' R G) (hg : w0.grownBy w none) (h1 : w0.heap.size ≤ R) (h2 : w0.heap.size ≤ G) : w0.grownBy w' none :=
 ⟨h.os.trans hg.os, h.tape.trans hg.tape, h.output.trans hg.output, Nat.le_trans hg.size h.size, fun k hk _ => (h.block k (Nat.lt_of_lt_of_le hk hg.size) (by omega) (by omega)).trans (hg.block k hk (by simp))⟩
theorem splice_map (cs zs : List Int) (p : Nat) : splice (cs.map (Value.int .u8)) p (zs.map (Value.int .u8)) = (splice cs p zs).map (Value.int .u8) := by
 simp [splice]
theorem splice_len {cs zs : List Int} {p : Nat} (h : p + zs.length ≤ cs.length) : (splice cs p zs).length = cs.length := length_splice cs p zs h
theorem splice_nil (cs : List Int) (p : Nat) : splice cs p [] = cs := by simp [splice]
theorem splice_two {cs xs ys : List Int} {p : Nat} (h : p + xs.length + ys.length ≤ cs.length) : splice (splice cs p xs) (p + xs.length) ys = splice cs p (xs ++ ys) := by
 unfold splice
 have e1 : (cs.take p ++ (xs ++ cs.drop (p + xs.length))).take (p + xs.length) = cs.take p ++ xs := by
  rw [← List.append_assoc, List.take_left' (by simp; omega)]
 have e2 : (cs.take p ++ (xs ++ cs.drop (p + xs.length))).drop (p + xs.length + ys.length) = cs.drop (p + xs.length + ys.length) := by
  rw [← List.append_assoc, ← List.drop_drop, List.drop_left' (by simp; omega), List.drop_drop]
 rw [e1, e2]
 simp [Nat.add_assoc]
theorem Byt.two {w w' : World} {R G : Nat} {ao : Option Addr} {n c : Nat} {zs : List Int} (h : Byt w ao n c zs) (hg : Two w w' R G) (hne : ∀ ad, ao = some ad → 0 < n → ad.block ≠ R ∧ ad.block ≠ G) : Byt w' ao n c zs := by
 refine ⟨h.len, h.nil, fun ad had j u hu => ?_⟩
 have hj : j < zs.length := by have := (List.getElem?_eq_some_iff.1 hu).1; simpa using this
 have hc := h.cells ad had j u hu
 have hb : (ad.add j).block = ad.block := by unfold Addr.add; split <;> rfl
 have hn := hne ad had (by have := h.len; omega)
 have hlt := World.block_lt_of_cell? w _ hc
 rw [World.cell?_of_block (hg.block _ hlt (by rw [hb]; exact hn.1) (by rw [hb]; exact hn.2))]
 exact hc
theorem Byt.lt {w : World} {ao : Option Addr} {n c : Nat} {zs : List Int} (h : Byt w ao n c zs) {ad : Addr} (e : ao = some ad) (hn : 0 < n) : ad.block < w.heap.size := by
 obtain ⟨b, off, e2, hb, _⟩ := h.at hn
 rw [e] at e2
 obtain rfl := Option.some.inj e2
 exact hb
theorem Byt.drop {w : World} {b off : Nat} {n c : Nat} {zs : List Int} (h : Byt w (some ⟨b, off, none⟩) n c zs) (k c' : Nat) (hk : k ≤ n) : Byt w (some ⟨b, off + k, none⟩) (n - k) c' (zs.drop k) := by
 have hl := h.len
 refine Byt.of_cells (by rw [List.length_drop]; omega) fun i hi => ?_
 obtain ⟨b', off', e, _, hc⟩ := h.at (by omega)
 simp only [Option.some.injEq, Addr.mk.injEq] at e
 obtain ⟨rfl, rfl, _⟩ := e
 rw [Nat.add_assoc, hc (k + i) (by omega)]
 simp [List.getD]
theorem Byt.zlen (w : World) (b off c : Nat) : Byt w (some ⟨b, off, none⟩) 0 c [] := Byt.of_cells rfl fun i hi => by omega
theorem put_u8_nil (x : Nat) (w : World) (hx : x < 256) :
  Calls Tryz.prog 52 #[.slice none 0 0, .int .u8 x] w fun e w' => e = .returned (.slice (some ⟨w.heap.size, 0, none⟩) 1 1) ∧ Byt w' (some ⟨w.heap.size, 0, none⟩) 1 1 (lb 1 x) ∧ w.grownBy w' none ∧ w.heap.size < w'.heap.size := by
 refine (put_u8 none 0 0 [] x w (Byt.empty w) (by omega) hx).mono ?_
 rintro e w' ⟨rfl, h1, h2, h3⟩
 exact ⟨rfl, Byt.of_owns h1, h2, h3⟩
theorem put_u16_nil (x : Nat) (w : World) (hx : x < 65536) :
  Calls Tryz.prog 53 #[.slice none 0 0, .int .u16 x] w fun e w' => e = .returned (.slice (some ⟨w.heap.size, 0, none⟩) 2 2) ∧ Byt w' (some ⟨w.heap.size, 0, none⟩) 2 2 (lb 2 x) ∧ w.grownBy w' none ∧ w.heap.size < w'.heap.size := by
 refine (put_u16 none 0 0 [] x w (Byt.empty w) (by omega) hx).mono ?_
 rintro e w' ⟨rfl, h1, h2, h3⟩
 exact ⟨rfl, Byt.of_owns h1, h2, h3⟩
theorem put_u32_nil (x : Nat) (w : World) (hx : x < 4294967296) :
  Calls Tryz.prog 128 #[.slice none 0 0, .int .u32 x] w fun e w' => e = .returned (.slice (some ⟨w.heap.size, 0, none⟩) 4 4) ∧ Byt w' (some ⟨w.heap.size, 0, none⟩) 4 4 (lb 4 x) ∧ w.grownBy w' none ∧ w.heap.size < w'.heap.size := by
 refine (put_u32 none 0 0 [] x w (Byt.empty w) (by omega) hx).mono ?_
 rintro e w' ⟨rfl, h1, h2, h3⟩
 exact ⟨rfl, Byt.of_owns h1, h2, h3⟩
theorem splice_four {cs A B C D : List Int} {q a b c : Nat} (ha : A.length = a) (hb : B.length = b) (hc : C.length = c) (h : q + a + b + c + D.length ≤ cs.length) :
  splice (splice (splice (splice cs q A) (q + a) B) (q + a + b) C) (q + a + b + c) D = splice cs q (A ++ (B ++ (C ++ D))) := by
 subst ha hb hc
 have e1 := splice_two (cs := cs) (xs := A) (ys := B) (p := q) (by omega)
 have e2 := splice_two (cs := cs) (xs := A ++ B) (ys := C) (p := q) (by simp only [List.length_append]; omega)
 have e3 := splice_two (cs := cs) (xs := A ++ B ++ C) (ys := D) (p := q) (by simp only [List.length_append]; omega)
 simp only [List.length_append, ← Nat.add_assoc] at e2 e3
 rw [e1, e2, e3]
 simp only [List.append_assoc]
theorem Rw.two {w w' : World} {R G g : Nat} {zs : List Int} (h : Rw w g zs) (hg : Two w w' R G) (h1 : g ≠ R) (h2 : g ≠ G) : Rw w' g zs := (hg.block g h.lt h1 h2).trans h
theorem splice_mid {X Y Z V : List Int} {p : Nat} (hp : X.length = p) (hV : Y.length = V.length) : splice (X ++ (Y ++ Z)) p V = X ++ (V ++ Z) := by
 subst hp
 unfold splice
 rw [List.take_left, ← hV, ← List.append_assoc X Y Z, ← List.length_append, List.drop_left]
theorem lb_bt' (k x : Nat) : Bt (lb k x) := lb_bt k x
theorem vform_bt (x : Nat) : Bt (vform x) := lf_bt 10 x
set_option maxHeartbeats 400000 in
set_option maxRecDepth 100000 in
theorem equal_yes (ao bo : Option Addr) (n m c d : Nat) (za zb : List Int) (w : World) (ha : Byt w ao n c za) (hb : Byt w bo m d zb) (e : za = zb) :
  Calls Tryz.prog 32 #[.slice ao n c, .slice bo m d] w fun en w' => en = .returned (.bool true) ∧ w' = w := by
 subst e
 have h1 := conv_str ha
 have h2 := conv_str hb
 clear ha hb
 go_enter Tryz.func32, Tryz.ntmps32
 go_wp2
 go_ret
 exact ⟨rfl, rfl⟩
set_option maxHeartbeats 400000 in
set_option maxRecDepth 100000 in
theorem equal_no (ao bo : Option Addr) (n m c d : Nat) (za zb : List Int) (w : World) (ha : Byt w ao n c za) (hb : Byt w bo m d zb) (ba : Bt za) (bb : Bt zb) (e : za ≠ zb) :
  Calls Tryz.prog 32 #[.slice ao n c, .slice bo m d] w fun en w' => en = .returned (.bool false) ∧ w' = w := by
 have hne : ((strOfNums za).toList == (strOfNums zb).toList) = false := by
  rw [beq_eq_false_iff_ne, ByteArray.toList_eq, ByteArray.toList_eq]
  intro h
  refine e (str_inj ba bb ?_)
  have := Array.toList_inj.1 h
  cases hx : strOfNums za; cases hy : strOfNums zb; simp_all
 have h1 := conv_str ha
 have h2 := conv_str hb
 clear ha hb
 go_enter Tryz.func32, Tryz.ntmps32
 go_wp2
 go_ret
 exact ⟨rfl, rfl⟩
theorem Byt.zero (w : World) (ao : Option Addr) : Byt w ao 0 0 [] := ⟨rfl, fun _ => ⟨rfl, rfl⟩, fun ad _ j u hu => by simp at hu⟩
theorem rd_V (R G : Nat) (zs : List Int) (s : Nat × Int) (w : World) (h : Rd w R G zs s.1 s.2) (hbt : Bt zs) :
  Calls Tryz.prog 131 #[.pointer (some ⟨R, 0, none⟩)] w fun en w' => en = .returned (.int .u64 ((sV zs s).1 : Nat)) ∧ Rd w' R G zs (sV zs s).2.1 (sV zs s).2.2 ∧ w.grownBy w' (some R) := by
 obtain ⟨p, e⟩ := s
 by_cases he : e = 0
 ·subst he
  by_cases h0 : (rv (zs.drop p)).2.2 = 0
  ·have e1 : sV zs (p, 0) = ((rv (zs.drop p)).1, (p + (rv (zs.drop p)).2.1, 0)) := by unfold sV; rw [if_pos rfl, if_pos h0]
   rw [e1]
   exact v_ok R G zs p _ _ w h hbt (by rw [← h0])
  ·have e1 : sV zs (p, 0) = (0, (p, (rv (zs.drop p)).2.2)) := by unfold sV; rw [if_pos rfl, if_neg h0]
   rw [e1]
   refine v_bad R G zs p _ w h hbt ?_ (by simpa using h0)
   rcases scan_err 10 0 0 (zs.drop p) with h1 | h1 | h1 | h1
   ·exact absurd h1 h0
   ·show rv _ = _; unfold rv; rw [h1]
   ·show rv _ = _; unfold rv; rw [h1]
   ·show rv _ = _; unfold rv; rw [h1]
 ·have e1 : sV zs (p, e) = (0, (p, e)) := by unfold sV; rw [if_neg he]
  rw [e1]
  exact v_broken R G zs p e w h (by simpa using he)
theorem rd_B (R G : Nat) (zs : List Int) (s : Nat × Int) (m : Int) (w : World) (h : Rd w R G zs s.1 s.2) :
  Calls Tryz.prog 58 #[.pointer (some ⟨R, 0, none⟩), .int .i64 m] w fun en w' => (∃ ao k, en = .returned (.slice ao k k) ∧ Byt w' ao k k (sB zs s m).1 ∧ (0 < k → ao = some ⟨G, s.1, none⟩) ∧ k ≤ zs.length) ∧ Rd w' R G zs (sB zs s m).2.1 (sB zs s m).2.2 ∧ w.grownBy w' (some R) := by
 obtain ⟨p, e⟩ := s
 by_cases he : e = 0
 ·subst he
  have hp : p ≤ zs.length := h.le
  by_cases h0 : m < 0 ∨ (zs.length : Int) - p < m
  ·have e1 : sB zs (p, 0) m = ([], (p, 10)) := by unfold sB; rw [if_pos rfl, if_pos h0]
   rw [e1]
   rcases h0 with h0 | h0
   ·refine (bytes_neg R G zs p m w h h0).mono ?_
    rintro en w' ⟨rfl, h1, h2⟩
    exact ⟨⟨_, _, rfl, Byt.zero _ _, fun h => by omega, by omega⟩, h1, h2⟩
   ·refine (bytes_short R G zs p m w h h0).mono ?_
    rintro en w' ⟨rfl, h1, h2⟩
    exact ⟨⟨_, _, rfl, Byt.zero _ _, fun h => by omega, by omega⟩, h1, h2⟩
  ·have e1 : sB zs (p, 0) m = ((zs.drop p).take m.toNat, (p + m.toNat, 0)) := by unfold sB; rw [if_pos rfl, if_neg h0]
   rw [e1]
   obtain ⟨k, rfl⟩ : ∃ k : Nat, m = (k : Int) := ⟨m.toNat, by omega⟩
   rw [Int.toNat_natCast]
   refine (bytes_ok R G zs p k w h (by omega)).mono ?_
   rintro en w' ⟨ao, rfl, h1, h2, h3, h4⟩
   exact ⟨⟨ao, k, rfl, h2, h1, by omega⟩, h3, h4⟩
 ·have e1 : sB zs (p, e) m = ([], (p, e)) := by unfold sB; rw [if_neg he]
  rw [e1]
  refine (bytes_broken R G zs p e m w h (by simpa using he)).mono ?_
  rintro en w' ⟨ao, rfl, h1, h2⟩
  exact ⟨⟨ao, 0, rfl, Byt.zero _ _, fun h => by omega, by omega⟩, h1, h2⟩
theorem rd_N2 (R G : Nat) (zs : List Int) (s : Nat × Int) (w : World) (h : Rd w R G zs s.1 s.2) (hbt : Bt zs) :
  Calls Tryz.prog 60 #[.pointer (some ⟨R, 0, none⟩)] w fun en w' => en = .returned (.int .u16 ((sN zs s 2).1 : Nat)) ∧ Rd w' R G zs (sN zs s 2).2.1 (sN zs s 2).2.2 ∧ w.grownBy w' (some R) := by
 obtain ⟨p, e⟩ := s
 by_cases he : e = 0
 ·subst he
  by_cases h0 : zs.length < p + 2
  ·have e1 : sN zs (p, 0) 2 = (0, (p, 10)) := by unfold sN; rw [if_pos rfl, if_pos h0]
   rw [e1]
   exact get_u16_short R G zs p w h h0
  ·have e1 : sN zs (p, 0) 2 = (le 2 (zs.drop p), (p + 2, 0)) := by unfold sN; rw [if_pos rfl, if_neg h0]
   rw [e1]
   exact get_u16_ok R G zs p w h hbt (by omega)
 ·have e1 : sN zs (p, e) 2 = (0, (p, e)) := by unfold sN; rw [if_neg he]
  rw [e1]
  exact get_u16_broken R G zs p e w h (by simpa using he)
theorem rd_N4 (R G : Nat) (zs : List Int) (s : Nat × Int) (w : World) (h : Rd w R G zs s.1 s.2) (hbt : Bt zs) :
  Calls Tryz.prog 132 #[.pointer (some ⟨R, 0, none⟩)] w fun en w' => en = .returned (.int .u32 ((sN zs s 4).1 : Nat)) ∧ Rd w' R G zs (sN zs s 4).2.1 (sN zs s 4).2.2 ∧ w.grownBy w' (some R) := by
 obtain ⟨p, e⟩ := s
 by_cases he : e = 0
 ·subst he
  by_cases h0 : zs.length < p + 4
  ·have e1 : sN zs (p, 0) 4 = (0, (p, 10)) := by unfold sN; rw [if_pos rfl, if_pos h0]
   rw [e1]
   exact get_u32_short R G zs p w h h0
  ·have e1 : sN zs (p, 0) 4 = (le 4 (zs.drop p), (p + 4, 0)) := by unfold sN; rw [if_pos rfl, if_neg h0]
   rw [e1]
   exact get_u32_ok R G zs p w h hbt (by omega)
 ·have e1 : sN zs (p, e) 4 = (0, (p, e)) := by unfold sN; rw [if_neg he]
  rw [e1]
  exact get_u32_broken R G zs p e w h (by simpa using he)
theorem sV_lt (zs : List Int) (s : Nat × Int) (h : Bt zs) : (sV zs s).1 < 18446744073709551616 := by
 unfold sV
 split
 ·split
  ·rename_i h0 h1
   obtain ⟨x, n, e⟩ : ∃ x n, rv (zs.drop s.1) = (x, n, 0) := ⟨_, _, by rw [← h1]⟩
   have := (rv_back (zs.drop s.1) x n (h.drop _) e).1
   rw [e]; exact this
  ·exact Nat.zero_lt_succ _
 ·exact Nat.zero_lt_succ _
theorem i64_wrap {x : Nat} (h : x < 18446744073709551616) : IntKind.i64.wrap (x : Int) = i64 x := by
 unfold i64
 simp [IntKind.wrap, IntKind.bits, IntKind.signed]
 split <;> omega
theorem grown_newR {a b c : World} {R g : Nat} (h : a.grownBy b (some R)) (k : b.grownBy c (some g)) (hg : a.heap.size ≤ g) : a.grownBy c (some R) :=
 ⟨k.os.trans h.os, k.tape.trans h.tape, k.output.trans h.output, Nat.le_trans h.size k.size,
  fun i hi hne => (k.block i (Nat.lt_of_lt_of_le hi h.size) (by intro e; have := Option.some.inj e; omega)).trans (h.block i hi hne)⟩
theorem splice_fill {Z X Y : List Int} (hZ : Z.length = X.length + Y.length) : splice (splice Z 0 X) X.length Y = X ++ Y := by
 have := splice_two (cs := Z) (xs := X) (ys := Y) (p := 0) (by omega)
 rw [Nat.zero_add] at this
 rw [this]
 unfold splice
 rw [List.take_zero, List.nil_append, Nat.zero_add, List.drop_eq_nil_of_le (by rw [List.length_append]; omega), List.append_nil]
theorem le_lt' (k : Nat) (zs : List Int) (h : Bt zs) : le k zs < 256 ^ k := le_lt k zs h
theorem sN_lt (zs : List Int) (s : Nat × Int) (k : Nat) (h : Bt zs) : (sN zs s k).1 < 256 ^ k := by
 unfold sN
 split
 ·split
  ·exact Nat.pow_pos (by omega)
  ·exact le_lt' k _ (h.drop _)
 ·exact Nat.pow_pos (by omega)
theorem sV_ok {zs : List Int} {s : Nat × Int} (hb : Bt zs) (h : (sV zs s).2.2 = 0) : s.2 = 0 ∧ s.1 + 1 ≤ (sV zs s).2.1 ∧ (sV zs s).2.1 ≤ max s.1 zs.length := by
 unfold sV at h ⊢
 split
 ·rename_i h0
  rw [if_pos h0] at h
  split
  ·rename_i h1
   rw [if_pos h1] at h
   obtain ⟨x, n, e⟩ : ∃ x n, rv (zs.drop s.1) = (x, n, 0) := ⟨_, _, by rw [← h1]⟩
   have hb2 := rv_back (zs.drop s.1) x n (hb.drop _) e
   rw [e]
   simp only [List.length_drop] at hb2 ⊢
   exact ⟨h0, by omega, by omega⟩
  ·rename_i h1
   rw [if_neg h1] at h
   exact absurd h h1
 ·rename_i h0
  rw [if_neg h0] at h
  exact absurd h h0
theorem sB_ok {zs : List Int} {s : Nat × Int} {m : Int} (h : (sB zs s m).2.2 = 0) : s.2 = 0 ∧ s.1 ≤ (sB zs s m).2.1 ∧ (sB zs s m).2.1 ≤ max s.1 zs.length := by
 unfold sB at h ⊢
 split
 ·rename_i h0
  rw [if_pos h0] at h
  split
  ·rename_i h1
   rw [if_pos h1] at h
   exact absurd h (by simp)
  ·rename_i h1
   exact ⟨h0, by simp, by simp only; omega⟩
 ·rename_i h0
  rw [if_neg h0] at h
  exact absurd h h0
theorem sN_ok {zs : List Int} {s : Nat × Int} {k : Nat} (h : (sN zs s k).2.2 = 0) : s.2 = 0 ∧ s.1 ≤ (sN zs s k).2.1 ∧ (sN zs s k).2.1 ≤ max s.1 zs.length := by
 unfold sN at h ⊢
 split
 ·rename_i h0
  rw [if_pos h0] at h
  split
  ·rename_i h1
   rw [if_pos h1] at h
   exact absurd h (by simp)
  ·rename_i h1
   exact ⟨h0, by simp, by simp only; omega⟩
 ·rename_i h0
  rw [if_neg h0] at h
  exact absurd h h0
theorem sB_bt {zs : List Int} (s : Nat × Int) (m : Int) (hb : Bt zs) : Bt (sB zs s m).1 ∧ (sB zs s m).1.length ≤ zs.length := by
 unfold sB
 split
 ·split
  ·exact ⟨Bt.nil, by simp⟩
  ·exact ⟨(hb.drop _).take _, by simp only [List.length_take, List.length_drop]; omega⟩
 ·exact ⟨Bt.nil, by simp⟩
theorem sV_pl {zs : List Int} {s : Nat × Int} (hb : Bt zs) (h : s.1 ≤ zs.length) : (sV zs s).2.1 ≤ zs.length := by
 unfold sV
 split
 ·split
  ·rename_i h0 h1
   obtain ⟨x, n, e⟩ : ∃ x n, rv (zs.drop s.1) = (x, n, 0) := ⟨_, _, by rw [← h1]⟩
   have hb2 := rv_back (zs.drop s.1) x n (hb.drop _) e
   rw [e]
   simp only [List.length_drop] at hb2 ⊢
   omega
  ·exact h
 ·exact h
theorem sB_pl {zs : List Int} {s : Nat × Int} {m : Int} (h : s.1 ≤ zs.length) : (sB zs s m).2.1 ≤ zs.length := by
 unfold sB
 split
 ·split
  ·exact h
  ·simp only; omega
 ·exact h
theorem sN_pl {zs : List Int} {s : Nat × Int} {k : Nat} (h : s.1 ≤ zs.length) : (sN zs s k).2.1 ≤ zs.length := by
 unfold sN
 split
 ·split
  ·exact h
  ·simp only; omega
 ·exact h
theorem rd_N1 (R G : Nat) (zs : List Int) (s : Nat × Int) (w : World) (h : Rd w R G zs s.1 s.2) (hbt : Bt zs) :
  Calls Tryz.prog 59 #[.pointer (some ⟨R, 0, none⟩)] w fun en w' => en = .returned (.int .u8 ((sN zs s 1).1 : Nat)) ∧ Rd w' R G zs (sN zs s 1).2.1 (sN zs s 1).2.2 ∧ w.grownBy w' (some R) := by
 obtain ⟨p, e⟩ := s
 by_cases he : e = 0
 ·subst he
  by_cases h0 : zs.length < p + 1
  ·have e1 : sN zs (p, 0) 1 = (0, (p, 10)) := by unfold sN; rw [if_pos rfl, if_pos h0]
   rw [e1]
   exact get_u8_short R G zs p w h h0
  ·have e1 : sN zs (p, 0) 1 = (le 1 (zs.drop p), (p + 1, 0)) := by unfold sN; rw [if_pos rfl, if_neg h0]
   rw [e1]
   exact get_u8_ok R G zs p w h hbt (by omega)
 ·have e1 : sN zs (p, e) 1 = (0, (p, e)) := by unfold sN; rw [if_neg he]
  rw [e1]
  exact get_u8_broken R G zs p e w h (by simpa using he)
def Rt (w : World) (g : Nat) (t : TypeId) (zs : List Int) : Prop := w.heap[g]? = some (.cells (zs.map (Value.int .u8)).toArray t (0, 0))
theorem Rt.lt {w : World} {g : Nat} {t : TypeId} {zs : List Int} (h : Rt w g t zs) : g < w.heap.size := (Array.getElem?_eq_some_iff.1 h).1
theorem Rt.cell {w : World} {g : Nat} {t : TypeId} {zs : List Int} (h : Rt w g t zs) (i : Nat) (hi : i < zs.length) : w.cell? ⟨g, i, none⟩ = some (.int .u8 (zs.getD i 0)) := by
 rw [cell_of_row w g i _ _ (0, 0) h]
 simp [List.getD, List.getElem?_eq_getElem hi]
theorem Rt.byt {w : World} {g : Nat} {t : TypeId} {zs : List Int} (h : Rt w g t zs) (off n cap : Nat) (hn : off + n ≤ zs.length) : Byt w (some ⟨g, off, none⟩) n cap ((zs.drop off).take n) := by
 refine Byt.of_cells (by rw [List.length_take, List.length_drop]; omega) fun i hi => ?_
 rw [h.cell (off + i) (by omega)]
 simp [List.getD, hi]
theorem Rt.all {w : World} {g : Nat} {t : TypeId} {zs : List Int} (h : Rt w g t zs) (n cap : Nat) (hn : n = zs.length) : Byt w (some ⟨g, 0, none⟩) n cap zs := by
 have := h.byt 0 n cap (by omega)
 rwa [List.drop_zero, List.take_of_length_le (by omega)] at this
theorem Rt.kept {w w' : World} {row : Option Nat} {g : Nat} {t : TypeId} {zs : List Int} (h : Rt w g t zs) (hg : w.grownBy w' row) (hne : some g ≠ row) : Rt w' g t zs := (hg.block g h.lt hne).trans h
theorem Rt.keptN {w w' : World} {g : Nat} {t : TypeId} {zs : List Int} (h : Rt w g t zs) (hg : w.grownBy w' none) : Rt w' g t zs := h.kept hg (by simp)
theorem Rt.two {w w' : World} {R G g : Nat} {t : TypeId} {zs : List Int} (h : Rt w g t zs) (hg : Two w w' R G) (h1 : g ≠ R) (h2 : g ≠ G) : Rt w' g t zs := (hg.block g h.lt h1 h2).trans h
structure Rp (w w' : World) (g : Nat) (t : TypeId) (xs : List Value) : Prop where
 row : w'.heap[g]? = some (.cells xs.toArray t (0, 0))
 oth : ∀ k, k ≠ g → w'.heap[k]? = w.heap[k]?
 size : w'.heap.size = w.heap.size
 os : w'.os = w.os
 tape : w'.tape = w.tape
 output : w'.output = w.output
theorem Rp.grown {w w' : World} {g : Nat} {t : TypeId} {xs : List Value} (h : Rp w w' g t xs) : w.grownBy w' (some g) :=
 ⟨h.os, h.tape, h.output, by rw [h.size]; exact Nat.le_refl _, fun k _ hne => h.oth k (fun e => hne (by rw [e]))⟩
theorem oper_copy_val {o : Oper} {a : Act} {w : World} {K : Act → World → Prop} {Q : Exit → Act → World → Prop} (d s : Operand)
  (ho : o.op = .call { callee := .builtin .copy, args := #[d, s], argTypes := #[26, 26] })
  (dp sp : Option Addr) (dLen dCap sLen sCap : Nat) (hd : a.eval d = .slice dp dLen dCap) (hs : a.eval s = .slice sp sLen sCap)
  (g off : Nat) (t : TypeId) (cur : List Value) (hg : w.heap[g]? = some (.cells cur.toArray t (0, 0))) (cs : List Value) (hn : cs.length = Nat.min sLen dLen)
  (hpos : 0 < cs.length → dp = some ⟨g, off, none⟩ ∧ ∃ ad, sp = some ad ∧ ∀ j v, cs[j]? = some v → w.cell? (ad.add j) = some v)
  (hfit : off + cs.length ≤ cur.length) (h1 : ∀ v ∈ cs, v.oneCell' = true) (k : Nat) (hk : cs.length = k)
  (h : ∀ w', Rp w w' g t (splice cur off cs) → K (a.put o.dst (.int .i64 (k : Int))) w') : Oper.wp Tryz.prog o a w K Q := by
 obtain ⟨i0, hi, hz0, hz1, hz2⟩ := info_parts info_u8
 have hsz : (Tryz.prog.info? 5).map (·.size) = some 1 := by rw [hi]; exact congrArg some hz1
 subst hk
 by_cases h0 : cs.length = 0
 ·obtain rfl : cs = [] := List.eq_nil_of_length_eq_zero h0
  have hrun := run_copy_none (P := Tryz.prog) w 26 26 o.type 5 dp sp dLen dCap sLen sCap Tryz.underlying26 hsz (by simpa using hn.symm)
  unfold Oper.wp
  simp [execOp, ho, resolve, invoke, builtin, hd, hs, hrun, Result.andThen]
  exact h w ⟨by simpa [splice] using hg, fun _ _ => rfl, rfl, rfl, rfl, rfl⟩
 ·obtain ⟨rfl, ad, rfl, hsrc⟩ := hpos (by omega)
  have hrun := run_copy_row (P := Tryz.prog) w 26 26 o.type 5 g off dLen dCap ad sLen sCap cur.toArray t cs Tryz.underlying26 hsz hg hn hsrc (by simpa using hfit) h1
  unfold Oper.wp
  simp [execOp, ho, resolve, invoke, builtin, hd, hs, hrun, Result.andThen]
  exact h _ ⟨by simpa [splice] using setRow_heap w g _ _ _ _ hg, fun k hk => setRow_other w g k _ hk, by simp [World.setRow], rfl, rfl, rfl⟩
theorem oper_copy_rp {o : Oper} {a : Act} {w : World} {K : Act → World → Prop} {Q : Exit → Act → World → Prop} (d s : Operand)
  (ho : o.op = .call { callee := .builtin .copy, args := #[d, s], argTypes := #[26, 26] })
  (dp sp : Option Addr) (dLen dCap sLen sCap : Nat) (hd : a.eval d = .slice dp dLen dCap) (hs : a.eval s = .slice sp sLen sCap)
  (g off : Nat) (t : TypeId) (cs ts : List Int) (hg : Rt w g t cs) (hb : Byt w sp sLen sCap ts) (hn : sLen ≤ dLen) (hdp : 0 < sLen → dp = some ⟨g, off, none⟩) (hfit : off + sLen ≤ cs.length)
  (h : ∀ w', Rt w' g t (splice cs off ts) → w.grownBy w' (some g) → w'.heap.size = w.heap.size → K (a.put o.dst (.int .i64 (sLen : Int))) w') : Oper.wp Tryz.prog o a w K Q := by
 have hl := hb.len
 refine oper_copy_val d s ho dp sp dLen dCap sLen sCap hd hs g off t (cs.map (Value.int .u8)) hg (ts.map (Value.int .u8)) (by rw [List.length_map, hl]; exact (Nat.min_eq_left hn).symm) (fun h0 => ?_) (by rw [List.length_map, List.length_map]; omega) (ints_oneCell _ _) sLen (by rw [List.length_map, hl]) fun w' hro => h w' ?_ hro.grown hro.size
 ·refine ⟨hdp (by simpa [hl] using h0), ?_⟩
  cases sp with
  | none => have := (hb.nil rfl).1; simp [hl] at h0; omega
  | some ad => exact ⟨ad, rfl, hb.cells ad rfl⟩
 ·show _ = _
  rw [← splice_map]
  exact hro.row
theorem step_copy_rt {ops : Array Oper} {o : Oper} {a : Act} {w : World} {K : Act → World → Prop} {Q : Exit → Act → World → Prop} {E : Prop} (hgd : o.guard = none) (d s : Operand)
  (ho : o.op = .call { callee := .builtin .copy, args := #[d, s], argTypes := #[26, 26] })
  (dp sp : Option Addr) (dLen dCap sLen sCap : Nat) (hd : a.eval d = .slice dp dLen dCap) (hs : a.eval s = .slice sp sLen sCap)
  (g off : Nat) (t : TypeId) (cs ts : List Int) (hg : Rt w g t cs) (hb : Byt w sp sLen sCap ts) (hn : sLen ≤ dLen) (hdp : 0 < sLen → dp = some ⟨g, off, none⟩) (hfit : off + sLen ≤ cs.length)
  (h : ∀ w', Rt w' g t (splice cs off ts) → w.grownBy w' (some g) → w'.heap.size = w.heap.size → K (a.put o.dst (.int .i64 (sLen : Int))) w') :
  if Region.wanted o (yielded ops a.tmps) = true then Oper.wp Tryz.prog o a w K Q else E := by
 have hw : Region.wanted o (yielded ops a.tmps) = true := by simp [Region.wanted, hgd]
 rw [if_pos hw]
 exact oper_copy_rp d s ho dp sp dLen dCap sLen sCap hd hs g off t cs ts hg hb hn hdp hfit h
theorem wpList_copy_rt {w : World} {ops : Array Oper} {rest : List Oper} {o : Oper} {a : Act} {Q : Exit → Act → World → Prop} (hgd : o.guard = none) (d s : Operand)
  (ho : o.op = .call { callee := .builtin .copy, args := #[d, s], argTypes := #[26, 26] })
  (dp sp : Option Addr) (dLen dCap sLen sCap : Nat) (hd : a.eval d = .slice dp dLen dCap) (hs : a.eval s = .slice sp sLen sCap)
  (g off : Nat) (t : TypeId) (cs ts : List Int) (hg : Rt w g t cs) (hb : Byt w sp sLen sCap ts) (hn : sLen ≤ dLen) (hdp : 0 < sLen → dp = some ⟨g, off, none⟩) (hfit : off + sLen ≤ cs.length)
  (h : ∀ w', Rt w' g t (splice cs off ts) → w.grownBy w' (some g) → w'.heap.size = w.heap.size → wpList Tryz.prog ops Q rest (a.put o.dst (.int .i64 (sLen : Int))) w') : wpList Tryz.prog ops Q (o :: rest) a w := by
 refine wpList_plain hgd fun K hK => ?_
 exact oper_copy_rp d s ho dp sp dLen dCap sLen sCap hd hs g off t cs ts hg hb hn hdp hfit fun w' h1 h2 h3 => hK _ _ (h w' h1 h2 h3)
def Fl (w : World) (R G p : Nat) : Prop := w.heap[R]? = some (.cells #[.pointer (some ⟨G, 0, none⟩), .int .i64 p] 84 (0, 0))
theorem Fl.cells {w : World} {R G p : Nat} (h : Fl w R G p) : w.cell? ⟨R, 0, none⟩ = some (.pointer (some ⟨G, 0, none⟩)) ∧ w.cell? ⟨R, 1, none⟩ = some (.int .i64 p) ∧ w.frozen? ⟨R, 1, none⟩ = false := by
 refine ⟨?_, ?_, frozen_of_row w R 1 _ _ h⟩
 ·rw [cell_of_row w R 0 _ _ _ h]; rfl
 ·rw [cell_of_row w R 1 _ _ _ h]; rfl
theorem Fl.lt {w : World} {R G p : Nat} (h : Fl w R G p) : R < w.heap.size := (Array.getElem?_eq_some_iff.1 h).1
theorem Fl.set {w : World} {R G p : Nat} (h : Fl w R G p) (q : Nat) (v : Int) (hv : v = (q : Int)) : Fl (w.setCell ⟨R, 1, none⟩ (.int .i64 v)) R G q := by
 have := heap_setCell_same w R 1 _ _ (.int .i64 v) h
 subst hv
 exact this
theorem Fl.kept {w w' : World} {R G p : Nat} {row : Option Nat} (h : Fl w R G p) (hg : w.grownBy w' row) (hne : some R ≠ row) : Fl w' R G p := (hg.block R h.lt hne).trans h
theorem Fl.two {w w' : World} {R G p R' : Nat} (h : Fl w R' G p) (hg : Two w w' R G) (h1 : R' ≠ R) (h2 : R' ≠ G) : Fl w' R' G p := (hg.block R' h.lt h1 h2).trans h
theorem Fl.qt {w w' : World} {R G p : Nat} (h : Fl w R G p) (q : Qt w w') : Fl w' R G p := by
 show _ = _
 rw [q.heap]; exact h
set_option maxHeartbeats 2000000 in
set_option maxRecDepth 100000 in
theorem next_any (R G p n : Nat) (w : World) (hw : Fl w R G p) (hp : p + n ≤ 4092) :
  Calls Tryz.prog 56 #[.pointer (some ⟨R, 0, none⟩), .int .i64 n] w fun en w' => (∃ ao, en = .returned (.slice ao n n) ∧ (0 < n → ao = some ⟨G, p, none⟩) ∧ ao ≠ none) ∧ Fl w' R G (p + n) ∧ w.grownBy w' (some R) ∧ w'.heap.size = w.heap.size := by
 obtain ⟨c0, c1, f1⟩ := hw.cells
 have hwr : Hid (IntKind.i64.wrap ((p : Int) + (n : Int)) = ((p + n : Nat) : Int)) := by show _ = _; simp [IntKind.wrap, IntKind.bits, IntKind.signed]; omega
 have HF : Hid (∀ v : Int, v = ((p + n : Nat) : Int) → Fl (w.setCell ⟨R, 1, none⟩ (.int .i64 v)) R G (p + n) ∧ w.grownBy (w.setCell ⟨R, 1, none⟩ (.int .i64 v)) (some R) ∧ (w.setCell ⟨R, 1, none⟩ (.int .i64 v)).heap.size = w.heap.size) :=
  fun v hv => ⟨hw.set _ v hv, grown_cell _ _ _ _, by simp⟩
 have g1 : (p : Int) + (n : Int) ≤ 4092 := by omega
 have g2 : (0 : Int) ≤ (p : Int) := by omega
 have g3 : (0 : Int) ≤ (n : Int) := by omega
 have g4 : (0 : Int) ≤ (p : Int) + (n : Int) := by omega
 have g5 : (p : Int) ≤ (p : Int) + (n : Int) := by omega
 have g6 : (p : Int) ≤ 4092 := by omega
 clear hw
 by_cases h0 : n = 0
 ·subst h0
  go_enter Tryz.func56, Tryz.ntmps56
  go_wp2
  go_quiet (fail)
  go_wp2
  go_ret
  obtain ⟨x1, x2, x3⟩ := HF.out _ (by first | rfl | omega)
  exact ⟨⟨_, rfl, fun h => by omega, by simp⟩, x1.qt (Qt.drewN _ _), grown_trans x2 ((Qt.drewN _ _).grown _), x3⟩
 ·have h1 : (0 : Int) < (n : Int) := by omega
  go_enter Tryz.func56, Tryz.ntmps56
  go_wp2
  go_quiet (fail)
  go_wp2
  go_ret
  obtain ⟨x1, x2, x3⟩ := HF.out _ (by first | rfl | omega)
  exact ⟨⟨some ⟨G, p, none⟩, by show Ending.returned (Value.slice _ (p + n - p) (p + n - p)) = _; rw [Nat.add_sub_cancel_left], fun h => rfl, by simp⟩, x1.qt (Qt.drewN _ _), grown_trans x2 ((Qt.drewN _ _).grown _), x3⟩
theorem Two.of_one {w w' : World} {R G : Nat} (h : w.grownBy w' (some G)) : Two w w' R G := ⟨h.os, h.tape, h.output, h.size, fun k hk _ h2 => h.block k hk (fun e => h2 (Option.some.inj e))⟩
theorem Two.of_other {w w' : World} {R G : Nat} (h : w.grownBy w' (some R)) : Two w w' R G := ⟨h.os, h.tape, h.output, h.size, fun k hk h1 _ => h.block k hk (fun e => h1 (Option.some.inj e))⟩
set_option maxHeartbeats 2000000 in
set_option maxRecDepth 100000 in
theorem blay_any (R G p : Nat) (cs : List Int) (ao : Option Addr) (n c : Nat) (zs : List Int) (w : World) (hw : Fl w R G p) (hr : Rt w G 81 cs) (hcs : cs.length = 4092) (hb : Byt w ao n c zs) (hRG : R ≠ G) (hbR : ∀ ad, ao = some ad → 0 < n → ad.block ≠ R) (hp : p + n ≤ 4092) :
  Calls Tryz.prog 51 #[.pointer (some ⟨R, 0, none⟩), .slice ao n c] w fun en w' => en = .returned (.tuple #[]) ∧ Fl w' R G (p + n) ∧ Rt w' G 81 (splice cs p zs) ∧ Two w w' R G ∧ w'.heap.size = w.heap.size := by
 have HR := hid_intro hr
 have HB := hid_intro hb
 have HW := hid_intro hw
 clear hr hb hw
 go_enter Tryz.func51, Tryz.ntmps51
 go_wp2_with fail
 refine (next_any R G p n _ HW.out hp).mono ?_
 rintro en w1 ⟨⟨bo, rfl, hbo, hbn⟩, hf1, hg1, hs1⟩
 have R1 := hid_intro (HR.out.kept hg1 (fun e => hRG (Option.some.inj e).symm))
 have B1 := hid_intro (HB.out.kept hg1 (fun ad e h e2 => hbR ad e h (Option.some.inj e2)))
 have F1 := hid_intro hf1
 have G1 := hid_intro hg1
 have S1 := hid_intro hs1
 clear hf1 hg1 hs1 HR HB HW
 go_wp2_with (refine wpList_copy_rt rfl _ _ rfl _ _ _ _ _ _ rfl rfl G p 81 cs zs R1.out B1.out (Nat.le_refl _) hbo (by omega) ?_)
 intro w2 hr2 hg2 hs2
 go_wp2
 refine Go.Great.bodyPost_end0 rfl rfl ?_
 exact ⟨rfl, F1.out.kept hg2 (fun e => hRG (Option.some.inj e)), hr2, (Two.of_other G1.out).trans (Two.of_one hg2), hs2.trans S1.out⟩
set_option maxHeartbeats 400000 in
set_option maxRecDepth 100000 in
theorem layKid_any (G q : Nat) (cs : List Int) (k : Kd) (no ks : Int) (w : World) (hr : Rt w G 81 cs) (hk : wk k = false) (h1 : k.no = no) (h2 : k.keys = ks) (hq : q + 8 ≤ cs.length) :
  Calls Tryz.prog 55 #[.slice (some ⟨G, q, none⟩) 8 8, .agg #[.int .i64 no, .int .i64 ks]] w fun en w' => en = .returned (.tuple #[]) ∧ Rt w' G 81 (splice cs q (kb k)) ∧ w.grownBy w' (some G) := by
 have hp := wk_parts hk
 obtain ⟨a, ha⟩ : ∃ a : Nat, no = (a : Int) := ⟨no.toNat, by omega⟩
 obtain ⟨b, hb⟩ : ∃ b : Nat, ks = (b : Int) := ⟨ks.toNat, by omega⟩
 subst ha hb
 have ha2 : a < 4294967296 := by omega
 have hb2 : b < 4294967296 := by omega
 have hwa : IntKind.u32.wrap (a : Int) = (a : Int) := by simp [IntKind.wrap, IntKind.bits, IntKind.signed]; omega
 have hwb : IntKind.u32.wrap (b : Int) = (b : Int) := by simp [IntKind.wrap, IntKind.bits, IntKind.signed]; omega
 have HKB : Hid (kb k = lb 4 a ++ lb 4 b) := by show _ = _; unfold kb; rw [h1, h2]; rfl
 have HSP : Hid (splice (splice cs q (lb 4 a)) (q + 4) (lb 4 b) = splice cs q (lb 4 a ++ lb 4 b)) := by
  have := splice_two (cs := cs) (xs := lb 4 a) (ys := lb 4 b) (p := q) (by rw [lb_len, lb_len]; omega)
  rw [lb_len] at this
  exact this
 have HL1 : Hid ((splice cs q (lb 4 a)).length = cs.length) := splice_len (by rw [lb_len]; omega)
 have ga := World.grownBy_alloc w (.cells #[.int .i64 (a : Int), .int .i64 (b : Int)] 61) none
 have k1 : Hid ((w.alloc (.cells #[.int .i64 (a : Int), .int .i64 (b : Int)] 61)).cell? ⟨w.heap.size, 1, none⟩ = some (.int .i64 (b : Int))) := by show _ = _; rw [cell_of_row _ w.heap.size 1 _ _ (0, 0) (heap_alloc_new w _)]; rfl
 have HG := hid_intro ga
 have HR := hid_intro (hr.keptN ga)
 have hGl := hr.lt
 have hBl : w.heap.size < (w.alloc (.cells #[.int .i64 (a : Int), .int .i64 (b : Int)] 61)).heap.size := by simp
 have HNE : Hid (w.heap.size ≠ G) := fun e => by omega
 clear hr hk h1 h2 hp ga hGl
 go_enter Tryz.func55, Tryz.ntmps55
 go_wp2_with fail
 go_region_law
  (first
   | (have z2 := R2; refine step_copy_rt rfl (.tmp 5) (.tmp 9) (by rfl) _ _ _ _ _ _ (by rfl) (by rfl) G q 81 cs (lb 4 a) (by exact R2) (by exact hb3) (by omega) (fun _ => rfl) (by omega) ?_; intro w3 hr3 hg3 hs3; have d1 := hg3.cell e1 (fun e => HNE.out (Option.some.inj e)))
   | (go_simp; go_at_call 128; refine (put_u32_nil a _ ha2).mono ?_; rintro en w2 ⟨rfl, hb2', hg2, hs2⟩; have hb3 : Byt w2 (some ⟨w.heap.size + 1, 0, none⟩) 4 4 (lb 4 a) := (by simpa using hb2'); have R2 := HR.out.keptN (grown_trans ((Qt.refl _).drew.grown none) hg2); have e1 := (grown_trans ((Qt.refl _).drew.grown none) hg2).cell k1.out (by simp)))
 all_goals
  have T3 := hid_intro (grown_trans (grown_any (grown_trans HG.out (grown_trans ((Qt.refl _).drew.grown none) hg2))) hg3)
  have R3 := hid_intro hr3
  have D1 := hid_intro d1
  clear hb2' hb3 hg2 hs2 hg3 hs3 hr3 R2 e1 d1 HR HG k1
  have d1 := D1.out
  go_wp2_with fail
  go_region_law
   (first
    | (have z4 := R4; refine step_copy_rt rfl (.tmp 12) (.tmp 16) (by rfl) _ _ _ _ _ _ (by rfl) (by rfl) G (q + 4) 81 (splice cs q (lb 4 a)) (lb 4 b) (by exact R4) (by exact hb4) (by omega) (fun _ => rfl) (by rw [HL1.out]; omega) ?_; intro w5 hr5 hg5 hs5)
    | (go_simp; go_at_call 128; refine (put_u32_nil b _ hb2).mono ?_; rintro en w4 ⟨rfl, hb4, hg4, hs4⟩; have R4 := R3.out.keptN (grown_trans ((Qt.refl _).drew.grown none) hg4)))
  all_goals
   go_wp2
   refine Go.Great.bodyPost_end0 rfl rfl ?_
   refine ⟨rfl, ?_, grown_trans T3.out (grown_trans (grown_any (grown_trans ((Qt.refl _).drew.grown none) hg4)) hg5)⟩
   rw [HKB.out, ← HSP.out]
   exact hr5
theorem splice_three {cs A B C : List Int} {q a b : Nat} (ha : A.length = a) (hb : B.length = b) (h : q + a + b + C.length ≤ cs.length) :
  splice (splice (splice cs q A) (q + a) B) (q + a + b) C = splice cs q (A ++ (B ++ C)) := by
 subst ha hb
 have e1 := splice_two (cs := cs) (xs := A) (ys := B) (p := q) (by omega)
 have e2 := splice_two (cs := cs) (xs := A ++ B) (ys := C) (p := q) (by simp only [List.length_append]; omega)
 simp only [List.length_append, ← Nat.add_assoc] at e2
 rw [e1, e2, List.append_assoc]
set_option maxHeartbeats 1000000 in
set_option maxRecDepth 100000 in
theorem layCell5_any (G q : Nat) (cs : List Int) (so : Option Addr) (r c : Nat) (p : Nat) (x : Sk) (no ks : Int) (m : Nat) (w : World) (hr : Rt w G 81 cs) (hs : Byt w so r c (x.sep.drop p)) (hsb : ∀ ad, so = some ad → 0 < r → ad.block ≠ G) (hk : wk x.kid = false) (h1 : x.kid.no = no) (h2 : x.kid.keys = ks) (hm : (bcb p x).length = m) (hq : q + m ≤ cs.length) (hr5 : r ≤ 1000) :
  Calls Tryz.prog 57 #[.slice (some ⟨G, q, none⟩) m m, .slice so r c, .agg #[.int .i64 no, .int .i64 ks]] w fun en w' => en = .returned (.tuple #[]) ∧ Rt w' G 81 (splice cs q (bcb p x)) ∧ w.grownBy w' (some G) := by
 have hl := hs.len
 have hl2 : x.sep.length - p = r := by rw [← hl, List.length_drop]
 have HCB : Hid (bcb p x = vform r ++ (x.sep.drop p ++ kb x.kid)) := by show _ = _; unfold bcb; rw [hl2]
 have P1 := hid_intro (fun W : World => putV_nil r W (by omega))
 obtain ⟨l1, hl1⟩ : ∃ l1, (vform r).length = l1 := ⟨_, rfl⟩
 have hl9 : l1 ≤ 10 := by rw [← hl1]; exact vl_le r
 have hm2 : m = l1 + r + 8 := by rw [← hm, HCB.out, List.length_append, List.length_append, kb_len, hl, hl1]; omega
 rw [hl1] at P1
 have HL1 := hid_intro hl1
 have HLB := hid_intro hl
 clear hl1 hl2 hl hm
 generalize hB : x.sep.drop p = B at *
 have HBB := hid_intro hB
 generalize vform r = A at *
 clear hB
 have HSP : Hid (splice (splice (splice cs q A) (q + l1) B) (q + l1 + r) (kb x.kid) = splice cs q (A ++ (B ++ kb x.kid))) := splice_three HL1.out HLB.out (by rw [kb_len]; omega)
 have HS1 : Hid ((splice cs q A).length = cs.length) := splice_len (by rw [HL1.out]; omega)
 have HS2 : Hid ((splice (splice cs q A) (q + l1) B).length = cs.length) := by show _ = _; rw [splice_len (by rw [HS1.out, HLB.out]; omega)]; exact HS1.out
 have ga := World.grownBy_alloc w (.cells #[.int .i64 no, .int .i64 ks] 61) none
 have k0 : Hid ((w.alloc (.cells #[.int .i64 no, .int .i64 ks] 61)).cell? ⟨w.heap.size, 0, none⟩ = some (.int .i64 no)) := by show _ = _; rw [cell_of_row _ w.heap.size 0 _ _ (0, 0) (heap_alloc_new w _)]; rfl
 have k1 : Hid ((w.alloc (.cells #[.int .i64 no, .int .i64 ks] 61)).cell? ⟨w.heap.size, 1, none⟩ = some (.int .i64 ks)) := by show _ = _; rw [cell_of_row _ w.heap.size 1 _ _ (0, 0) (heap_alloc_new w _)]; rfl
 have HG := hid_intro ga
 have HR := hid_intro (hr.keptN ga)
 have HS := hid_intro (hs.keptN ga)
 have hGl := hr.lt
 have HNE : Hid (w.heap.size ≠ G) := fun e => by omega
 have g1 : (l1 : Int) ≤ (m : Int) := by omega
 have g2 : (0 : Int) ≤ (l1 : Int) := by omega
 have g3 : ¬ m = l1 := by omega
 have g4 : (l1 : Int) + (r : Int) + 8 ≤ (m : Int) := by omega
 have g5 : (0 : Int) ≤ (l1 : Int) + (r : Int) := by omega
 clear hr hs ga hGl
 go_enter Tryz.func57, Tryz.ntmps57
 go_wp2_with fail
 have K0 := k0.out
 have K1 := k1.out
 clear k0 k1
 generalize w.alloc (.cells #[.int .i64 no, .int .i64 ks] 61) = w1 at *
 generalize w.heap.size = Q at *
 refine (P1.out _).mono ?_
 rintro en w2 ⟨rfl, hb2, hg2, hs2⟩
 have R2 := hid_intro (HR.out.keptN hg2)
 have B2 := hid_intro hb2
 have S2 := hid_intro (HS.out.keptN hg2)
 have G2 := hid_intro (grown_trans HG.out hg2)
 have u0 := hg2.cell K0 (by simp)
 have u1 := hg2.cell K1 (by simp)
 clear hb2 hg2 hs2 HR HS HG K0 K1
 go_wp2_with (refine wpList_copy_rt rfl _ _ rfl _ _ _ _ _ _ rfl rfl G q 81 cs A R2.out B2.out (by omega) (fun _ => rfl) (by omega) ?_)
 intro w3 hr3 hg3 hs3
 have R3 := hid_intro hr3
 have S3 := hid_intro (S2.out.kept hg3 (fun ad e h e2 => hsb ad e h (Option.some.inj e2)))
 have G3 := hid_intro (grown_trans (grown_any G2.out) hg3)
 have v0 := hg3.cell u0 (fun e => HNE.out (Option.some.inj e))
 have v1 := hg3.cell u1 (fun e => HNE.out (Option.some.inj e))
 clear hr3 hg3 hs3 R2 B2 S2 G2 u0 u1
 go_wp2_with (refine wpList_copy_rt rfl _ _ rfl _ _ _ _ _ _ rfl rfl G (q + l1) 81 (splice cs q A) B R3.out S3.out (by omega) (fun _ => rfl) (by rw [HS1.out]; omega) ?_)
 intro w4 hr4 hg4 hs4
 have R4 := hid_intro hr4
 have G4 := hid_intro (grown_trans G3.out hg4)
 have u0 := hg4.cell v0 (fun e => HNE.out (Option.some.inj e))
 have u1 := hg4.cell v1 (fun e => HNE.out (Option.some.inj e))
 clear hr4 hg4 hs4 R3 S3 G3 v0 v1
 go_wp2_with fail
 obtain ⟨d, hd⟩ : ∃ d, l1 + r = d := ⟨_, rfl⟩
 have hdd : (l1 : Int) + (r : Int) = (d : Int) := by omega
 rw [hdd]
 have HD := hid_intro hd
 obtain ⟨D, hD⟩ : ∃ D, d + 8 = D := ⟨_, rfl⟩
 have e7 : IntKind.i64.wrap ((d : Int) + 8) = (D : Int) := by simp [IntKind.wrap, IntKind.bits, IntKind.signed]; omega
 have e8 : D - d = 8 := by omega
 have e9 : (D : Int) ≤ (l1 : Int) + (r : Int) + 8 := by omega
 have e10 : max (D : Int) 0 = (D : Int) := by omega
 have e11 : d ≤ D := by omega
 have e12 : ¬ D = d := by omega
 have e13 : (0 : Int) ≤ (D : Int) := by omega
 have hqd : q + d + 8 ≤ cs.length := by omega
 clear hdd hd hm2 g1 g2 g3 g4 g5 hq hD
 go_region_law ((go_simp; go_at_call 55; refine (layKid_any G (q + d) (splice (splice cs q A) (q + l1) B) x.kid no ks _ (by exact R4.out.keptN ((Qt.refl _).drew.grown none)) hk h1 h2 (by rw [HS2.out]; omega)).mono ?_; rintro en w5 ⟨rfl, hr5', hg5⟩))
 all_goals
  have HR5 := hid_intro hr5'
  have HG5 := hid_intro (grown_trans (grown_trans G4.out ((Qt.refl _).drew.grown _)) hg5)
  clear hr5' hg5
  go_wp2
  refine Go.Great.bodyPost_end0 rfl rfl ?_
  refine ⟨rfl, ?_, HG5.out⟩
  rw [HCB.out, ← HSP.out, Nat.add_assoc q l1 r, HD.out]
  exact HR5.out
end Go.Proofs.YtnfelndfpmnkmaaGreatDoor
namespace Go.Proofs.YtnfelndfpmnkmaaGreatDoor
theorem bcells_snoc (p : Nat) : ∀ (L : List Sk) (i : Nat), i < L.length → bcells p (L.take (i + 1)) = bcells p (L.take i) ++ bcb p (L.getD i sk0)
 | x :: L, 0, _ => by simp [bcells]
 | x :: L, i + 1, h => by
  have := bcells_snoc p L i (by simpa using h)
  simp only [List.take_succ_cons, bcells, List.getD_cons_succ]
  rw [this, List.append_assoc]
theorem bslots_snoc (p : Nat) : ∀ (L : List Sk) (a i : Nat), i < L.length → bslots p a (L.take (i + 1)) = bslots p a (L.take i) ++ lb 2 (a + (bcells p (L.take i)).length)
 | x :: L, a, 0, _ => by simp [bslots, bcells]
 | x :: L, a, i + 1, h => by
  have := bslots_snoc p L (a + (bcb p x).length) i (by simpa using h)
  simp only [List.take_succ_cons, bslots, bcells]
  rw [this, List.append_assoc, List.length_append, Nat.add_assoc]
def bcst (lv : Int) (L : List Sk) : Nat := bkst lv L + 8
def blaid (lv : Int) (k : Kd) (L : List Sk) (i : Nat) : List Int :=
 bhead lv L ++ (bslots (bpre (seps L)) (bcst lv L) (L.take i) ++ (List.replicate (2 * (L.length - i)) 0 ++ (kb k ++ (bcells (bpre (seps L)) (L.take i) ++ List.replicate (4092 - (bcst lv L + (bcells (bpre (seps L)) (L.take i)).length)) 0))))
theorem bcells_mono (p : Nat) : ∀ (L : List Sk) (i : Nat), (bcells p (L.take i)).length ≤ (bcells p L).length
 | [], i => by simp [bcells]
 | x :: L, 0 => by simp [bcells]
 | x :: L, i + 1 => by
  have := bcells_mono p L i
  simp only [List.take_succ_cons, bcells, List.length_append]
  omega
theorem blaid_zero (lv : Int) (k : Kd) (L : List Sk) (h : bcst lv L ≤ 4092) : splice (splice (List.replicate 4092 0) 0 (bhead lv L)) (bkst lv L) (kb k) = blaid lv k L 0 := by
 have h' : (bhead lv L).length + 2 * L.length + 8 ≤ 4092 := h
 have e1 : splice (List.replicate 4092 0) 0 (bhead lv L) = (bhead lv L ++ List.replicate (2 * L.length) 0) ++ (List.replicate 8 0 ++ List.replicate (4092 - bcst lv L) 0) := by
  unfold splice
  rw [List.take_zero, List.nil_append, Nat.zero_add, List.drop_replicate, List.replicate_append_replicate, List.append_assoc, List.replicate_append_replicate]
  congr 2
  have : bcst lv L = (bhead lv L).length + 2 * L.length + 8 := rfl
  omega
 rw [e1, splice_mid (by rw [List.length_append, List.length_replicate]; rfl) (by rw [kb_len, List.length_replicate])]
 unfold blaid
 simp only [List.take_zero, bslots, bcells, List.nil_append, List.length_nil, Nat.add_zero, Nat.sub_zero, List.append_assoc]
theorem blaid_all (lv : Int) (k : Kd) (L : List Sk) : blaid lv k L L.length = bbody lv k L := by
 unfold blaid bbody
 rw [List.take_length, Nat.sub_self, Nat.mul_zero, List.replicate_zero, List.nil_append]
 have e : 4092 - (bcst lv L + (bcells (bpre (seps L)) L).length) = 4092 - (bused lv k L).length := by
  unfold bused
  rw [List.length_append, List.length_append, List.length_append, bslots_len, kb_len]; unfold bcst bkst; omega
 rw [e]
 generalize 4092 - (bused lv k L).length = z
 unfold bused bcst
 simp only [List.append_assoc]
theorem blaid_step (lv : Int) (k : Kd) (L : List Sk) (i : Nat) (hi : i < L.length) (h : bcst lv L + (bcells (bpre (seps L)) (L.take i)).length + (bcb (bpre (seps L)) (L.getD i sk0)).length ≤ 4092) :
  splice (splice (blaid lv k L i) ((bhead lv L).length + 2 * i) (lb 2 (bcst lv L + (bcells (bpre (seps L)) (L.take i)).length))) (bcst lv L + (bcells (bpre (seps L)) (L.take i)).length) (bcb (bpre (seps L)) (L.getD i sk0)) = blaid lv k L (i + 1) := by
 have hs := bslots_len (bpre (seps L)) (L.take i) (bcst lv L)
 rw [List.length_take] at hs
 have e1 : splice (blaid lv k L i) ((bhead lv L).length + 2 * i) (lb 2 (bcst lv L + (bcells (bpre (seps L)) (L.take i)).length)) =
   (bhead lv L ++ bslots (bpre (seps L)) (bcst lv L) (L.take (i + 1))) ++ (List.replicate (2 * (L.length - (i + 1))) 0 ++ (kb k ++ (bcells (bpre (seps L)) (L.take i) ++ List.replicate (4092 - (bcst lv L + (bcells (bpre (seps L)) (L.take i)).length)) 0))) := by
  unfold blaid
  rw [show 2 * (L.length - i) = 2 + 2 * (L.length - (i + 1)) by omega, ← List.replicate_append_replicate, List.append_assoc (List.replicate 2 0), ← List.append_assoc (bhead lv L), splice_mid (by rw [List.length_append, hs]; omega) (by rw [lb_len, List.length_replicate]), bslots_snoc _ _ _ _ hi]
  simp only [List.append_assoc]
 rw [e1]
 have hs1 := bslots_len (bpre (seps L)) (L.take (i + 1)) (bcst lv L)
 rw [List.length_take] at hs1
 have hX : ((bhead lv L ++ bslots (bpre (seps L)) (bcst lv L) (L.take (i + 1))) ++ (List.replicate (2 * (L.length - (i + 1))) 0 ++ (kb k ++ bcells (bpre (seps L)) (L.take i)))).length = bcst lv L + (bcells (bpre (seps L)) (L.take i)).length := by
  simp only [List.length_append, hs1, List.length_replicate, kb_len]
  unfold bcst bkst; omega
 rw [show (bhead lv L ++ bslots (bpre (seps L)) (bcst lv L) (L.take (i + 1))) ++ (List.replicate (2 * (L.length - (i + 1))) 0 ++ (kb k ++ (bcells (bpre (seps L)) (L.take i) ++ List.replicate (4092 - (bcst lv L + (bcells (bpre (seps L)) (L.take i)).length)) 0))) =
  ((bhead lv L ++ bslots (bpre (seps L)) (bcst lv L) (L.take (i + 1))) ++ (List.replicate (2 * (L.length - (i + 1))) 0 ++ (kb k ++ bcells (bpre (seps L)) (L.take i)))) ++ (List.replicate (bcb (bpre (seps L)) (L.getD i sk0)).length 0 ++ List.replicate (4092 - (bcst lv L + (bcells (bpre (seps L)) (L.take (i + 1))).length)) 0) by
   rw [List.replicate_append_replicate, bcells_snoc _ _ _ hi, List.length_append]
   simp only [List.append_assoc]
   rw [show (bcb (bpre (seps L)) (L.getD i sk0)).length + (4092 - (bcst lv L + ((bcells (bpre (seps L)) (L.take i)).length + (bcb (bpre (seps L)) (L.getD i sk0)).length))) = 4092 - (bcst lv L + (bcells (bpre (seps L)) (L.take i)).length) by omega]]
 rw [splice_mid hX (by simp)]
 unfold blaid
 rw [bcells_snoc _ _ _ hi]
 simp only [List.append_assoc]
theorem blaid_len (lv : Int) (k : Kd) (L : List Sk) (i : Nat) (hi : i ≤ L.length) (h : bcst lv L + (bcells (bpre (seps L)) (L.take i)).length ≤ 4092) : (blaid lv k L i).length = 4092 := by
 unfold blaid
 simp only [List.length_append, bslots_len, List.length_replicate, List.length_take, kb_len]
 have : bcst lv L = (bhead lv L).length + 2 * L.length + 8 := rfl
 omega
theorem bcst_le (lv : Int) (k : Kd) {L : List Sk} (h2 : bsize (seps L) ≤ 4092) (i : Nat) : bcst lv L + (bcells (bpre (seps L)) (L.take i)).length ≤ 4092 := by
 have h1 := bused_len lv k L
 have h3 := bcells_mono (bpre (seps L)) L i
 unfold bused at h1
 rw [List.length_append, List.length_append, List.length_append, bslots_len, kb_len] at h1
 unfold bcst bkst
 omega
theorem info_arrB : ((Tryz.prog.info? 81).bind (fun i => i.zero)).map (fun z => z.cells) = some ((List.replicate 4092 (Value.int .u8 0)).toArray) := by kernel_rfl
theorem arrB_parts : ∃ i z, Tryz.prog.info? 81 = some i ∧ i.zero = some z ∧ z.cells = ((List.replicate 4092 (0 : Int)).map (Value.int .u8)).toArray := by
 obtain ⟨z, h1, h2⟩ := Option.map_eq_some_iff.1 info_arrB
 obtain ⟨i, h3, h4⟩ := Option.bind_eq_some_iff.1 h1
 exact ⟨i, z, h3, h4, by rw [List.map_replicate]; exact h2⟩
theorem wpList_alloc_arr {w : World} {ops : Array Oper} {rest : List Oper} {o : Oper} {a : Act} {Q : Exit → Act → World → Prop} (hgd : o.guard = none) (ho : o.op = .alloc 81) (Z : List Int) (hZ : Z = List.replicate 4092 0)
  (h : ∀ w', Rt w' w.heap.size 81 Z → w.grownBy w' none → w'.heap.size = w.heap.size + 1 → wpList Tryz.prog ops Q rest (a.put o.dst (.pointer (some ⟨w.heap.size, 0, none⟩))) w') : wpList Tryz.prog ops Q (o :: rest) a w := by
 obtain ⟨i, z, h1, h2, h3⟩ := arrB_parts
 refine Go.Great.wpList_allocTo hgd o.dst rfl (.pointer (some ⟨w.heap.size, 0, none⟩)) (.cells z.cells 81) ?_ (h _ ?_ (World.grownBy_alloc w _ none) (by simp))
 ·simp [execOp, ho, Instr.alloc, zeroValue, typeInfo, newVar, newRow, h1, h2]
 ·rw [h3, hZ]
  exact heap_alloc_new w _
end Go.Proofs.YtnfelndfpmnkmaaGreatDoor
