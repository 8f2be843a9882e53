import Derived.Test.YtkiopabcnemgnaaGreatDoorK6
import Derived.Laws.AppendOwnNone
import Derived.Test.YtkiopabcnemgnaaGreatDoorK14
import Derived.Laws.BitsAllLaws
set_option maxRecDepth 100000
set_option maxHeartbeats 2000000
namespace Go.Proofs.YtkiopabcnemgnaaGreatDoor
open Go.RowKit
theorem Byt.heap {w w' : World} {ao : Option Addr} {n cap : Nat} {zs : List Int} (h : Byt w ao n cap zs) (e : w'.heap = w.heap) : Byt w' ao n cap zs :=
 ⟨h.len, h.nil, fun ad had j u hu => (World.cell?_of_block (by rw [e])).trans (h.cells ad had j u hu)⟩
theorem wpList_append_byt {w : World} {ops : Array Oper} {rest : List Oper} {o : Oper} {a : Act} {Q : Exit → Act → World → Prop} (hgd : o.guard = none) (s x : Operand)
  (ho : o.op = .call { callee := .builtin .append, args := #[s, x], argTypes := #[25, 25] })
  (base : Nat) (v : Value) (n : Nat) (zs : List Int) (hs : a.eval s = v) (hown : w.ownsRow base 5 1 v n (zs.map (Value.int .u8)))
  (ao : Option Addr) (m c : Nat) (ts : List Int) (hx : a.eval x = .slice ao m c) (hb : Byt w ao m c ts) (h63 : n + m ≤ 140737488355328) (hbase : base ≤ w.heap.size)
  (h : ∀ v' w', w'.ownsRow base 5 1 v' (n + m) ((zs ++ ts).map (Value.int .u8)) → w.grownBy w' v.ownBlock → wpList Tryz.prog ops Q rest (a.put o.dst v') w') : wpList Tryz.prog ops Q (o :: rest) a w := by
 obtain ⟨i0, hi, hz0, hz1, hz2⟩ := info_parts info_u8;cases ao with
 | none =>
  obtain ⟨rfl, rfl⟩ := hb.nil rfl;have ht : ts = [] := List.length_eq_zero_iff.1 hb.len;subst ht;refine wpList_append_own_none hgd s x 25 ho base 5 i0 1 Tryz.underlying25 hi v n _ hs hown hx ?_;exact h v w (by rw [List.append_nil]; exact hown) (World.grownBy.refl _ _)
 | some ad =>
  refine wpList_append_own w hgd s x 25 ho base 5 i0 (.int .u8 0) 1 1 Tryz.underlying25 hi hz0 hz1 hz2 rfl (by decide) v n _ hs hown ad m c (ts.map (Value.int .u8)) hx (by rw [List.length_map, hb.len, Nat.mul_one]) (hb.cells ad rfl) (ints_oneCell _ _) (by unfold maxLen; omega) (by omega) hbase ?_;intro v' w' h1 h2 _;exact h v' w' (by rw [List.map_append]; exact h1) h2
theorem owns_shape {w : World} {base n : Nat} {v : Value} {xs : List Value} (h : w.ownsRow base 5 1 v n xs) (hn : 0 < n) :
  ∃ g cap, v = .slice (some ⟨g, 0, none⟩) n cap ∧ base ≤ g ∧ g < w.heap.size ∧ n ≤ cap := by
 rcases h.2 with ⟨_, h0⟩ | ⟨g, cap, cur, hv, hb, hg, hc, _⟩
 ·omega
 ·exact ⟨g, cap, hv, hb, (Array.getElem?_eq_some_iff.1 hg).1, hc⟩
theorem refBytes_any (ao : Option Addr) (n cap : Nat) (zs : List Int) (w : World) (hb : Byt w ao n cap zs) (hn : n ≤ 140737488351232) :
  Calls Tryz.prog 19 #[.slice ao n cap] w fun e w' =>
   e = .returned (.slice (some ⟨w.heap.size, 0, none⟩) n n) ∧
   w'.ownsRow w.heap.size 5 1 (.slice (some ⟨w.heap.size, 0, none⟩) n n) n (zs.map (Value.int .u8)) ∧ w.grownBy w' none ∧ w.heap.size < w'.heap.size := by
 obtain ⟨i0, hi, hz0, hz1, hz2⟩ := info_parts info_u8;have HB : Hid (Byt w ao n cap zs) := hb;clear hb;go_enter Tryz.func19, Tryz.ntmps19
 go_wp2_with (at_make; refine wpList_make_own _ rfl _ _ 25 rfl w.heap.size 5 i0 (.int .u8 0) 1 Tryz.underlying25 hi hz0 hz1 _ _ _ n rfl rfl rfl ?b2 ?b3 (Nat.le_refl _) ?_)
 case b2 => rw [hz2]; omega
 case b3 => unfold maxLen; omega
 intro w0 hown0 hgrow0;have hb0 := HB.out.keptN hgrow0
 go_wp2_with (at_builtin; refine wpList_append_fits_any _ rfl _ _ 25 rfl w.heap.size 5 i0 1 Tryz.underlying25 hi hz1 w.heap.size 0 n _ rfl hown0 _ n _ (zs.map (Value.int .u8)) rfl (by rw [List.length_map, hb0.len, Nat.mul_one]) hb0.nil hb0.cells (ints_oneCell _ _) (by omega) ?_)
 intro w1 hown1 hgrow1
 have hg : w.grownBy w1 none := ⟨hgrow1.os.trans hgrow0.os, hgrow1.tape.trans hgrow0.tape, hgrow1.output.trans hgrow0.output, Nat.le_trans hgrow0.size hgrow1.size,
  fun k hk _ => (hgrow1.block k (by have := hgrow0.size; omega) (by intro e; have := Option.some.inj e; omega)).trans (hgrow0.block k hk (by simp))⟩
 have hs : w.heap.size < w1.heap.size := (hown1.lt w.heap.size rfl).2;go_wp2;go_ret;exact ⟨rfl, hown1, hg, hs⟩
theorem owns_any {w : World} {base n : Nat} {v : Value} {zs : List Int} (h : w.ownsRow base 5 1 v n (zs.map (Value.int .u8))) :
  ∃ ao cap, v = .slice ao n cap ∧ Byt w ao n cap zs := by
 rcases h.2 with ⟨rfl, rfl⟩ | ⟨g, cap, cur, rfl, _⟩
 ·have : zs = [] := by have := h.1; simpa using this
  subst this;exact ⟨none, 0, rfl, Byt.empty w⟩
 ·exact ⟨_, cap, rfl, Byt.of_owns h⟩
theorem grown_own {w wr w1 : World} {o : Obj} {base n : Nat} {v : Value} {xs : List Value} (hg : w.grownBy wr none) (hown : wr.ownsRow base 5 1 v n xs) (hb : w.heap.size ≤ base) (h : (wr.alloc o).grownBy w1 v.ownBlock) : w.grownBy w1 none := by
 refine ⟨h.os.trans hg.os, h.tape.trans hg.tape, h.output.trans hg.output, ?_, fun k hk _ => ?_⟩
 ·have := h.size; have := hg.size; simp at *; omega
 ·have hk2 : k < wr.heap.size := Nat.lt_of_lt_of_le hk hg.size
  rw [h.block k (by simp; omega) (by intro e; have := (hown.lt k e.symm).1; omega), Below.heap_alloc wr o k hk2];exact hg.block k hk (by simp)
theorem hJ {p : Prop} (h : p) : Hid p := h
structure Ow (w : World) (g cap : Nat) (zs : List Int) : Prop where
 ex : ∃ cur : Array Value, w.heap[g]? = some (.cells cur 5 (0, 0)) ∧ cur.size = cap ∧ ∀ j, j < zs.length → cur[j]? = some (.int .u8 (zs.getD j 0))
 le : zs.length ≤ cap
 max : cap ≤ 9223372036854775807
theorem Ow.of_owns {w : World} {base g n cap : Nat} {zs : List Int} (h : w.ownsRow base 5 1 (.slice (some ⟨g, 0, none⟩) n cap) n (zs.map (Value.int .u8))) : Ow w g cap zs ∧ zs.length = n ∧ base ≤ g ∧ g < w.heap.size := by
 have hl : zs.length = n := by have := h.1; simpa using this
 have hlt := h.lt g rfl;rcases h.2 with ⟨e, _⟩ | ⟨g', cap', cur, hv, hb, hg, hc, hm, hs, ht⟩
 ·cases e
 ·injection hv with e1 _ e3
  simp only [Option.some.injEq, Addr.mk.injEq] at e1;obtain ⟨rfl, _⟩ := e1;subst e3;refine ⟨⟨⟨cur, hg, by simpa using hs, fun j hj => ?_⟩, by omega, by unfold maxLen at hm; omega⟩, hl, hlt⟩;have e : (cur.toList.take (n * 1))[j]? = (zs.map (Value.int .u8))[j]? := by rw [ht]
  rw [List.getElem?_take, if_pos (by omega), Array.getElem?_toList] at e;rw [e];simp [List.getD, List.getElem?_eq_getElem hj]
theorem Ow.cell {w : World} {g cap : Nat} {zs : List Int} (h : Ow w g cap zs) {j : Nat} (hj : j < zs.length) : w.cell? ⟨g, j, none⟩ = some (.int .u8 (zs.getD j 0)) := by
 obtain ⟨cur, h1, _, h3⟩ := h.ex;rw [cell_of_row w g j _ _ _ h1]; exact h3 j hj
theorem Ow.frozen {w : World} {g cap : Nat} {zs : List Int} (h : Ow w g cap zs) (j : Nat) : w.frozen? ⟨g, j, none⟩ = false := by
 obtain ⟨cur, h1, _, _⟩ := h.ex;exact frozen_of_row w g j _ _ h1
theorem Ow.lt {w : World} {g cap : Nat} {zs : List Int} (h : Ow w g cap zs) : g < w.heap.size := by
 obtain ⟨cur, h1, _, _⟩ := h.ex;exact (Array.getElem?_eq_some_iff.1 h1).1
theorem Ow.byt {w : World} {g cap : Nat} {zs : List Int} (h : Ow w g cap zs) (n : Nat) (hn : n = zs.length) : Byt w (some ⟨g, 0, none⟩) n cap zs := by
 subst hn;exact Byt.of_cells rfl fun i hi => by rw [Nat.zero_add]; exact h.cell hi
theorem Ow.same {w w' : World} {g cap : Nat} {zs : List Int} (h : Ow w g cap zs) (e : w'.heap[g]? = w.heap[g]?) : Ow w' g cap zs := by
 obtain ⟨cur, h1, h2, h3⟩ := h.ex;exact ⟨⟨cur, e.trans h1, h2, h3⟩, h.le, h.max⟩
theorem Ow.kept {w w' : World} {g cap : Nat} {zs : List Int} {row : Option Nat} (h : Ow w g cap zs) (hg : w.grownBy w' row) (hne : some g ≠ row) : Ow w' g cap zs := h.same (hg.block g h.lt hne)
theorem Ow.keptN {w w' : World} {g cap : Nat} {zs : List Int} (h : Ow w g cap zs) (hg : w.grownBy w' none) : Ow w' g cap zs := h.kept hg (by simp)
theorem Ow.part {w : World} {g cap : Nat} {xs ys : List Int} (h : Ow w g cap (xs ++ ys)) : Ow w g cap xs := by
 obtain ⟨cur, h1, h2, h3⟩ := h.ex;have := h.le;simp at this;refine ⟨⟨cur, h1, h2, fun j hj => ?_⟩, by omega, h.max⟩;rw [h3 j (by simp; omega)];simp [List.getD, List.getElem?_append_left hj]
theorem Ow.set {w : World} {g cap : Nat} {zs : List Int} (h : Ow w g cap zs) (i : Nat) (v : Int) (_hi : i < zs.length) : Ow (w.setCell ⟨g, i, none⟩ (.int .u8 v)) g cap (zs.set i v) := by
 obtain ⟨cur, h1, h2, h3⟩ := h.ex;refine ⟨⟨cur.setIfInBounds i (.int .u8 v), heap_setCell_same w g i cur _ _ h1, by simpa using h2, fun j hj => ?_⟩, by simpa using h.le, h.max⟩;have hj' : j < zs.length := by simpa using hj
 have hjc : j < cur.size := by have := h.le; omega
 by_cases e : i = j
 ·subst e
  simp [List.getD, hj', hjc]
 ·rw [Array.getElem?_setIfInBounds_ne e, h3 j hj']
  simp [List.getD, e]
theorem grown_cell (w : World) (g j : Nat) (v : Value) : w.grownBy (w.setCell ⟨g, j, none⟩ v) (some g) :=
 ⟨rfl, rfl, rfl, by simp, fun k _ hk => heap_setCell_other w ⟨g, j, none⟩ k _ (fun e => hk (by simp [e]))⟩
def Tab (w : World) : Prop := ∀ i, i < 16 → w.cell? ⟨2, i, none⟩ = some (.int .u32 ((tab.getD i 0 : Nat) : Int))
theorem Tab.kept {w w' : World} {row : Option Nat} (h : Tab w) (hg : w.grownBy w' row) (hne : row ≠ some 2) : Tab w' := by
 intro i hi;exact hg.cell (h i hi) (by intro e; exact hne e.symm)
theorem Tab.keptN {w w' : World} (h : Tab w) (hg : w.grownBy w' none) : Tab w' := h.kept hg (by simp)
theorem stepFour_any (r : Nat) (w : World) (hr : r < 4294967296) (ht : Tab w) :
  Calls Tryz.prog 148 #[.int .u32 r] w fun e w' => e = .returned (.int .u32 ((stps 4 r : Nat) : Int)) ∧ w' = w := by
 have hc : w.cell? ⟨2, r % 16, none⟩ = some (.int .u32 ((tab.getD (r % 16) 0 : Nat) : Int)) := ht _ (Nat.mod_lt _ (by decide));have hx := u32_xor_nat (r / 16) (tab.getD (r % 16) 0) (by omega) (tab_lt _);rw [← four_steps] at hx;clear ht;go_enter Tryz.func148, Tryz.ntmps148;go_wp2;go_ret;refine ⟨congrArg Ending.returned (congrArg (Value.int IntKind.u32) ?_), rfl⟩;rw [← hx];simp [List.getD]
theorem u32_not (c : Nat) (h : c < 4294967296) : bits .xor .u32 4294967295 (c : Int) = ((4294967295 - c : Nat) : Int) := by
 have := u32_xor_nat 4294967295 c (by decide) h;rw [← not_xor h] at this;exact this
theorem runs_snoc (r : Nat) (zs : List Int) (z : Int) : runs r (zs ++ [z]) = stps 8 (runs r zs ^^^ z.toNat) := by
 rw [runs_app, runs_cons, runs_nil]
theorem takeC_snoc (zs : List Int) (i : Nat) (h : i < zs.length) : zs.take (i + 1) = zs.take i ++ [zs.getD i 0] := by
 rw [List.take_add_one, List.getElem?_eq_getElem h]; simp [List.getD, List.getElem?_eq_getElem h]
theorem bts {zs : List Int} (h : Bt zs) : Bts zs := h
theorem update_any (c : Nat) (ao : Option Addr) (n cap : Nat) (zs : List Int) (w : World) (hc : c < 4294967296) (hb : Byt w ao n cap zs) (bt : Bt zs) (ht : Tab w) (hn : n ≤ 140737488351232) :
  Calls Tryz.prog 114 #[.int .u32 c, .slice ao n cap] w fun e w' => e = .returned (.int .u32 ((upd c zs : Nat) : Int)) ∧ w' = w := by
 have HB : Hid (Byt w ao n cap zs) := hb;have HT : Hid (Tab w) := ht;have HL : Hid (zs.length = n) := hb.len;have hnot := u32_not c hc;clear hb ht;go_enter Tryz.func114, Tryz.ntmps114;go_wp2;go_loopw [5, 12] (fun sr si wr => ∃ i : Nat, i ≤ n ∧ si = .int .i64 i ∧ sr = .int .u32 ((runs (4294967295 - c) (zs.take i) : Nat) : Int) ∧ wr = w) (fun _ si _ => n - (intOf si).toNat)
 case atStart => exact ⟨0, by omega, rfl, by rw [List.take_zero, runs_nil, ← hnot]; rfl, rfl⟩
 case round =>
  obtain ⟨i, hi, rfl, rfl, rfl⟩ := hrel;have hrl : runs (4294967295 - c) (zs.take i) < 4294967296 := runs_lt (bts (bt.take i)) (by omega)
  by_cases hlt : i < n
  ·obtain ⟨b, off, rfl, hbs, hcell⟩ := HB.out.at (by omega)
   have hci := hcell i hlt;have hz := bt.getD i;obtain ⟨z, hzz⟩ : ∃ z : Nat, zs.getD i 0 = (z : Int) := ⟨(zs.getD i 0).toNat, by omega⟩;have hx := u32_xor_nat (runs (4294967295 - c) (zs.take i)) z hrl (by omega);have hlx := xor_lt hrl (show z < 4294967296 by omega);rw [hzz] at hci;have hz2 : z ≤ 255 := by omega
   have hr2 : runs (4294967295 - c) (zs.take (i + 1)) = stps 4 (stps 4 (runs (4294967295 - c) (zs.take i) ^^^ z)) := by
    rw [takeC_snoc zs i (by have := HL.out; omega), runs_snoc, hzz, Int.toNat_natCast, show (8 : Nat) = 4 + 4 by decide, stps_add]
   clear hcell hz hzz;have HR := hJ hr2;clear hr2;generalize runs (4294967295 - c) (zs.take i) = r at *
   go_wp2_with fail
   refine (stepFour_any _ _ hlx HT.out).mono ?_;rintro e w' ⟨rfl, rfl⟩;have hl2 := stps_lt 4 hlx
   go_wp2_with fail
   refine (stepFour_any _ _ hl2 HT.out).mono ?_;rintro e w' ⟨rfl, rfl⟩;go_wp2;go_roundw
   case rel => exact ⟨i + 1, by omega, by go_num, by rw [HR.out], by trivial⟩
   case measure => simp [intOf]; omega
  ·have hin : i = n := by omega
   have htk : zs.take i = zs := List.take_of_length_le (by have := HL.out; omega);rw [htk] at hrl ⊢;have hnot2 := u32_not _ hrl;have HR := hJ hnot2;clear hnot2 htk;generalize hgen : runs (4294967295 - c) zs = r at *;have HG := hJ hgen;clear hgen;go_wp2;go_ret;refine ⟨congrArg Ending.returned (congrArg (Value.int IntKind.u32) ?_), rfl⟩;have h2 := HR.out;unfold upd;rw [HG.out, ← h2]; rfl
theorem sum_any (ao : Option Addr) (n cap : Nat) (zs : List Int) (w : World) (hb : Byt w ao n cap zs) (bt : Bt zs) (ht : Tab w) (hn : n ≤ 140737488351232) :
  Calls Tryz.prog 86 #[.slice ao n cap] w fun e w' => e = .returned (.int .u32 ((upd 0 zs : Nat) : Int)) ∧ w' = w := by
 go_enter Tryz.func86, Tryz.ntmps86
 go_wp2_with fail
 refine (update_any 0 ao n cap zs w (by decide) hb bt ht hn).mono ?_;rintro e w' ⟨rfl, rfl⟩;have hl := upd_lt 0 zs;generalize hs : upd 0 zs = s at *;have HS := hJ hs;clear hs hb bt ht;go_wp2;go_ret;rw [HS.out];exact ⟨rfl, rfl⟩
def arr4 (s : Nat) : Value := .agg #[.int .u8 ((s % 256 : Nat) : Int), .int .u8 ((s / 256 % 256 : Nat) : Int), .int .u8 ((s / 65536 % 256 : Nat) : Int), .int .u8 ((s / 16777216 % 256 : Nat) : Int)]
theorem sumBytes_any (ao : Option Addr) (n cap : Nat) (zs : List Int) (w : World) (hb : Byt w ao n cap zs) (bt : Bt zs) (ht : Tab w) (hn : n ≤ 140737488351232) :
  Calls Tryz.prog 55 #[.slice ao n cap] w fun e w' => e = .returned (arr4 (upd 0 zs)) ∧ w.grownBy w' none := by
 go_enter Tryz.func55, Tryz.ntmps55
 go_wp2_with fail
 refine (sum_any ao n cap zs _ (hb.keptN (World.grownBy_alloc w _ none)) bt (ht.keptN (World.grownBy_alloc w _ none)) hn).mono ?_;rintro e w' ⟨rfl, rfl⟩;have hl := upd_lt 0 zs;generalize hs : upd 0 zs = s at *;have HS := hJ hs;clear hs hb bt ht;go_wp2;refine bodyPost_ret (results_cell_row rfl _ _ w.heap.size 99 _ (0, 0) _ rfl (heap_alloc_new _ _) Tryz.underlying99 rfl (by kernel_rfl)) rfl ?_;rw [HS.out];refine ⟨?_, World.grownBy_alloc w _ none⟩;unfold arr4;have h1 : ((s % 256 : Nat) : Int) = (s : Int) % 256 := by omega
 have h2 : ((s / 256 % 256 : Nat) : Int) = (s : Int) / 256 % 256 := by omega
 have h3 : ((s / 65536 % 256 : Nat) : Int) = (s : Int) / 65536 % 256 := by omega
 have h4 : ((s / 16777216 % 256 : Nat) : Int) = (s : Int) / 16777216 := by omega
 rw [h1, h2, h3, h4]
def Nw (w w' : World) (t : TypeId) (a : Option Addr) (n : Nat) : Prop := 0 < n → ∃ b cur, a = some ⟨b, 0, none⟩ ∧ w.heap.size ≤ b ∧ w'.heap[b]? = some (.cells cur t (0, 0))
theorem Nw.zero (w w' : World) (t : TypeId) (a : Option Addr) : Nw w w' t a 0 := fun h => by omega
theorem Nw.of_owns {w w' : World} {base sz n cap : Nat} {t : TypeId} {a : Option Addr} {xs : List Value} (h : w'.ownsRow base t sz (.slice a n cap) n xs) (hb : w.heap.size ≤ base) : Nw w w' t a n := by
 intro h0;rcases h.2 with ⟨_, h1⟩ | ⟨g, cap', cur, e, hg, hc, _⟩
 ·omega
 ·injection e with e1 _ _
  exact ⟨g, cur, e1, Nat.le_trans hb hg, hc⟩
theorem Nw.keptN {w w' w'' : World} {t : TypeId} {a : Option Addr} {n : Nat} (h : Nw w w' t a n) (hg : w'.grownBy w'' none) : Nw w w'' t a n := by
 intro h0;obtain ⟨b, cur, e1, e2, e3⟩ := h h0;exact ⟨b, cur, e1, e2, (hg.block b (Array.getElem?_eq_some_iff.1 e3).1 (by simp)).trans e3⟩
theorem Nw.from {w0 w w' : World} {t : TypeId} {a : Option Addr} {n : Nat} (h : Nw w w' t a n) (hs : w0.heap.size ≤ w.heap.size) : Nw w0 w' t a n := by
 intro h0;obtain ⟨b, cur, e1, e2, e3⟩ := h h0;exact ⟨b, cur, e1, Nat.le_trans hs e2, e3⟩
theorem refPut_any (ao : Option Addr) (n cap : Nat) (zs : List Int) (x d : Nat) (w : World) (hb : Byt w ao n cap zs) (hn : n ≤ 1099511627776) (_hx : x < 18446744073709551616) (hd : d ≤ 8) :
  Calls Tryz.prog 90 #[.slice ao n cap, .int .u64 x, .int .i64 d] w fun e w' => ∃ ao' cap', e = .returned (.slice ao' (n + d) cap') ∧ Byt w' ao' (n + d) cap' (zs ++ lb d x) ∧ w.grownBy w' none := by
 go_enter Tryz.func90, Tryz.ntmps90
 go_wp2_with fail
 refine (refBytes_any ao n cap zs _ hb (by omega)).mono ?_;rintro en w0 ⟨rfl, hown0, hg0, hs0⟩;clear hb;go_wp2;go_loopw [7, 8] (fun out si wr => ∃ (k : Nat), k ≤ d ∧ si = .int .i64 k ∧ wr.ownsRow w.heap.size 5 1 out (n + k) ((zs ++ lb k x).map (Value.int .u8)) ∧ w.grownBy wr none) (fun _ si _ => d - (intOf si).toNat)
 case atStart => exact ⟨0, by omega, rfl, by simpa [lb] using hown0, hg0⟩
 case round =>
  obtain ⟨k, hk, rfl, hown, hg⟩ := hrel
  by_cases hlt : k < d
  ·go_wp2_with (at_builtin; refine wpList_append_byt rfl _ _ rfl w.heap.size _ (n + k) (zs ++ lb k x) rfl (hown.alloc _) (some ⟨wr.heap.size, 0, none⟩) 1 1 [(x : Int) / 2 ^ (8 * k) % 256] rfl (Byt.lit wr 5 _ [(x : Int) / 2 ^ (8 * k) % 256] 1 rfl rfl) (by omega) (by have := hg.size; simp; omega) ?_)
   intro v' w1 h1 h2;have hg2 := grown_own hg hown (Nat.le_refl _) h2
   have hown2 : w1.ownsRow w.heap.size 5 1 v' (n + (k + 1)) ((zs ++ lb (k + 1) x).map (Value.int .u8)) := by
    rw [lb_snoc, List.map_append, List.map_append, ← Nat.add_assoc, ← shift_byte];simpa using h1
   clear h1 h2 hown;go_wp2;go_roundw
   case rel => exact ⟨k + 1, by omega, by go_num, hown2, hg2⟩
   case measure => simp [intOf]; omega
  ·have hkd : k = d := by omega
   subst hkd;obtain ⟨ao', cap', hv, hB⟩ := owns_any hown;subst hv;have HB : Hid (Byt wr ao' (n + k) cap' (zs ++ lb k x)) := hB;have HG : Hid (w.grownBy wr none) := hg;clear hB hown hg;go_wp2;go_ret;exact ⟨_, _, rfl, HB.out, HG.out⟩
theorem refPutV_any (ao : Option Addr) (n cap : Nat) (zs : List Int) (x : Nat) (w : World) (hb : Byt w ao n cap zs) (hn : n ≤ 1099511627776) (hx : x < 18446744073709551616) :
  Calls Tryz.prog 91 #[.slice ao n cap, .int .u64 x] w fun e w' => ∃ ao' cap', e = .returned (.slice ao' (n + (vform x).length) cap') ∧ Byt w' ao' (n + (vform x).length) cap' (zs ++ vform x) ∧ w.grownBy w' none := by
 have HL : Hid (zs.length = n) := hb.len;have hvl := vform_le x;go_enter Tryz.func91, Tryz.ntmps91
 go_wp2_with fail
 refine (refBytes_any ao n cap zs _ hb (by omega)).mono ?_;rintro en w0 ⟨rfl, hown0, hg0, hs0⟩;clear hb;go_wp2
 go_loopw [5, 1] (fun out sx wr => ∃ (f y : Nat) (pre : List Int), 1 ≤ f ∧ f ≤ 10 ∧ y < 2 * 128 ^ (f - 1) ∧ sx = .int .u64 y ∧ y < 18446744073709551616 ∧ pre ++ lf f y = zs ++ vform x ∧
   wr.ownsRow w.heap.size 5 1 out pre.length (pre.map (Value.int .u8)) ∧ w.grownBy wr none) (fun _ sx _ => (intOf sx).toNat)
 case atStart => exact ⟨10, x, zs, by omega, by omega, by simp; omega, rfl, hx, rfl, by rw [HL.out]; exact hown0, hg0⟩
 case round =>
  obtain ⟨f, y, pre, hf1, hf2, hy, rfl, hy64, hpre, hown, hg⟩ := hrel;have HP : Hid (pre ++ lf f y = zs ++ vform x) := hpre;have hpl : pre.length ≤ n + 10 := by have := congrArg List.length hpre; simp at this; have := HL.out; omega
  have HY : Hid (y < 2 * 128 ^ (f - 1)) := hy;clear hpre hy
  by_cases hlt : y < 128
  ·go_wp2_with (at_builtin; refine wpList_append_byt rfl _ _ rfl w.heap.size _ pre.length pre rfl (hown.alloc _) (some ⟨wr.heap.size, 0, none⟩) 1 1 [(y : Int)] rfl (Byt.lit wr 5 _ [(y : Int)] 1 rfl rfl) (by omega) (by have := hg.size; simp; omega) ?_)
   intro v' w1 h1 h2;have hg2 := grown_own hg hown (Nat.le_refl _) h2;have hfin : pre ++ [(y : Int)] = zs ++ vform x := by rw [← HP.out]; obtain ⟨f', rfl⟩ : ∃ f', f = f' + 1 := ⟨f - 1, by omega⟩; rw [lf_small f' y hlt]
   have hl1 : pre.length + 1 = n + (vform x).length := by have := congrArg List.length hfin; simp at this; have := HL.out; omega
   have h3 : w1.ownsRow w.heap.size 5 1 v' (n + (vform x).length) ((zs ++ vform x).map (Value.int .u8)) := by rw [← hfin, ← hl1]; simpa using h1
   obtain ⟨ao', cap', hv, hB⟩ := owns_any h3;subst hv;have HB : Hid (Byt w1 ao' (n + (vform x).length) cap' (zs ++ vform x)) := hB;have HG : Hid (w.grownBy w1 none) := hg2;clear hB hown hg h1 h2 h3 hfin hl1 hg2;go_wp2;go_ret;exact ⟨_, _, rfl, HB.out, HG.out⟩
  ·go_wp2_with (at_builtin; refine wpList_append_byt rfl _ _ rfl w.heap.size _ pre.length pre rfl (hown.alloc _) (some ⟨wr.heap.size, 0, none⟩) 1 1 [(y : Int) % 128 + 128] rfl (Byt.lit wr 5 _ [(y : Int) % 128 + 128] 1 rfl rfl) (by omega) (by have := hg.size; simp; omega) ?_)
   intro v' w1 h1 h2;have hg2 := grown_own hg hown (Nat.le_refl _) h2;obtain ⟨f', rfl⟩ : ∃ f', f = f' + 1 := ⟨f - 1, by omega⟩;have hy := HY.out;have hp := HP.out;rw [lf_big f' y hlt] at hp
   have hf' : 1 ≤ f' := by
    rcases Nat.eq_zero_or_pos f' with h | h
    ·subst h; simp at hy; omega
    ·exact h
   have hy2 : y / 128 < 2 * 128 ^ (f' - 1) := by
    rw [Nat.add_sub_cancel, show f' = (f' - 1) + 1 by omega, Nat.pow_succ] at hy;omega
   have hp2 : (pre ++ [(y : Int) % 128 + 128]) ++ lf f' (y / 128) = zs ++ vform x := by rw [← hp]; simp
   have HP2 : Hid ((pre ++ [(y : Int) % 128 + 128]) ++ lf f' (y / 128) = zs ++ vform x) := hp2;have HY2 : Hid (y / 128 < 2 * 128 ^ (f' - 1)) := hy2
   have H1 : Hid (w1.ownsRow w.heap.size 5 1 v' (pre ++ [(y : Int) % 128 + 128]).length ((pre ++ [(y : Int) % 128 + 128]).map (Value.int .u8))) := by
    show w1.ownsRow _ _ _ _ _ _
    simpa using h1
   clear hp hp2 hy hy2 HP HY h1 h2 hown;go_wp2;go_roundw
   case rel => exact ⟨f', y / 128, pre ++ [(y : Int) % 128 + 128], hf', by omega, HY2.out, by go_num, by omega, HP2.out, H1.out, hg2⟩
   case measure => simp [intOf]; omega
theorem refVLen_any (x : Nat) (w : World) (hx : x < 18446744073709551616) :
  Calls Tryz.prog 116 #[.int .u64 x] w fun e w' => e = .returned (.int .i64 ((vform x).length : Nat)) ∧ w' = w := by
 have hvl := vform_le x;go_enter Tryz.func116, Tryz.ntmps116;go_wp2;go_loopw [0, 3] (fun sx sn wr => ∃ (f y c : Nat), 1 ≤ f ∧ y < 2 * 128 ^ (f - 1) ∧ sx = .int .u64 y ∧ y < 18446744073709551616 ∧ sn = .int .i64 c ∧ c + (lf f y).length = (vform x).length + 1 ∧ wr = w) (fun sx _ _ => (intOf sx).toNat)
 case atStart => exact ⟨10, x, 1, by omega, by simp; omega, rfl, hx, rfl, Nat.add_comm _ _, rfl⟩
 case round =>
  obtain ⟨f, y, c, hf1, hy, rfl, hy64, rfl, hc, rfl⟩ := hrel;obtain ⟨f', rfl⟩ : ∃ f', f = f' + 1 := ⟨f - 1, by omega⟩;have HC : Hid (c + (lf (f' + 1) y).length = (vform x).length + 1) := hc;have hcb : c ≤ 11 := by omega
  have HY : Hid (y < 2 * 128 ^ (f' + 1 - 1)) := hy;clear hc hy
  by_cases hlt : y < 128
  ·have hfin : c = (vform x).length := by have := HC.out; rw [lf_small f' y hlt] at this; simp at this; omega
   have HF : Hid (c = (vform x).length) := hfin;clear hfin;go_wp2;go_ret;rw [← HF.out];exact ⟨rfl, rfl⟩
  ·have h1 := HC.out
   have hy := HY.out;rw [lf_big f' y hlt, List.length_cons] at h1
   have hf' : 1 ≤ f' := by
    rcases Nat.eq_zero_or_pos f' with h | h
    ·subst h; simp at hy; omega
    ·exact h
   have hy2 : y / 128 < 2 * 128 ^ (f' - 1) := by
    rw [Nat.add_sub_cancel, show f' = (f' - 1) + 1 by omega, Nat.pow_succ] at hy;omega
   have HC2 : Hid ((c + 1) + (lf f' (y / 128)).length = (vform x).length + 1) := by show _ = _; omega
   have HY2 : Hid (y / 128 < 2 * 128 ^ (f' - 1)) := hy2;clear h1 hy hy2 HC HY;go_wp2;go_roundw
   case rel => exact ⟨f', y / 128, c + 1, hf', HY2.out, by go_num, by omega, by go_num, HC2.out, trivial⟩
   case measure => simp [intOf]; omega
structure Rr (w : World) (R G : Nat) (zs : List Int) (p : Nat) (e : Int) : Prop where
 ne : G ≠ R
 le : p ≤ zs.length
 max : zs.length ≤ 1099511627776
 box : w.heap[R]? = some (.cells #[.slice (some ⟨G, 0, none⟩) zs.length zs.length, .int .i64 p, .int .i64 e] 113 (0, 0))
 row : ∃ cur, w.heap[G]? = some (.cells cur 5 (0, 0)) ∧ cur.size = zs.length ∧ ∀ i, p ≤ i → i < zs.length → cur[i]? = some (.int .u8 (zs.getD i 0))
theorem Rr.lt {w : World} {R G : Nat} {zs : List Int} {p : Nat} {e : Int} (h : Rr w R G zs p e) : R < w.heap.size ∧ G < w.heap.size := by
 obtain ⟨cur, hc, _⟩ := h.row;exact ⟨(Array.getElem?_eq_some_iff.1 h.box).1, (Array.getElem?_eq_some_iff.1 hc).1⟩
theorem Rr.cells {w : World} {R G : Nat} {zs : List Int} {p : Nat} {e : Int} (h : Rr w R G zs p e) :
  w.cell? ⟨R, 0, none⟩ = some (.slice (some ⟨G, 0, none⟩) zs.length zs.length) ∧ w.cell? ⟨R, 1, none⟩ = some (.int .i64 p) ∧ w.cell? ⟨R, 2, none⟩ = some (.int .i64 e) ∧
  w.frozen? ⟨R, 1, none⟩ = false ∧ w.frozen? ⟨R, 2, none⟩ = false := by
 have hr := h.box;refine ⟨?_, ?_, ?_, frozen_of_row w R 1 _ _ hr, frozen_of_row w R 2 _ _ hr⟩
 ·rw [cell_of_row w R 0 _ _ _ hr]; rfl
 ·rw [cell_of_row w R 1 _ _ _ hr]; rfl
 ·rw [cell_of_row w R 2 _ _ _ hr]; rfl
theorem Rr.kept {w w' : World} {R G : Nat} {zs : List Int} {p : Nat} {e : Int} {row : Option Nat} (h : Rr w R G zs p e) (hg : w.grownBy w' row) (h1 : some R ≠ row) (h2 : some G ≠ row) : Rr w' R G zs p e := by
 obtain ⟨cur, hc, hr⟩ := h.row;have hl := h.lt;exact ⟨h.ne, h.le, h.max, (hg.block R hl.1 h1).trans h.box, cur, (hg.block G hl.2 h2).trans hc, hr⟩
theorem Rr.qt {w w' : World} {R G : Nat} {zs : List Int} {p : Nat} {e : Int} (h : Rr w R G zs p e) (hq : Qt w w') : Rr w' R G zs p e := h.kept (hq.grown none) (by simp) (by simp)
theorem Rr.bytes {w : World} {R G : Nat} {zs : List Int} {p : Nat} {e : Int} (h : Rr w R G zs p e) : ∀ i, p ≤ i → i < zs.length → w.cell? ⟨G, i, none⟩ = some (.int .u8 (zs.getD i 0)) := by
 obtain ⟨cur, hc, hs, hr⟩ := h.row;intro i h1 h2;rw [cell_of_row w G i _ _ _ hc]; exact hr i h1 h2
theorem Rr.rest {w : World} {R G : Nat} {zs : List Int} {p : Nat} {e : Int} (h : Rr w R G zs p e) (m c : Nat) (hm : p + m ≤ zs.length) : Byt w (some ⟨G, p, none⟩) m c ((zs.drop p).take m) := by
 refine Byt.of_cells (by simp; omega) fun i hi => ?_
 rw [h.bytes (p + i) (by omega) (by omega)];simp [List.getD, hi]
theorem Rr.setPlace {w : World} {R G : Nat} {zs : List Int} {p : Nat} {e : Int} (h : Rr w R G zs p e) (q : Nat) (v : Int) (hv : v = (q : Int)) (h1 : p ≤ q) (h2 : q ≤ zs.length) :
  Rr (w.setCell ⟨R, 1, none⟩ (.int .i64 v)) R G zs q e ∧ w.grownBy (w.setCell ⟨R, 1, none⟩ (.int .i64 v)) (some R) := by
 subst hv;obtain ⟨cur, hc, hs, hr⟩ := h.row;refine ⟨⟨h.ne, h2, h.max, ?_, cur, ?_, hs, fun i a b => hr i (by omega) b⟩, ⟨rfl, rfl, rfl, by simp, fun k _ hk => heap_setCell_other w ⟨R, 1, none⟩ k _ (fun e => hk (by simp [e]))⟩⟩
 ·rw [heap_setCell_same w R 1 _ _ _ h.box]; rfl
 ·rw [heap_setCell_other w ⟨R, 1, none⟩ G _ (by have := h.ne; simpa using this)]; exact hc
theorem Rr.setErr {w : World} {R G : Nat} {zs : List Int} {p : Nat} {e : Int} (h : Rr w R G zs p e) (e' : Int) :
  Rr (w.setCell ⟨R, 2, none⟩ (.int .i64 e')) R G zs p e' ∧ w.grownBy (w.setCell ⟨R, 2, none⟩ (.int .i64 e')) (some R) := by
 obtain ⟨cur, hc, hs, hr⟩ := h.row;refine ⟨⟨h.ne, h.le, h.max, ?_, cur, ?_, hs, hr⟩, ⟨rfl, rfl, rfl, by simp, fun k _ hk => heap_setCell_other w ⟨R, 2, none⟩ k _ (fun e => hk (by simp [e]))⟩⟩
 ·rw [heap_setCell_same w R 2 _ _ _ h.box]; rfl
 ·rw [heap_setCell_other w ⟨R, 2, none⟩ G _ (by have := h.ne; simpa using this)]; exact hc
theorem refNew_any (ao : Option Addr) (n cap : Nat) (zs : List Int) (w : World) (hb : Byt w ao n cap zs) (hn : n ≤ 1099511627776) :
  Calls Tryz.prog 61 #[.slice ao n cap] w fun e w' => ∃ R, e = .returned (.pointer (some ⟨R, 0, none⟩)) ∧ Rr w' R w.heap.size zs 0 0 ∧ w.grownBy w' none ∧ w.heap.size < R := by
 have HL : Hid (zs.length = n) := hb.len;go_enter Tryz.func61, Tryz.ntmps61
 go_wp2_with fail
 refine (refBytes_any ao n cap zs _ hb (by omega)).mono ?_;rintro e w0 ⟨rfl, hown, hg, hs⟩;clear hb;go_wp2;go_ret;refine ⟨w0.heap.size, rfl, ?_, ?_, hs⟩
 ·have hl := HL.out
  rcases hown.2 with ⟨h', _⟩ | ⟨g', cap', cur, h', _, hgg, hnc, _, hcs, htake⟩
  ·simp at h'
  ·simp only [Value.slice.injEq, Option.some.injEq, Addr.mk.injEq, and_true, true_and] at h'
   obtain ⟨rfl, rfl⟩ := h';have hne : w.heap.size ≠ w0.heap.size := by omega
   refine ⟨hne, Nat.zero_le _, by omega, ?_, cur, ?_, by simp at hcs; omega, fun i _ hi => ?_⟩
   ·rw [heap_alloc_new]; rw [hl]; rfl
   ·rw [Below.heap_alloc _ _ _ (by omega)]; exact hgg
   ·have hc := congrArg (fun l : List Value => l[i]?) htake
    simp only [Nat.mul_one, List.getElem?_take] at hc;rw [if_pos (by omega)] at hc;rw [← Array.getElem?_toList, hc];simp [List.getD, List.getElem?_eq_getElem hi]
 ·exact gQ hg (World.grownBy_alloc _ _ _)
theorem rnum_broken (R G : Nat) (zs : List Int) (p : Nat) (e d : Int) (w : World) (h : Rr w R G zs p e) (he : (e == 0) = false) :
  Calls Tryz.prog 62 #[.pointer (some ⟨R, 0, none⟩), .int .i64 d] w fun en w' => en = .returned (.int .u64 0) ∧ w' = w := by
 obtain ⟨c0, c1, c2, f1, f2⟩ := h.cells;have he' : (e != 0) = true := by simpa using he
 clear h;go_enter Tryz.func62, Tryz.ntmps62;go_wp2;go_ret;exact ⟨rfl, rfl⟩
theorem rnum_short (R G : Nat) (zs : List Int) (p d : Nat) (w : World) (h : Rr w R G zs p 0) (hd : d ≤ 8) (hs : zs.length < p + d) :
  Calls Tryz.prog 62 #[.pointer (some ⟨R, 0, none⟩), .int .i64 d] w fun en w' => en = .returned (.int .u64 0) ∧ Rr w' R G zs p 10 ∧ w.grownBy w' (some R) := by
 have HR : Hid (Rr w R G zs p 0) := h;obtain ⟨c0, c1, c2, f1, f2⟩ := h.cells;have h1 := h.le;have h2 := h.max;have hp : (p : Int) ≤ (zs.length : Int) := by omega
 clear h;go_enter Tryz.func62, Tryz.ntmps62;go_wp2
 go_quiet (fail)
 go_wp2;go_ret;obtain ⟨r1, r2⟩ := (HR.out.qt (Qt.drewN w nq)).setErr 10;exact ⟨rfl, r1, gQ ((Qt.drewN _ _).grown _) r2⟩
theorem le_at (k : Nat) (ys : List Int) (j : Nat) (h : j < ys.length) : le (k + 1) (ys.drop j) = (ys.getD j 0).toNat + 256 * le k (ys.drop (j + 1)) := by
 rw [List.drop_eq_getElem_cons h, le];simp [List.getD, List.getElem?_eq_getElem h]
theorem or_low (X z : Nat) (k : Nat) (hX : X < 2 ^ (64 - k)) (hz : z < 2 ^ k) (hk : k ≤ 64) : bits BinOp.or IntKind.u64 ((X : Int) * ((2 ^ k : Nat) : Int)) (z : Int) = ((X * 2 ^ k + z : Nat) : Int) := by
 have h1 : X * 2 ^ k < 2 ^ (64 - k) * 2 ^ k := Nat.mul_lt_mul_of_pos_right hX (Nat.pos_of_ne_zero (by simp));rw [← Nat.pow_add, show 64 - k + k = 64 by omega] at h1
 have hz64 : z < 18446744073709551616 := by
  have : 2 ^ k ≤ 2 ^ 64 := Nat.pow_le_pow_right (by omega) hk;omega
 rw [← Int.natCast_mul, u64_or_nat _ _ (by omega) hz64, nat_join k _ _ (Nat.mul_mod_left _ _) hz]
theorem rnum_ok (R G : Nat) (zs : List Int) (p d : Nat) (w : World) (h : Rr w R G zs p 0) (hbt : Bt zs) (hd : d ≤ 8) (hs : p + d ≤ zs.length) :
  Calls Tryz.prog 62 #[.pointer (some ⟨R, 0, none⟩), .int .i64 d] w fun en w' => en = .returned (.int .u64 (le d (zs.drop p) : Nat)) ∧ Rr w' R G zs (p + d) 0 ∧ w.grownBy w' (some R) := by
 have HR : Hid (Rr w R G zs p 0) := h;obtain ⟨c0, c1, c2, f1, f2⟩ := h.cells;have h1 := h.le;have h2 := h.max;have hp : (p : Int) ≤ (zs.length : Int) := by omega
 have HBY : Hid (∀ i, p ≤ i → i < zs.length → w.cell? ⟨G, i, none⟩ = some (.int .u8 (zs.getD i 0))) := h.bytes;have HB : Hid (Bt zs) := hbt;clear h hbt;go_enter Tryz.func62, Tryz.ntmps62;go_wp2
 go_quiet (fail)
 go_wp2;go_loopw [5, 6] (fun sx si wr => ∃ k X : Nat, k ≤ d ∧ si = .int .i64 ((k : Int) - 1) ∧ sx = .int .u64 (X : Nat) ∧ X = le (d - k) (zs.drop (p + k)) ∧ ∃ m, wr = w.drewN m) (fun _ si _ => (intOf si + 1).toNat)
 case atStart => exact ⟨d, 0, Nat.le_refl _, rfl, rfl, by rw [Nat.sub_self]; rfl, _, rfl⟩
 case round =>
  obtain ⟨k, X0, hk, rfl, rfl, hX, m, rfl⟩ := hrel;have HX := hJ hX;clear hX;rcases k with _ | j
  ·go_wp2
   go_ret;obtain ⟨r1, r2⟩ := (HR.out.qt (Qt.drewN w m)).setPlace (p + d) ((p : Int) + (d : Int)) (by omega) (by omega) (by omega);have e : X0 = le d (zs.drop p) := HX.out;rw [← e];exact ⟨rfl, r1, gQ ((Qt.drewN _ _).grown _) r2⟩
  ·have hX56 : X0 < 72057594037927936 := by
    rw [HX.out];have h3 := le_lt (d - (j + 1)) (zs.drop (p + (j + 1))) (HB.out.drop _);have h4 : 256 ^ (d - (j + 1)) ≤ 256 ^ 7 := Nat.pow_le_pow_right (by omega) (by omega);omega
   obtain ⟨z, hz⟩ : ∃ z, z = zs.getD (p + j) 0 := ⟨_, rfl⟩;have hcell : w.cell? ⟨G, p + j, none⟩ = some (.int .u8 z) := by rw [hz]; exact HBY.out (p + j) (by omega) (by omega)
   obtain ⟨hz0, hz1⟩ : 0 ≤ z ∧ z ≤ 255 := by rw [hz]; exact HB.out.getD _
   have HZ := hJ hz;clear hz
   have hor : bits BinOp.or IntKind.u64 ((X0 : Int) * 256) z = ((X0 * 256 + z.toNat : Nat) : Int) := by
    have := or_low X0 z.toNat 8 (by omega) (by omega) (by omega);rw [Int.toNat_of_nonneg hz0] at this;exact this
   have HOR := hJ hor;clear hor;rw [show ((j + 1 : Nat) : Int) - 1 = (j : Int) by omega];go_wp2
   go_quiet (fail)
   go_wp2;go_roundw
   case rel =>
    refine ⟨j, X0 * 256 + z.toNat, by omega, by go_num, by rw [← HOR.out], ?_, _, rfl⟩;rw [show d - j = (d - (j + 1)) + 1 by omega, le_at _ _ _ (by omega), ← HZ.out, HX.out, Nat.add_assoc p j 1];omega
   case measure => simp [intOf]
theorem rbytes_broken (R G : Nat) (zs : List Int) (p : Nat) (e m : Int) (w : World) (h : Rr w R G zs p e) (he : (e == 0) = false) :
  Calls Tryz.prog 64 #[.pointer (some ⟨R, 0, none⟩), .int .i64 m] w fun en w' => en = .returned (.slice none 0 0) ∧ w' = w := by
 obtain ⟨c0, c1, c2, f1, f2⟩ := h.cells;have he' : (e != 0) = true := by simpa using he
 clear h;go_enter Tryz.func64, Tryz.ntmps64;go_wp2;go_ret;exact ⟨rfl, rfl⟩
theorem rbytes_neg (R G : Nat) (zs : List Int) (p : Nat) (m : Int) (w : World) (h : Rr w R G zs p 0) (hm : m < 0) :
  Calls Tryz.prog 64 #[.pointer (some ⟨R, 0, none⟩), .int .i64 m] w fun en w' => en = .returned (.slice none 0 0) ∧ Rr w' R G zs p 10 ∧ w.grownBy w' (some R) := by
 have HR : Hid (Rr w R G zs p 0) := h;obtain ⟨c0, c1, c2, f1, f2⟩ := h.cells;have hd : decide (m < 0) = true := by simpa using hm
 clear h;go_enter Tryz.func64, Tryz.ntmps64;go_wp2
 go_quiet (fail)
 go_wp2;go_ret;obtain ⟨r1, r2⟩ := (HR.out.qt (Qt.drewN w nq)).setErr 10;exact ⟨rfl, r1, gQ ((Qt.drewN _ _).grown _) r2⟩
theorem rbytes_short (R G : Nat) (zs : List Int) (p : Nat) (m : Int) (w : World) (h : Rr w R G zs p 0) (hm : (zs.length : Int) - p < m) :
  Calls Tryz.prog 64 #[.pointer (some ⟨R, 0, none⟩), .int .i64 m] w fun en w' => en = .returned (.slice none 0 0) ∧ Rr w' R G zs p 10 ∧ w.grownBy w' (some R) := by
 have HR : Hid (Rr w R G zs p 0) := h;obtain ⟨c0, c1, c2, f1, f2⟩ := h.cells;have h1 := h.le;have h2 := h.max;have hd : decide (m < 0) = false := by simp; omega
 have hd2 : decide ((zs.length : Int) - (p : Int) < m) = true := by simpa using hm
 clear h;go_enter Tryz.func64, Tryz.ntmps64;go_wp2
 go_quiet (fail)
 go_wp2;go_ret;obtain ⟨r1, r2⟩ := (HR.out.qt (Qt.drewN w nq)).setErr 10;exact ⟨rfl, r1, gQ ((Qt.drewN _ _).grown _) r2⟩
theorem elem_bytes : Tryz.prog.underlying 25 = some (.slice (Tryz.prog.elem 25)) := by kernel_rfl
theorem size_elem (W : World) : (sizeOf (Tryz.prog.elem 25)).run Tryz.prog W = .ok 1 W := by kernel_rfl
theorem slice_part (W : World) (G L p m : Nat) (hm : p + m ≤ L) (hp : p < L) :
  (Instr.sliceAt 25 (.slice (some ⟨G, 0, none⟩) L L) (some (.int .i64 (p : Int))) (some (.int .i64 ((p : Int) + (m : Int)))) none).run Tryz.prog W = .ok (.slice (some ⟨G, p, none⟩) m (L - p)) W := by
 rw [run_sliceAt_slice W 25 _ _ _ _ elem_bytes, run_slice_lh W 25 (some ⟨G, 0, none⟩) L L elem_bytes .i64 .i64 (p : Int) ((p : Int) + (m : Int)) (by omega) (by omega) (by omega), size_elem];simp only [Result.andThen, sliced];rw [show ((p : Int) + (m : Int)).toNat = p + m by omega, Int.toNat_natCast, if_neg (by omega)];simp [Addr.add_lit]
theorem slice_none (W : World) (G L : Nat) :
  (Instr.sliceAt 25 (.slice (some ⟨G, 0, none⟩) L L) (some (.int .i64 (L : Int))) (some (.int .i64 (L : Int))) none).run Tryz.prog W = .ok (.slice (some ⟨G, 0, none⟩) 0 0) W := by
 rw [run_sliceAt_slice W 25 _ _ _ _ elem_bytes, run_slice_lh W 25 (some ⟨G, 0, none⟩) L L elem_bytes .i64 .i64 (L : Int) (L : Int) (by omega) (by omega) (by omega), size_elem];simp [Result.andThen, sliced]
theorem own_u8 {w w' : World} {base g n c R : Nat} {xs : List Value} (h : w.ownsRow base 5 1 (.slice (some ⟨g, 0, none⟩) n c) n xs) (hg : w.grownBy w' (some R)) (hne : g ≠ R) : ∃ cur, w'.heap[g]? = some (.cells cur 5 (0, 0)) := by
 rcases h.2 with ⟨e, _⟩ | ⟨g', cap, cur, hv, _, hgg, _⟩
 ·cases e
 ·injection hv with x1
  simp only [Option.some.injEq, Addr.mk.injEq] at x1;obtain ⟨rfl, _⟩ := x1;exact ⟨cur, (hg.block g (Array.getElem?_eq_some_iff.1 hgg).1 (fun e => hne (Option.some.inj e))).trans hgg⟩
theorem rbytes_new (R G : Nat) (zs : List Int) (p m : Nat) (w : World) (h : Rr w R G zs p 0) (hm : p + m ≤ zs.length) :
  Calls Tryz.prog 64 #[.pointer (some ⟨R, 0, none⟩), .int .i64 m] w fun en w' => ∃ ao, en = .returned (.slice ao m m) ∧ Byt w' ao m m ((zs.drop p).take m) ∧ Rr w' R G zs (p + m) 0 ∧ w.grownBy w' (some R) ∧ (∀ ad, ao = some ad → w.heap.size ≤ ad.block ∧ ∃ cur, w'.heap[ad.block]? = some (.cells cur 5 (0, 0))) := by
 have HR : Hid (Rr w R G zs p 0) := h;obtain ⟨c0, c1, c2, f1, f2⟩ := h.cells;have h1 := h.le;have h2 := h.max;have hd : decide ((m : Int) < 0) = false := by simp
 have hd2 : decide ((zs.length : Int) - (p : Int) < (m : Int)) = false := by simp; omega
 have hp : (p : Int) ≤ (p : Int) + (m : Int) := by omega
 have hp2 : (p : Int) + (m : Int) ≤ (zs.length : Int) := by omega
 clear h;go_enter Tryz.func64, Tryz.ntmps64;go_wp2
 go_quiet (fail)
 clear hd hd2;go_wp2;have HBT : Hid (∀ W : World, W.heap = w.heap → Byt W (some ⟨G, p, none⟩) m (zs.length - p) ((zs.drop p).take m)) := fun W h => (HR.out.rest m (zs.length - p) hm).heap h
 by_cases hpl : zs.length = p
 ·have hm0 : m = 0 := by omega
  subst hm0;have hsl := fun W => slice_none W G zs.length
  subst hpl;clear hp hp2;have hwr : IntKind.i64.wrap (zs.length : Int) = (zs.length : Int) := by simp [IntKind.wrap, IntKind.bits, IntKind.signed]; omega
  go_region_with (go_at_call 19; refine (refBytes_any _ 0 _ [] _ (by exact ⟨rfl, (fun e => by cases e), (fun _ _ j u hu => by simp at hu)⟩) (by omega)).mono ?_; rintro en w3 ⟨rfl, hown, hg3, hs3⟩)
  all_goals
   have hgw : w.grownBy w3 none := gQ ((Qt.drewN w nq).grown none) (gQ (((Qt.refl _).drew).grown none) hg3);have R3 : Hid (Rr w3 R G zs zs.length 0) := HR.out.kept hgw (by simp) (by simp);have HGW := hJ hgw;have HOW := hJ hown;obtain ⟨d0, d1, d2, g1, g2⟩ := R3.out.cells;clear hgw hown hg3 hs3;go_wp2;go_ret;obtain ⟨r1, r2⟩ := R3.out.setPlace (zs.length + 0) ((zs.length : Int)) (by omega) (by omega) (by omega);refine ⟨_, rfl, ?_, r1, gQ (grown_any HGW.out) r2, fun ad had => by obtain rfl := Option.some.inj had; exact ⟨by simp, own_u8 HOW.out r2 (by have := HR.out.lt.1; simp; omega)⟩⟩;refine (Byt.of_owns HOW.out).kept r2 ?_;intro ad had h0 e;obtain rfl := Option.some.inj had;have e2 := Option.some.inj e;have := HR.out.lt.1;simp at e2;omega
 ·have hsl := fun W => slice_part W G zs.length p m hm (by omega)
  clear hp hp2;have hwr : IntKind.i64.wrap ((p : Int) + (m : Int)) = (p : Int) + (m : Int) := by simp [IntKind.wrap, IntKind.bits, IntKind.signed]; omega
  go_region_with (go_at_call 19; refine (refBytes_any _ m _ ((zs.drop p).take m) _ (by exact HBT.out _ rfl) (by omega)).mono ?_; rintro en w3 ⟨rfl, hown, hg3, hs3⟩)
  all_goals
   have hgw : w.grownBy w3 none := gQ ((Qt.drewN w nq).grown none) (gQ (((Qt.refl _).drew).grown none) hg3);have R3 : Hid (Rr w3 R G zs p 0) := HR.out.kept hgw (by simp) (by simp);have HGW := hJ hgw;have HOW := hJ hown;obtain ⟨d0, d1, d2, g1, g2⟩ := R3.out.cells;clear hgw hown hg3 hs3;go_wp2;go_ret;obtain ⟨r1, r2⟩ := R3.out.setPlace (p + m) ((p : Int) + (m : Int)) (by omega) (by omega) (by omega);refine ⟨_, rfl, ?_, r1, gQ (grown_any HGW.out) r2, fun ad had => by obtain rfl := Option.some.inj had; exact ⟨by simp, own_u8 HOW.out r2 (by have := HR.out.lt.1; simp; omega)⟩⟩;refine (Byt.of_owns HOW.out).kept r2 ?_;intro ad had h0 e;obtain rfl := Option.some.inj had;have e2 := Option.some.inj e;have := HR.out.lt.1;simp at e2;omega
theorem rbytes_ok (R G : Nat) (zs : List Int) (p m : Nat) (w : World) (h : Rr w R G zs p 0) (hm : p + m ≤ zs.length) :
  Calls Tryz.prog 64 #[.pointer (some ⟨R, 0, none⟩), .int .i64 m] w fun en w' => ∃ ao, en = .returned (.slice ao m m) ∧ Byt w' ao m m ((zs.drop p).take m) ∧ Rr w' R G zs (p + m) 0 ∧ w.grownBy w' (some R) := by
 refine (rbytes_new R G zs p m w h hm).mono ?_;rintro en w' ⟨ao, h1, h2, h3, h4, _⟩;exact ⟨ao, h1, h2, h3, h4⟩
def dv : List Int → Nat
 | [] => 0
 | z :: zs => (z % 128).toNat + 128 * dv zs
theorem dv_lf : ∀ (f x : Nat), x < 128 ^ f → dv (lf f x) = x
 | 0, x, h => by simp at h; subst h; rfl
 | f + 1, x, h => by
  by_cases hs : x < 128
  ·rw [lf_small f x hs]; simp [dv]; omega
  ·rw [lf_big f x hs, dv, dv_lf f (x / 128) (by rw [Nat.pow_succ] at h; omega)]
   have : ((x % 128 + 128 : Nat) : Int) % 128 = ((x % 128 : Nat) : Int) := by omega
   rw [this, Int.toNat_natCast]; omega
theorem dv_at (ys : List Int) (j : Nat) (h : j < ys.length) : dv (ys.drop j) = (ys.getD j 0 % 128).toNat + 128 * dv (ys.drop (j + 1)) := by
 rw [List.drop_eq_getElem_cons h, dv];simp [List.getD, List.getElem?_eq_getElem h]
theorem rv_shape (ys : List Int) : ∃ k, k ≤ 10 ∧ k ≤ ys.length ∧ (∀ i, i < k → 128 ≤ ys.getD i 0) ∧
  ((k = 10 ∧ rv ys = (0, 0, 12)) ∨ (k < 10 ∧ k = ys.length ∧ rv ys = (0, 0, 10)) ∨ (k < 10 ∧ k < ys.length ∧ ys.getD k 0 < 128 ∧ ∃ a, rv ys = endL a k (ys.getD k 0))) := by
 have main : ∀ (n k a : Nat), k + n = 10 → k ≤ ys.length → (∀ i, i < k → 128 ≤ ys.getD i 0) → scan n k a (ys.drop k) = rv ys →
   ∃ k, k ≤ 10 ∧ k ≤ ys.length ∧ (∀ i, i < k → 128 ≤ ys.getD i 0) ∧ ((k = 10 ∧ rv ys = (0, 0, 12)) ∨ (k < 10 ∧ k = ys.length ∧ rv ys = (0, 0, 10)) ∨ (k < 10 ∧ k < ys.length ∧ ys.getD k 0 < 128 ∧ ∃ a, rv ys = endL a k (ys.getD k 0))) := by
  intro n
  induction n with
  | zero => intro k a h1 h2 h3 h4; exact ⟨k, by omega, h2, h3, Or.inl ⟨by omega, by rw [← h4]; rfl⟩⟩
  | succ n ih =>
   intro k a h1 h2 h3 h4
   by_cases hl : k < ys.length
   ·have hd : ys.drop k = ys.getD k 0 :: ys.drop (k + 1) := by
     rw [List.drop_eq_getElem_cons hl]; simp [List.getD, List.getElem?_eq_getElem hl]
    rw [hd, scan] at h4
    by_cases hz : ys.getD k 0 < 128
    ·rw [if_pos hz] at h4
     exact ⟨k, by omega, h2, h3, Or.inr (Or.inr ⟨by omega, hl, hz, a, h4.symm⟩)⟩
    ·rw [if_neg hz] at h4
     refine ih (k + 1) _ (by omega) (by omega) ?_ h4;intro i hi
     by_cases e : i = k
     ·subst e; omega
     ·exact h3 i (by omega)
   ·have hd : ys.drop k = [] := List.drop_eq_nil_of_le (by omega)
    rw [hd] at h4;exact ⟨k, by omega, h2, h3, Or.inr (Or.inl ⟨by omega, by omega, by rw [← h4]; rfl⟩)⟩
 exact main 10 0 0 rfl (Nat.zero_le _) (fun i hi => by omega) rfl
theorem refV_broken (R G : Nat) (zs : List Int) (p : Nat) (e : Int) (w : World) (h : Rr w R G zs p e) (he : (e == 0) = false) :
  Calls Tryz.prog 63 #[.pointer (some ⟨R, 0, none⟩)] w fun en w' => en = .returned (.int .u64 0) ∧ w' = w := by
 obtain ⟨c0, c1, c2, f1, f2⟩ := h.cells;have he' : (e != 0) = true := by simpa using he
 clear h;go_enter Tryz.func63, Tryz.ntmps63;go_wp2;go_ret;exact ⟨rfl, rfl⟩
theorem refV_bad (R G : Nat) (zs : List Int) (p : Nat) (er : Int) (w : World) (h : Rr w R G zs p 0) (hbt : Bt zs) (hv : rv (zs.drop p) = (0, 0, er)) (her : er ≠ 0) :
  Calls Tryz.prog 63 #[.pointer (some ⟨R, 0, none⟩)] w fun en w' => en = .returned (.int .u64 0) ∧ Rr w' R G zs p er ∧ w.grownBy w' (some R) := by
 have HR : Hid (Rr w R G zs p 0) := h;obtain ⟨c0, c1, c2, f1, f2⟩ := h.cells;have h1 := h.le;have h2 := h.max;have hp : (p : Int) ≤ (zs.length : Int) := by omega
 have HBY : Hid (∀ i, p ≤ i → i < zs.length → w.cell? ⟨G, i, none⟩ = some (.int .u8 (zs.getD i 0))) := h.bytes;have HB : Hid (Bt zs) := hbt;obtain ⟨n, hn10, hnl, hhi, hcase⟩ := rv_shape (zs.drop p);rw [List.length_drop] at hnl hcase;have HHI : Hid (∀ i, i < n → 128 ≤ (zs.drop p).getD i 0) := hhi;have HCA := hJ hcase;have HV := hJ hv;clear h hbt hhi hcase hv;go_enter Tryz.func63, Tryz.ntmps63;go_wp2
 go_quiet (fail)
 go_wp2;go_loopw [4] (fun sn wr => ∃ k : Nat, k ≤ n ∧ sn = .int .i64 k ∧ ∃ m, wr = w.drewN m) (fun sn _ => n - (intOf sn).toNat)
 case atStart => exact ⟨0, Nat.zero_le _, rfl, _, rfl⟩
 case round =>
  obtain ⟨k, hk, rfl, m, rfl⟩ := hrel
  by_cases hlt : k < n
  ·obtain ⟨z, hz⟩ : ∃ z, z = zs.getD (p + k) 0 := ⟨_, rfl⟩
   have hcell : w.cell? ⟨G, p + k, none⟩ = some (.int .u8 z) := by rw [hz]; exact HBY.out (p + k) (by omega) (by omega)
   have hz1 : 128 ≤ z := by have := HHI.out k hlt; rw [hz]; simpa [List.getD] using this
   clear hz;have hd1 : decide ((k : Int) < (zs.length : Int) - (p : Int)) = true := by simp; omega
   have hd2 : decide ((k : Int) < 10) = true := by simp; omega
   go_wp2
   go_quiet (fail)
   go_wp2;go_roundw
   case rel => exact ⟨k + 1, by omega, by go_num, _, rfl⟩
   case measure => simp [intOf]; omega
  ·have hkn : k = n := by omega
   subst hkn;rcases HCA.out with ⟨hk10, hr⟩ | ⟨hk10, hkl, hr⟩ | ⟨hk10, hkl, hz, a, hr⟩
   ·have hd2 : decide ((k : Int) < 10) = false := by simp; omega
    have hb1 : ((k : Int) == 10) = true := by simp; omega
    have e : er = 12 := by have := HV.out; rw [hr] at this; simp at this; exact this.symm
    subst e;clear hk10 hr
    by_cases hl : (k : Int) < (zs.length : Int) - (p : Int)
    ·have hd1 : decide ((k : Int) < (zs.length : Int) - (p : Int)) = true := by simpa using hl
     go_wp2
     go_quiet (fail)
     go_wp2;go_ret;obtain ⟨r1, r2⟩ := (HR.out.qt (Qt.drewN w _)).setErr 12;exact ⟨rfl, r1, gQ ((Qt.drewN _ _).grown _) r2⟩
    ·have hd1 : decide ((k : Int) < (zs.length : Int) - (p : Int)) = false := by simpa using hl
     go_wp2
     go_quiet (fail)
     go_wp2;go_ret;obtain ⟨r1, r2⟩ := (HR.out.qt (Qt.drewN w _)).setErr 12;exact ⟨rfl, r1, gQ ((Qt.drewN _ _).grown _) r2⟩
   ·have e : er = 10 := by have := HV.out; rw [hr] at this; simp at this; exact this.symm
    subst e;have hd1 : decide ((k : Int) < (zs.length : Int) - (p : Int)) = false := by simp; omega
    have hb1 : ((k : Int) == 10) = false := by simp; omega
    have hb2 : ((k : Int) == (zs.length : Int) - (p : Int)) = true := by simp; omega
    clear hkl;go_wp2
    go_quiet (fail)
    go_wp2;go_ret;obtain ⟨r1, r2⟩ := (HR.out.qt (Qt.drewN w _)).setErr 10;exact ⟨rfl, r1, gQ ((Qt.drewN _ _).grown _) r2⟩
   ·obtain ⟨z, hze⟩ : ∃ z, z = zs.getD (p + k) 0 := ⟨_, rfl⟩
    have hzd : (zs.drop p).getD k 0 = z := by rw [hze]; simp [List.getD]
    rw [hzd] at hz hr;have hcell : w.cell? ⟨G, p + k, none⟩ = some (.int .u8 z) := by rw [hze]; exact HBY.out (p + k) (by omega) (by omega)
    obtain ⟨hz0, hz255⟩ : 0 ≤ z ∧ z ≤ 255 := by rw [hze]; exact HB.out.getD _
    have he := HV.out;rw [hr, endL] at he;clear hze hzd;have hd1 : decide ((k : Int) < (zs.length : Int) - (p : Int)) = true := by simp; omega
    have hd2 : decide ((k : Int) < 10) = true := by simp; omega
    have hb1 : ((k : Int) == 10) = false := by simp; omega
    have hb2 : ((k : Int) == (zs.length : Int) - (p : Int)) = false := by simp; omega
    by_cases h9 : k = 9 ∧ 1 < z
    ·rw [if_pos h9] at he
     have e : er = 12 := by simp at he; exact he.symm
     subst e;obtain ⟨hk9, hz9⟩ := h9;have hb3 : ((k : Int) == 9) = true := by simp; omega
     clear he hr hk9;go_wp2
     go_quiet (fail)
     go_wp2
     go_quiet (fail)
     go_wp2;go_ret;obtain ⟨r1, r2⟩ := (HR.out.qt (Qt.drewN w _)).setErr 12;exact ⟨rfl, r1, gQ ((Qt.drewN _ _).grown _) r2⟩
    ·rw [if_neg h9] at he
     by_cases h0 : 0 < k ∧ z = 0
     ·rw [if_pos h0] at he
      have e : er = 11 := by simp at he; exact he.symm
      subst e;obtain ⟨hk0, rfl⟩ := h0;clear he hr h9
      by_cases hk9 : k = 9
      ·have hb3 : ((k : Int) == 9) = true := by simp; omega
       clear hk9;go_wp2
       go_quiet (fail)
       go_wp2
       go_quiet (fail)
       go_wp2;go_ret;obtain ⟨r1, r2⟩ := (HR.out.qt (Qt.drewN w _)).setErr 11;exact ⟨rfl, r1, gQ ((Qt.drewN _ _).grown _) r2⟩
      ·have hb3 : ((k : Int) == 9) = false := by simp; omega
       clear hk9;go_wp2
       go_quiet (fail)
       go_wp2
       go_quiet (fail)
       go_wp2;go_ret;obtain ⟨r1, r2⟩ := (HR.out.qt (Qt.drewN w _)).setErr 11;exact ⟨rfl, r1, gQ ((Qt.drewN _ _).grown _) r2⟩
     ·rw [if_neg h0] at he
      exact absurd (by simpa using (Prod.mk.inj (Prod.mk.inj he).2).2.symm) her
end Go.Proofs.YtkiopabcnemgnaaGreatDoor
