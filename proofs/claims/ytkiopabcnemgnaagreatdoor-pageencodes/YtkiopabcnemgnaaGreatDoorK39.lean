import Derived.Laws.EntriesVeiled
import Derived.Test.YtkiopabcnemgnaaGreatDoorK37
set_option maxRecDepth 100000
set_option maxHeartbeats 8000000
namespace Go.Proofs.YtkiopabcnemgnaaGreatDoor
open Go.RowKit
structure Kv where
 no : Int
 e : Nat
 d : Nat
 s : Nat
def kv1 : Kv := ⟨1, 71, 72, 73⟩
def kv2 : Kv := ⟨2, 74, 75, 76⟩
def kv3 : Kv := ⟨3, 77, 78, 79⟩
def kv4 : Kv := ⟨4, 80, 81, 82⟩
def kv5 : Kv := ⟨5, 83, 84, 85⟩
def kvs : List Kv := [kv1, kv2, kv3, kv4, kv5]
def kvc (k : Kv) : Array Value := #[.int .i64 k.no, .func (.func k.e) #[] #[], .func (.func k.d) #[] #[], .func (.func k.s) #[] #[]]
def kvz : Array Value := #[.int .i64 0, .nilFunc, .nilFunc, .nilFunc]
def Kz8 (w : World) (T : Nat) (c : Array Value) : Prop := w.heap[T]? = some (.cells c 71 (0, 0))
def Kw (w : World) (G : Nat) : Prop := w.heap[G]? = some (.cells (kvc kv1 ++ (kvc kv2 ++ (kvc kv3 ++ (kvc kv4 ++ kvc kv5)))) 71 (0, 0))
theorem Kz8.lt {w : World} {T : Nat} {k : Array Value} (h : Kz8 w T k) : T < w.heap.size := (Array.getElem?_eq_some_iff.1 h).1
theorem Kw.lt {w : World} {T : Nat} (h : Kw w T) : T < w.heap.size := (Array.getElem?_eq_some_iff.1 h).1
theorem Kz8.kept {w w' : World} {T : Nat} {k : Array Value} {row : Option Nat} (h : Kz8 w T k) (hg : w.grownBy w' row) (hne : some T ≠ row) : Kz8 w' T k := (hg.block T h.lt hne).trans h
theorem Kz8.keptN {w w' : World} {T : Nat} {k : Array Value} (h : Kz8 w T k) (hg : w.grownBy w' none) : Kz8 w' T k := h.kept hg (by simp)
theorem Kw.kept {w w' : World} {T : Nat} {row : Option Nat} (h : Kw w T) (hg : w.grownBy w' row) (hne : some T ≠ row) : Kw w' T := (hg.block T h.lt hne).trans h
theorem Kz8.cells {w : World} {T : Nat} {k : Kv} (h : Kz8 w T (kvc k)) : w.cell? ⟨T, 0, none⟩ = some (.int .i64 k.no) ∧ w.cell? ⟨T, 1, none⟩ = some (.func (.func k.e) #[] #[]) ∧ w.cell? ⟨T, 2, none⟩ = some (.func (.func k.d) #[] #[]) ∧ w.cell? ⟨T, 3, none⟩ = some (.func (.func k.s) #[] #[]) := by
 refine ⟨?_, ?_, ?_, ?_⟩
 all_goals (rw [cell_of_row w T _ _ _ _ h]; rfl)
theorem Kz8.cellz {w : World} {T : Nat} (h : Kz8 w T kvz) : w.cell? ⟨T, 0, none⟩ = some (.int .i64 0) ∧ w.cell? ⟨T, 1, none⟩ = some .nilFunc ∧ w.cell? ⟨T, 2, none⟩ = some .nilFunc ∧ w.cell? ⟨T, 3, none⟩ = some .nilFunc := by
 refine ⟨?_, ?_, ?_, ?_⟩
 all_goals (rw [cell_of_row w T _ _ _ _ h]; rfl)
theorem Kz8.at4 {w : World} {T : Nat} {a b c d : Value} (h : Kz8 w T #[a, b, c, d]) : w.cell? ⟨T, 0, none⟩ = some a ∧ w.cell? ⟨T, 1, none⟩ = some b ∧ w.cell? ⟨T, 2, none⟩ = some c ∧ w.cell? ⟨T, 3, none⟩ = some d := by
 refine ⟨?_, ?_, ?_, ?_⟩
 all_goals (rw [cell_of_row w T _ _ _ _ h]; rfl)
theorem Kz8.frozen {w : World} {T : Nat} {k : Array Value} (h : Kz8 w T k) (j : Nat) : w.frozen? ⟨T, j, none⟩ = false := frozen_of_row w T j _ _ h
theorem Kz8.put {w : World} {T : Nat} {a b c d : Value} {k : Array Value} (h : Kz8 w T k) (hk : k.size = 4) : Kz8 ((((w.setCell ⟨T, 0, none⟩ a).setCell ⟨T, 1, none⟩ b).setCell ⟨T, 2, none⟩ c).setCell ⟨T, 3, none⟩ d) T #[a, b, c, d] := by
 have h0 := heap_setCell_same w T 0 _ _ a h;have h1 := heap_setCell_same _ T 1 _ _ b h0;have h2 := heap_setCell_same _ T 2 _ _ c h1;have h3 := heap_setCell_same _ T 3 _ _ d h2;obtain ⟨l⟩ := k
 match l, hk with
 | [x0, x1, x2, x3], _ => exact h3
theorem gr4_8 (w : World) (U : Nat) (v0 v1 v2 v3 : Value) : w.grownBy ((((w.setCell ⟨U, 0, none⟩ v0).setCell ⟨U, 1, none⟩ v1).setCell ⟨U, 2, none⟩ v2).setCell ⟨U, 3, none⟩ v3) (some U) :=
 gQ (gQ (gQ (grown_cell w U 0 v0) (grown_cell _ U 1 v1)) (grown_cell _ U 2 v2)) (grown_cell _ U 3 v3)
theorem kind_size : (Tryz.prog.info? 71).map (·.size) = some 4 := by kernel_rfl
theorem ret_kind_tmp {fn : Func} {p u : Tmp} (h : fn.results = #[.cell p 71, .tmp u]) (tmps : Array Value) (w : World) (U : Nat) (k : Array Value) (hk : k.size = 4) (hp : tmps.getD p undef = .pointer (some ⟨U, 0, none⟩)) (hx : Kz8 w U k) :
  (results fn tmps).run Tryz.prog w = .ok (.tuple #[.agg k, tmps.getD u undef]) w := by
 rw [results_cell_tmp h, hp];have := run_loadVar_row (P := Tryz.prog) w U 71 71 _ (0, 0) _ hx Tryz.underlying71 rfl (by rw [hk]; exact kind_size);simp [asAddr, this, Result.andThen]
theorem kinds_any (w : World) : Calls Tryz.prog 54 #[] w fun en w' => (∃ G, en = .returned (.slice (some ⟨G, 0, none⟩) 5 5) ∧ Kw w' G ∧ w.heap.size ≤ G) ∧ w.grownBy w' none := by
 go_enter Tryz.func54, Tryz.ntmps54;go_wp2;go_ret;exact ⟨⟨_, rfl, heap_alloc_new w _, Nat.le_refl _⟩, World.grownBy_alloc w _ none⟩
def kvOf (no : Int) : Array Value := if no = 1 then kvc kv1 else if no = 2 then kvc kv2 else if no = 3 then kvc kv3 else if no = 4 then kvc kv4 else if no = 5 then kvc kv5 else kvz
theorem kv_no : ∀ i, i < 5 → (kvs.getD i kv1).no = ((i + 1 : Nat) : Int) := by decide
theorem kv_at : ∀ i, i < 5 → kvOf ((i + 1 : Nat) : Int) = kvc (kvs.getD i kv1) := by
 intro i hi;rcases i with _ | _ | _ | _ | _ | i
 ·rfl
 ·rfl
 ·rfl
 ·rfl
 ·rfl
 ·omega
theorem kv_none {no : Int} (h : ∀ j, j < 5 → no ≠ ((j + 1 : Nat) : Int)) : kvOf no = kvz ∧ okK no = false := by
 have h0 := h 0 (by decide);have h1 := h 1 (by decide);have h2 := h 2 (by decide);have h3 := h 3 (by decide);have h4 := h 4 (by decide);simp only [Nat.zero_add, Nat.reduceAdd, Int.cast_ofNat_Int] at h0 h1 h2 h3 h4;unfold kvOf okK;rw [if_neg (by omega), if_neg (by omega), if_neg (by omega), if_neg (by omega), if_neg (by omega)];refine ⟨rfl, ?_⟩;simp;omega
theorem Kw.cells {w : World} {G : Nat} (h : Kw w G) (i : Nat) (hi : i < 5) : w.cell? ⟨G, i * 4, none⟩ = some (.int .i64 (kvs.getD i kv1).no) ∧ w.cell? ⟨G, i * 4 + 1, none⟩ = some (.func (.func (kvs.getD i kv1).e) #[] #[]) ∧ w.cell? ⟨G, i * 4 + 2, none⟩ = some (.func (.func (kvs.getD i kv1).d) #[] #[]) ∧ w.cell? ⟨G, i * 4 + 3, none⟩ = some (.func (.func (kvs.getD i kv1).s) #[] #[]) := by
 rcases i with _ | _ | _ | _ | _ | i
 case succ.succ.succ.succ.succ => omega
 all_goals
  refine ⟨?_, ?_, ?_, ?_⟩
  all_goals (rw [cell_of_row w G _ _ _ _ h]; rfl)
theorem Kz8.new (w : World) (k : Array Value) : Kz8 (w.alloc (.cells k 71)) w.heap.size k := heap_alloc_new w _
theorem kindOf_any (no : Int) (w : World) : Calls Tryz.prog 34 #[.int .i64 no] w fun en w' => en = .returned (.tuple #[.agg (kvOf no), .bool (okK no)]) ∧ w.grownBy w' none := by
 obtain ⟨R, hR⟩ : ∃ R, R = kvOf no := ⟨_, rfl⟩;obtain ⟨B, hB⟩ : ∃ B, B = okK no := ⟨_, rfl⟩;rw [← hR, ← hB];have HRR := hJ hR;have HBB := hJ hB;clear hR hB;go_enter Tryz.func34, Tryz.ntmps34;go_upto_region 1 with fail
 have U1 := hJ (Kz8.new w kvz);have G1 := hJ (World.grownBy_alloc w (.cells kvz 71) none);have hs1 : (w.alloc (.cells kvz 71)).heap.size = w.heap.size + 1 := by simp
 simp only [kvz] at hs1 U1 G1;generalize w.alloc (.cells #[.int .i64 0, .nilFunc, .nilFunc, .nilFunc] 71) = w1 at *
 go_wp2_with fail
 refine (kinds_any _).mono ?_;rintro en w2 ⟨⟨G, rfl, hk2, hG2⟩, hg2⟩;have K2 := hJ hk2;have U2 := hJ (U1.out.keptN hg2);have G2 := hJ (gQ G1.out hg2);have hlt : w.heap.size < G := by omega
 clear hk2 hg2 U1 G1;go_wp2;go_loopw [5, 8] (fun _ si wr => ∃ i : Nat, i ≤ 5 ∧ si = .int .i64 i ∧ (∀ j, j < i → no ≠ ((j + 1 : Nat) : Int)) ∧ Kz8 wr w.heap.size kvz ∧ Kw wr G ∧ w.grownBy wr none) (fun _ si _ => 5 - (intOf si).toNat)
 case atStart => exact ⟨0, by omega, rfl, fun j hj => by omega, U2.out, K2.out, G2.out⟩
 case round =>
  obtain ⟨i, hi, rfl, hno, hu, hk, hg⟩ := hrel;have HN := hJ hno;have HU := hJ hu;have HK := hJ hk;have HG := hJ hg;clear hno hu hk hg U2 K2 G2
  by_cases hi5 : i < 5
  ·obtain ⟨c0, c1, c2, c3⟩ := HK.out.cells i hi5
   have HA := hJ (kv_at i hi5);have HNN := hJ (kv_no i hi5);obtain ⟨kv, hkv⟩ : ∃ kv, kvs.getD i kv1 = kv := ⟨_, rfl⟩;rw [hkv] at c0 c1 c2 c3 HA HNN;clear hkv;have g1 : (i : Int) < 5 := by omega
   have g2 : (0 : Int) ≤ (i : Int) := by omega
   have gb := World.grownBy_alloc wr (.cells (kvc kv) 71) none;have U3 := hJ (HU.out.keptN gb);have K3 := hJ (HK.out.kept gb (by simp));have G3 := hJ (gQ HG.out gb);have X3 := hJ (Kz8.new wr (kvc kv));have hul := HU.out.lt;have hkl := HK.out.lt;clear gb HU HK HG;go_upto_region 4 with fail
   simp only [kvc] at U3 K3 G3 X3;generalize wr.alloc (.cells #[.int .i64 kv.no, .func (.func kv.e) #[] #[], .func (.func kv.d) #[] #[], .func (.func kv.s) #[] #[]] 71) = w4 at *;generalize wr.heap.size = T at *;clear c0 c1 c2 c3;obtain ⟨c0, c1, c2, c3⟩ := Kz8.cells (k := kv) X3.out
   by_cases he : no = ((i + 1 : Nat) : Int)
   ·have e1 : (kv.no == no) = true := by rw [HNN.out, he]; simp
    have e2 : Hid (B = true) := by show _ = _; rw [HBB.out, he, okK_iff]; omega
    have e3 : Hid (R = kvc kv) := by show _ = _; rw [HRR.out, he, HA.out]
    obtain ⟨u0, u1, u2, u3⟩ := U3.out.cellz;have f0 := U3.out.frozen 0;have f1 := U3.out.frozen 1;have f2 := U3.out.frozen 2;have f3 := U3.out.frozen 3;have hTU : T ≠ w.heap.size := by omega
    clear he;go_wp2;refine bodyPost_ret (ret_kind_tmp rfl _ _ w.heap.size (kvc kv) rfl rfl (U3.out.put rfl)) rfl ?_;exact ⟨by rw [e2.out, e3.out]; rfl, grown_new G3.out (gr4_8 _ _ _ _ _ _) (Nat.le_refl _)⟩
   ·have e1 : (kv.no == no) = false := by rw [HNN.out]; simp; omega
    have HNE := hJ he;clear he;go_wp2;go_roundw
    case rel =>
     refine ⟨i + 1, by omega, by go_num, fun j hj => ?_, U3.out, K3.out, G3.out⟩
     by_cases e : j = i
     ·subst e; exact HNE.out
     ·exact HN.out j (by omega)
    case measure => simp [intOf]; omega
  ·obtain rfl : i = 5 := by omega
   have e2 : Hid (B = false) := by show _ = _; rw [HBB.out, (kv_none HN.out).2]
   have e3 : Hid (R = kvz) := by show _ = _; rw [HRR.out, (kv_none HN.out).1]
   obtain ⟨u0, u1, u2, u3⟩ := HU.out.cellz;have f0 := HU.out.frozen 0;have f1 := HU.out.frozen 1;have f2 := HU.out.frozen 2;have f3 := HU.out.frozen 3;go_wp2;refine bodyPost_ret (ret_kind_tmp rfl _ _ w.heap.size kvz rfl rfl (HU.out.put rfl)) rfl ?_;exact ⟨by rw [e2.out, e3.out]; rfl, grown_new HG.out (gr4_8 _ _ _ _ _ _) (Nat.le_refl _)⟩
def fOf (x : Pv) : Fd8 := ⟨x.i.n, x.l, x.s.n, x.d.n, x.x, x.b.n, x.t.n, x.h⟩
def Fx (w : World) (T : Nat) (f : Fd8) : Prop := w.heap[T]? = some (.cells #[.int .i64 f.i, .int .i64 f.l, .int .i64 f.s, .int .i64 f.d, .int .i64 f.x, .int .i64 f.b, .int .i64 f.t, .int .i64 f.h.v, .int .i64 f.h.c, .int .i64 f.h.r, .int .i64 f.h.h, .int .i64 f.h.k, .int .i64 f.h.f, .int .i64 f.h.n] 75 (0, 0))
theorem flds_size : (Tryz.prog.info? 75).map (·.size) = some 14 := by kernel_rfl
theorem ret_flds {fn : Func} {p : Tmp} (h : fn.results = #[.cell p 75]) (tmps : Array Value) (w : World) (U : Nat) (f : Fd8) (hp : tmps.getD p undef = .pointer (some ⟨U, 0, none⟩)) (hx : Fx w U f) :
  (results fn tmps).run Tryz.prog w = .ok (.agg #[.int .i64 f.i, .int .i64 f.l, .int .i64 f.s, .int .i64 f.d, .int .i64 f.x, .int .i64 f.b, .int .i64 f.t, .int .i64 f.h.v, .int .i64 f.h.c, .int .i64 f.h.r, .int .i64 f.h.h, .int .i64 f.h.k, .int .i64 f.h.f, .int .i64 f.h.n]) w :=
 results_cell_row h tmps w U 75 _ (0, 0) _ hp hx Tryz.underlying75 rfl flds_size
theorem fieldsOf_any (x : Pv) (w : World) : Calls Tryz.prog 35 #[.agg #[.int .i64 x.k, .slice x.i.a x.i.n x.i.c, .int .i64 x.l, .slice x.s.a x.s.n x.s.c, .slice x.d.a x.d.n x.d.c, .int .i64 x.x, .slice x.b.a x.b.n x.b.c, .slice x.t.a x.t.n x.t.c, .int .i64 x.h.v, .int .i64 x.h.c, .int .i64 x.h.r, .int .i64 x.h.h, .int .i64 x.h.k, .int .i64 x.h.f, .int .i64 x.h.n]] w fun en w' => (∃ f, en = .returned (.agg #[.int .i64 f.i, .int .i64 f.l, .int .i64 f.s, .int .i64 f.d, .int .i64 f.x, .int .i64 f.b, .int .i64 f.t, .int .i64 f.h.v, .int .i64 f.h.c, .int .i64 f.h.r, .int .i64 f.h.h, .int .i64 f.h.k, .int .i64 f.h.f, .int .i64 f.h.n]) ∧ f = fOf x) ∧ w.grownBy w' none := by
 go_enter Tryz.func35, Tryz.ntmps35;go_wp2;refine bodyPost_ret (ret_flds rfl _ _ (w.heap.size + 1) (fOf x) rfl (heap_alloc2_new w _ _)) rfl ?_;exact ⟨⟨_, rfl, rfl⟩, grown_two w _ _⟩
def sp1 (f : Fd8) : Fd8 := { f with i := 0 }
def sp2 (f : Fd8) : Fd8 := { f with l := 0, s := 0, d := 0 }
def sp3 (f : Fd8) : Fd8 := { f with x := 0, b := 0 }
def sp4 (f : Fd8) : Fd8 := { f with x := 0, t := 0 }
def sp5 (f : Fd8) : Fd8 := { f with h := zH }
theorem spare1_any (f : Fd8) (w : World) : Calls Tryz.prog 73 #[.agg #[.int .i64 f.i, .int .i64 f.l, .int .i64 f.s, .int .i64 f.d, .int .i64 f.x, .int .i64 f.b, .int .i64 f.t, .int .i64 f.h.v, .int .i64 f.h.c, .int .i64 f.h.r, .int .i64 f.h.h, .int .i64 f.h.k, .int .i64 f.h.f, .int .i64 f.h.n]] w fun en w' => (∃ g, en = .returned (.agg #[.int .i64 g.i, .int .i64 g.l, .int .i64 g.s, .int .i64 g.d, .int .i64 g.x, .int .i64 g.b, .int .i64 g.t, .int .i64 g.h.v, .int .i64 g.h.c, .int .i64 g.h.r, .int .i64 g.h.h, .int .i64 g.h.k, .int .i64 g.h.f, .int .i64 g.h.n]) ∧ g = sp1 f) ∧ w.grownBy w' none := by
 go_enter Tryz.func73, Tryz.ntmps73;go_wp2;refine bodyPost_ret (ret_flds rfl _ _ (w.heap.size + 1) (sp1 f) rfl (heap_alloc2_new w _ _)) rfl ?_;exact ⟨⟨_, rfl, rfl⟩, grown_two w _ _⟩
theorem spare2_any (f : Fd8) (w : World) : Calls Tryz.prog 76 #[.agg #[.int .i64 f.i, .int .i64 f.l, .int .i64 f.s, .int .i64 f.d, .int .i64 f.x, .int .i64 f.b, .int .i64 f.t, .int .i64 f.h.v, .int .i64 f.h.c, .int .i64 f.h.r, .int .i64 f.h.h, .int .i64 f.h.k, .int .i64 f.h.f, .int .i64 f.h.n]] w fun en w' => (∃ g, en = .returned (.agg #[.int .i64 g.i, .int .i64 g.l, .int .i64 g.s, .int .i64 g.d, .int .i64 g.x, .int .i64 g.b, .int .i64 g.t, .int .i64 g.h.v, .int .i64 g.h.c, .int .i64 g.h.r, .int .i64 g.h.h, .int .i64 g.h.k, .int .i64 g.h.f, .int .i64 g.h.n]) ∧ g = sp2 f) ∧ w.grownBy w' none := by
 go_enter Tryz.func76, Tryz.ntmps76;go_wp2;refine bodyPost_ret (ret_flds rfl _ _ (w.heap.size + 1) (sp2 f) rfl (heap_alloc2_new w _ _)) rfl ?_;exact ⟨⟨_, rfl, rfl⟩, grown_two w _ _⟩
theorem spare3_any (f : Fd8) (w : World) : Calls Tryz.prog 79 #[.agg #[.int .i64 f.i, .int .i64 f.l, .int .i64 f.s, .int .i64 f.d, .int .i64 f.x, .int .i64 f.b, .int .i64 f.t, .int .i64 f.h.v, .int .i64 f.h.c, .int .i64 f.h.r, .int .i64 f.h.h, .int .i64 f.h.k, .int .i64 f.h.f, .int .i64 f.h.n]] w fun en w' => (∃ g, en = .returned (.agg #[.int .i64 g.i, .int .i64 g.l, .int .i64 g.s, .int .i64 g.d, .int .i64 g.x, .int .i64 g.b, .int .i64 g.t, .int .i64 g.h.v, .int .i64 g.h.c, .int .i64 g.h.r, .int .i64 g.h.h, .int .i64 g.h.k, .int .i64 g.h.f, .int .i64 g.h.n]) ∧ g = sp3 f) ∧ w.grownBy w' none := by
 go_enter Tryz.func79, Tryz.ntmps79;go_wp2;refine bodyPost_ret (ret_flds rfl _ _ (w.heap.size + 1) (sp3 f) rfl (heap_alloc2_new w _ _)) rfl ?_;exact ⟨⟨_, rfl, rfl⟩, grown_two w _ _⟩
theorem spare4_any (f : Fd8) (w : World) : Calls Tryz.prog 82 #[.agg #[.int .i64 f.i, .int .i64 f.l, .int .i64 f.s, .int .i64 f.d, .int .i64 f.x, .int .i64 f.b, .int .i64 f.t, .int .i64 f.h.v, .int .i64 f.h.c, .int .i64 f.h.r, .int .i64 f.h.h, .int .i64 f.h.k, .int .i64 f.h.f, .int .i64 f.h.n]] w fun en w' => (∃ g, en = .returned (.agg #[.int .i64 g.i, .int .i64 g.l, .int .i64 g.s, .int .i64 g.d, .int .i64 g.x, .int .i64 g.b, .int .i64 g.t, .int .i64 g.h.v, .int .i64 g.h.c, .int .i64 g.h.r, .int .i64 g.h.h, .int .i64 g.h.k, .int .i64 g.h.f, .int .i64 g.h.n]) ∧ g = sp4 f) ∧ w.grownBy w' none := by
 go_enter Tryz.func82, Tryz.ntmps82;go_wp2;refine bodyPost_ret (ret_flds rfl _ _ (w.heap.size + 1) (sp4 f) rfl (heap_alloc2_new w _ _)) rfl ?_;exact ⟨⟨_, rfl, rfl⟩, grown_two w _ _⟩
theorem spare5_any (f : Fd8) (w : World) : Calls Tryz.prog 85 #[.agg #[.int .i64 f.i, .int .i64 f.l, .int .i64 f.s, .int .i64 f.d, .int .i64 f.x, .int .i64 f.b, .int .i64 f.t, .int .i64 f.h.v, .int .i64 f.h.c, .int .i64 f.h.r, .int .i64 f.h.h, .int .i64 f.h.k, .int .i64 f.h.f, .int .i64 f.h.n]] w fun en w' => (∃ g, en = .returned (.agg #[.int .i64 g.i, .int .i64 g.l, .int .i64 g.s, .int .i64 g.d, .int .i64 g.x, .int .i64 g.b, .int .i64 g.t, .int .i64 g.h.v, .int .i64 g.h.c, .int .i64 g.h.r, .int .i64 g.h.h, .int .i64 g.h.k, .int .i64 g.h.f, .int .i64 g.h.n]) ∧ g = sp5 f) ∧ w.grownBy w' none := by
 go_enter Tryz.func85, Tryz.ntmps85;go_wp2;refine bodyPost_ret (ret_flds rfl _ _ (w.heap.size + 1) (sp5 f) rfl (heap_alloc2_new w _ _)) rfl ?_;exact ⟨⟨_, rfl, rfl⟩, grown_two w _ _⟩
structure En8 (x : Pv) (p : Pg) : Prop where
 items : p.items.length ≤ 5000
 seps : p.seps.length ≤ 5000
 kids : p.kids.length ≤ 5000
 sc : x.s.n ≤ x.s.c ∧ x.s.c ≤ 9223372036854775807
 list : p.list.length ≤ 9223372036854775806
theorem seal8_any (ao : Option Addr) (n cap : Nat) (zs : List Int) (w : World) (hb : Byt w ao n cap zs) (bt : Bt zs) (ht : Tab w) :
  Calls Tryz.prog 36 #[.slice ao n cap] w fun e w' => ∃ po m, e = .returned (.tuple #[.slice po m m, .int .i64 (sealE zs)]) ∧ Byt w' po m m (sealL zs) ∧ m ≤ 4096 ∧ (0 < m → ∃ g, po = some ⟨g, 0, none⟩ ∧ w.heap.size ≤ g ∧ Rw w' g (sealL zs)) ∧ w.grownBy w' none := by
 by_cases h : n = 4092
 ·subst h
  refine (seal_ok ao cap zs w hb bt ht).mono ?_;rintro e w' ⟨rfl, hr, hg⟩;have e1 : sealE zs = 0 := if_pos hb.len;have e2 : sealL zs = zs ++ low4 (upd 0 zs) := if_pos hb.len;rw [e1, e2];exact ⟨_, 4096, rfl, hr.all 4096 4096 (by rw [List.length_append, hb.len]; rfl), Nat.le_refl _, fun _ => ⟨_, rfl, Nat.le_refl _, hr⟩, hg⟩
 ·refine (seal_bad ao n cap w h).mono ?_
  rintro e w' ⟨rfl, rfl⟩;have e1 : sealE zs = 20 := if_neg (by rw [hb.len]; exact h);have e2 : sealL zs = [] := if_neg (by rw [hb.len]; exact h);rw [e1, e2];exact ⟨none, 0, rfl, Byt.empty _, by omega, fun h => by omega, World.grownBy.refl _ _⟩
theorem enc1_any (x : Pv) (p : Pg) (w : World) (hp : Pm w x p) (he : En8 x p) (hm : Mk w) (hk : p.kind = 1) :
  Calls Tryz.prog 71 #[.agg #[.int .i64 x.k, .slice x.i.a x.i.n x.i.c, .int .i64 x.l, .slice x.s.a x.s.n x.s.c, .slice x.d.a x.d.n x.d.c, .int .i64 x.x, .slice x.b.a x.b.n x.b.c, .slice x.t.a x.t.n x.t.c, .int .i64 x.h.v, .int .i64 x.h.c, .int .i64 x.h.r, .int .i64 x.h.h, .int .i64 x.h.k, .int .i64 x.h.f, .int .i64 x.h.n]] w fun en w' => (∃ ao n c b e, en = .returned (.tuple #[.slice ao n c, .int .i64 e]) ∧ BodyR p b e ∧ Byt w' ao n c b) ∧ w.grownBy w' none := by
 have HP := hJ hp;have HE := hJ he;have HM := hJ hm;have HQ := hJ hk;clear hp he hm hk;go_enter Tryz.func71, Tryz.ntmps71;go_upto_region 1 with fail
 have X1 := hJ (Px.new w x);have G1 := hJ (gP w x);generalize w.alloc (.cells #[.int .i64 x.k, .slice x.i.a x.i.n x.i.c, .int .i64 x.l, .slice x.s.a x.s.n x.s.c, .slice x.d.a x.d.n x.d.c, .int .i64 x.x, .slice x.b.a x.b.n x.b.c, .slice x.t.a x.t.n x.t.c, .int .i64 x.h.v, .int .i64 x.h.c, .int .i64 x.h.r, .int .i64 x.h.h, .int .i64 x.h.k, .int .i64 x.h.f, .int .i64 x.h.n] 30) = w1 at *;obtain ⟨c0, c1, c2, c3, c4, c5, c6, c7, c8, c9, c10, c11, c12, c13, c14⟩ := X1.out.cells
 go_wp2_with fail
 refine (encode_any x.i.a x.i.n x.i.c p.items _ (HP.out.items.keptN G1.out) HP.out.ib HP.out.il (by have := HE.out.items; have := HP.out.il; omega)).mono ?_;rintro en w2 ⟨⟨ao, j, c, rfl, hb2, _⟩, hg2⟩;have B2 := hJ hb2;have G2 := hJ (gQ G1.out hg2);clear hb2 hg2 c0 c1 c2 c3 c4 c5 c6 c7 c8 c9 c10 c11 c12 c13 c14;go_wp2
 go_ret2
 exact ⟨⟨_, _, _, _, _, rfl, .inl ⟨HQ.out, rfl, rfl⟩, B2.out⟩, G2.out⟩
theorem enc2_any (x : Pv) (p : Pg) (w : World) (hp : Pm w x p) (he : En8 x p) (hm : Mk w) (hk : p.kind = 2) :
  Calls Tryz.prog 74 #[.agg #[.int .i64 x.k, .slice x.i.a x.i.n x.i.c, .int .i64 x.l, .slice x.s.a x.s.n x.s.c, .slice x.d.a x.d.n x.d.c, .int .i64 x.x, .slice x.b.a x.b.n x.b.c, .slice x.t.a x.t.n x.t.c, .int .i64 x.h.v, .int .i64 x.h.c, .int .i64 x.h.r, .int .i64 x.h.h, .int .i64 x.h.k, .int .i64 x.h.f, .int .i64 x.h.n]] w fun en w' => (∃ ao n c b e, en = .returned (.tuple #[.slice ao n c, .int .i64 e]) ∧ BodyR p b e ∧ Byt w' ao n c b) ∧ w.grownBy w' none := by
 have HP := hJ hp;have HE := hJ he;have HM := hJ hm;have HQ := hJ hk;clear hp he hm hk;go_enter Tryz.func74, Tryz.ntmps74;go_upto_region 1 with fail
 have X1 := hJ (Px.new w x);have G1 := hJ (gP w x);generalize w.alloc (.cells #[.int .i64 x.k, .slice x.i.a x.i.n x.i.c, .int .i64 x.l, .slice x.s.a x.s.n x.s.c, .slice x.d.a x.d.n x.d.c, .int .i64 x.x, .slice x.b.a x.b.n x.b.c, .slice x.t.a x.t.n x.t.c, .int .i64 x.h.v, .int .i64 x.h.c, .int .i64 x.h.r, .int .i64 x.h.h, .int .i64 x.h.k, .int .i64 x.h.f, .int .i64 x.h.n] 30) = w1 at *;obtain ⟨c0, c1, c2, c3, c4, c5, c6, c7, c8, c9, c10, c11, c12, c13, c14⟩ := X1.out.cells
 go_wp2_with fail
 refine (bencode_any x.l x.s.a x.s.n x.s.c p.seps x.d.a x.d.n x.d.c p.kids _ (HP.out.seps.keptN G1.out) HP.out.sb HP.out.sl (by have := HE.out.seps; have := HP.out.sl; omega) HE.out.sc.1 HE.out.sc.2 (HP.out.kids.keptN G1.out) HP.out.kl (by have := HE.out.kids; have := HP.out.kl; omega)).mono ?_;rintro en w2 ⟨⟨ao, j, c, e, zs, rfl, hb2, he2, _⟩, hg2⟩;have B2 := hJ hb2;have E2 := hJ he2;clear he2;have G2 := hJ (gQ G1.out hg2);clear hb2 hg2 c0 c1 c2 c3 c4 c5 c6 c7 c8 c9 c10 c11 c12 c13 c14;go_wp2
 go_ret2
 exact ⟨⟨_, _, _, _, _, rfl, .inr (.inl ⟨HQ.out, by rw [← HP.out.level]; exact E2.out⟩), B2.out⟩, G2.out⟩
theorem enc3_any (x : Pv) (p : Pg) (w : World) (hp : Pm w x p) (he : En8 x p) (hm : Mk w) (hk : p.kind = 3) :
  Calls Tryz.prog 77 #[.agg #[.int .i64 x.k, .slice x.i.a x.i.n x.i.c, .int .i64 x.l, .slice x.s.a x.s.n x.s.c, .slice x.d.a x.d.n x.d.c, .int .i64 x.x, .slice x.b.a x.b.n x.b.c, .slice x.t.a x.t.n x.t.c, .int .i64 x.h.v, .int .i64 x.h.c, .int .i64 x.h.r, .int .i64 x.h.h, .int .i64 x.h.k, .int .i64 x.h.f, .int .i64 x.h.n]] w fun en w' => (∃ ao n c b e, en = .returned (.tuple #[.slice ao n c, .int .i64 e]) ∧ BodyR p b e ∧ Byt w' ao n c b) ∧ w.grownBy w' none := by
 have HP := hJ hp;have HE := hJ he;have HM := hJ hm;have HQ := hJ hk;clear hp he hm hk;go_enter Tryz.func77, Tryz.ntmps77;go_upto_region 1 with fail
 have X1 := hJ (Px.new w x);have G1 := hJ (gP w x);generalize w.alloc (.cells #[.int .i64 x.k, .slice x.i.a x.i.n x.i.c, .int .i64 x.l, .slice x.s.a x.s.n x.s.c, .slice x.d.a x.d.n x.d.c, .int .i64 x.x, .slice x.b.a x.b.n x.b.c, .slice x.t.a x.t.n x.t.c, .int .i64 x.h.v, .int .i64 x.h.c, .int .i64 x.h.r, .int .i64 x.h.h, .int .i64 x.h.k, .int .i64 x.h.f, .int .i64 x.h.n] 30) = w1 at *;obtain ⟨c0, c1, c2, c3, c4, c5, c6, c7, c8, c9, c10, c11, c12, c13, c14⟩ := X1.out.cells
 go_wp2_with fail
 refine (encodeData_any x.x x.b.a x.b.n x.b.c p.data _ (HP.out.data.keptN G1.out) (by have := HP.out.dc; omega)).mono ?_;rintro en w2 ⟨ao, j, rfl, hb2, _, hg2⟩;have B2 := hJ hb2;have G2 := hJ (gQ G1.out hg2);clear hb2 hg2 c0 c1 c2 c3 c4 c5 c6 c7 c8 c9 c10 c11 c12 c13 c14;go_wp2
 go_ret2
 exact ⟨⟨_, _, _, _, _, rfl, .inr (.inr (.inl ⟨HQ.out, by rw [← HP.out.next], by rw [← HP.out.next, HP.out.data.len]⟩)), B2.out⟩, G2.out⟩
theorem enc4_any (x : Pv) (p : Pg) (w : World) (hp : Pm w x p) (he : En8 x p) (hm : Mk w) (hk : p.kind = 4) :
  Calls Tryz.prog 80 #[.agg #[.int .i64 x.k, .slice x.i.a x.i.n x.i.c, .int .i64 x.l, .slice x.s.a x.s.n x.s.c, .slice x.d.a x.d.n x.d.c, .int .i64 x.x, .slice x.b.a x.b.n x.b.c, .slice x.t.a x.t.n x.t.c, .int .i64 x.h.v, .int .i64 x.h.c, .int .i64 x.h.r, .int .i64 x.h.h, .int .i64 x.h.k, .int .i64 x.h.f, .int .i64 x.h.n]] w fun en w' => (∃ ao n c b e, en = .returned (.tuple #[.slice ao n c, .int .i64 e]) ∧ BodyR p b e ∧ Byt w' ao n c b) ∧ w.grownBy w' none := by
 have HP := hJ hp;have HE := hJ he;have HM := hJ hm;have HQ := hJ hk;clear hp he hm hk;go_enter Tryz.func80, Tryz.ntmps80;go_upto_region 1 with fail
 have X1 := hJ (Px.new w x);have G1 := hJ (gP w x);generalize w.alloc (.cells #[.int .i64 x.k, .slice x.i.a x.i.n x.i.c, .int .i64 x.l, .slice x.s.a x.s.n x.s.c, .slice x.d.a x.d.n x.d.c, .int .i64 x.x, .slice x.b.a x.b.n x.b.c, .slice x.t.a x.t.n x.t.c, .int .i64 x.h.v, .int .i64 x.h.c, .int .i64 x.h.r, .int .i64 x.h.h, .int .i64 x.h.k, .int .i64 x.h.f, .int .i64 x.h.n] 30) = w1 at *;obtain ⟨c0, c1, c2, c3, c4, c5, c6, c7, c8, c9, c10, c11, c12, c13, c14⟩ := X1.out.cells
 go_wp2_with fail
 refine (encodeList_any x.x x.t.a x.t.n x.t.c p.list _ (HP.out.list.keptN G1.out) HP.out.tl (by have := HE.out.list; have := HP.out.tl; omega)).mono ?_;rintro en w2 ⟨ao, j, rfl, hb2, _, hg2⟩;have B2 := hJ hb2;have G2 := hJ (gQ G1.out hg2);clear hb2 hg2 c0 c1 c2 c3 c4 c5 c6 c7 c8 c9 c10 c11 c12 c13 c14;go_wp2
 go_ret2
 exact ⟨⟨_, _, _, _, _, rfl, .inr (.inr (.inr (.inl ⟨HQ.out, by rw [← HP.out.next], by rw [← HP.out.next]⟩))), B2.out⟩, G2.out⟩
theorem enc5_any (x : Pv) (p : Pg) (w : World) (hp : Pm w x p) (he : En8 x p) (hm : Mk w) (hk : p.kind = 5) :
  Calls Tryz.prog 83 #[.agg #[.int .i64 x.k, .slice x.i.a x.i.n x.i.c, .int .i64 x.l, .slice x.s.a x.s.n x.s.c, .slice x.d.a x.d.n x.d.c, .int .i64 x.x, .slice x.b.a x.b.n x.b.c, .slice x.t.a x.t.n x.t.c, .int .i64 x.h.v, .int .i64 x.h.c, .int .i64 x.h.r, .int .i64 x.h.h, .int .i64 x.h.k, .int .i64 x.h.f, .int .i64 x.h.n]] w fun en w' => (∃ ao n c b e, en = .returned (.tuple #[.slice ao n c, .int .i64 e]) ∧ BodyR p b e ∧ Byt w' ao n c b) ∧ w.grownBy w' none := by
 have HP := hJ hp;have HE := hJ he;have HM := hJ hm;have HQ := hJ hk;clear hp he hm hk;go_enter Tryz.func83, Tryz.ntmps83;go_upto_region 1 with fail
 have X1 := hJ (Px.new w x);have G1 := hJ (gP w x);generalize w.alloc (.cells #[.int .i64 x.k, .slice x.i.a x.i.n x.i.c, .int .i64 x.l, .slice x.s.a x.s.n x.s.c, .slice x.d.a x.d.n x.d.c, .int .i64 x.x, .slice x.b.a x.b.n x.b.c, .slice x.t.a x.t.n x.t.c, .int .i64 x.h.v, .int .i64 x.h.c, .int .i64 x.h.r, .int .i64 x.h.h, .int .i64 x.h.k, .int .i64 x.h.f, .int .i64 x.h.n] 30) = w1 at *;obtain ⟨c0, c1, c2, c3, c4, c5, c6, c7, c8, c9, c10, c11, c12, c13, c14⟩ := X1.out.cells
 go_wp2_with fail
 refine (encode7_any x.h.v x.h.c x.h.r x.h.h x.h.k x.h.f x.h.n _ (HM.out.keptN G1.out)).mono ?_;rintro en w2 ⟨ao, j, rfl, hb2, _, hg2⟩;have B2 := hJ hb2;have G2 := hJ (gQ G1.out hg2);clear hb2 hg2 c0 c1 c2 c3 c4 c5 c6 c7 c8 c9 c10 c11 c12 c13 c14;go_wp2
 go_ret2
 exact ⟨⟨_, _, _, _, _, rfl, .inr (.inr (.inr (.inr ⟨HQ.out, by rw [← HP.out.head], by rw [← HP.out.head]⟩))), B2.out⟩, G2.out⟩
theorem len_zero8 {α : Type} {l : List α} {n : Nat} (h : l.length = n) : ((n : Int) = 0 ↔ l = []) := by
 rw [← List.length_eq_zero_iff, h]; omega
theorem spare1_iff {w : World} {x : Pv} {p : Pg} (h : Pm w x p) (hk : p.kind = 1) : sp1 (fOf x) = fz ↔ p = hasP p := by
 have e1 := len_zero8 h.il;have e2 := len_zero8 h.sl;have e3 := len_zero8 h.kl;have e4 := len_zero8 h.data.len;have e5 := len_zero8 h.tl;have e6 := h.level;have e7 := h.next
 have e8 := h.head;clear h;obtain ⟨kd, it, lv, se, ki, nx, da, li, hd⟩ := p;simp only at hk e1 e2 e3 e4 e5 e6 e7 e8;subst hk;simp only [hasP, sp1, fOf, fz, Fd8.mk.injEq, e2, e3, e4, e5, e6, e7, e8];simp
theorem spare2_iff {w : World} {x : Pv} {p : Pg} (h : Pm w x p) (hk : p.kind = 2) : sp2 (fOf x) = fz ↔ p = hasP p := by
 have e1 := len_zero8 h.il;have e2 := len_zero8 h.sl;have e3 := len_zero8 h.kl;have e4 := len_zero8 h.data.len;have e5 := len_zero8 h.tl;have e6 := h.level;have e7 := h.next
 have e8 := h.head;clear h;obtain ⟨kd, it, lv, se, ki, nx, da, li, hd⟩ := p;simp only at hk e1 e2 e3 e4 e5 e6 e7 e8;subst hk;simp only [hasP, sp2, fOf, fz, Fd8.mk.injEq, e1, e4, e5, e6, e7, e8];simp
theorem spare3_iff {w : World} {x : Pv} {p : Pg} (h : Pm w x p) (hk : p.kind = 3) : sp3 (fOf x) = fz ↔ p = hasP p := by
 have e1 := len_zero8 h.il;have e2 := len_zero8 h.sl;have e3 := len_zero8 h.kl;have e4 := len_zero8 h.data.len;have e5 := len_zero8 h.tl;have e6 := h.level;have e7 := h.next
 have e8 := h.head;clear h;obtain ⟨kd, it, lv, se, ki, nx, da, li, hd⟩ := p;simp only at hk e1 e2 e3 e4 e5 e6 e7 e8;subst hk;simp only [hasP, sp3, fOf, fz, Fd8.mk.injEq, e1, e2, e3, e5, e6, e7, e8];simp
theorem spare4_iff {w : World} {x : Pv} {p : Pg} (h : Pm w x p) (hk : p.kind = 4) : sp4 (fOf x) = fz ↔ p = hasP p := by
 have e1 := len_zero8 h.il;have e2 := len_zero8 h.sl;have e3 := len_zero8 h.kl;have e4 := len_zero8 h.data.len;have e5 := len_zero8 h.tl;have e6 := h.level;have e7 := h.next
 have e8 := h.head;clear h;obtain ⟨kd, it, lv, se, ki, nx, da, li, hd⟩ := p;simp only at hk e1 e2 e3 e4 e5 e6 e7 e8;subst hk;simp only [hasP, sp4, fOf, fz, Fd8.mk.injEq, e1, e2, e3, e4, e6, e7, e8];simp
theorem spare5_iff {w : World} {x : Pv} {p : Pg} (h : Pm w x p) (hk : p.kind = 5) : sp5 (fOf x) = fz ↔ p = hasP p := by
 have e1 := len_zero8 h.il;have e2 := len_zero8 h.sl;have e3 := len_zero8 h.kl;have e4 := len_zero8 h.data.len;have e5 := len_zero8 h.tl;have e6 := h.level;have e7 := h.next
 have e8 := h.head;clear h;obtain ⟨kd, it, lv, se, ki, nx, da, li, hd⟩ := p;simp only at hk e1 e2 e3 e4 e5 e6 e7 e8;subst hk;simp only [hasP, sp5, fOf, fz, Fd8.mk.injEq, e1, e2, e3, e4, e5, e6, e7, e8];simp
structure Eo8 (p : Pg) (w : World) (en : Ending) (w' : World) : Prop where
 out : ∃ ao n zs e, en = .returned (.tuple #[.slice ao n n, .int .i64 e]) ∧ PEnc p zs e ∧ Byt w' ao n n zs ∧ Bt zs ∧ n ≤ 4096 ∧ (0 < n → ∃ g, ao = some ⟨g, 0, none⟩ ∧ w.heap.size ≤ g ∧ Rw w' g zs)
 gr : w.grownBy w' none
theorem sealL_bt {zs : List Int} (h : Bt zs) : Bt (sealL zs) := by
 unfold sealL; split
 ·exact h.app (fun z hz => low4_bts _ z hz)
 ·exact Bt.nil
theorem open8_any (ao : Option Addr) (n cap : Nat) (zs : List Int) (w : World) (hb : Byt w ao n cap zs) (bt : Bt zs) (ht : Tab w) (hc : n ≤ cap) :
  Calls Tryz.prog 39 #[.slice ao n cap] w fun e w' => ∃ po m, e = .returned (.tuple #[.slice po m m, .int .i64 (openE zs)]) ∧ Byt w' po m m (openL zs) ∧ w.grownBy w' none := by
 by_cases h : n = 4096
 ·subst h
  by_cases hx : zs.drop 4092 = low4 (upd 0 (zs.take 4092))
  ·refine (open_yes ao cap zs w hb bt ht hc hx).mono ?_
   rintro e w' ⟨g, rfl, hr, _, hg⟩;have hf : fits zs := ⟨hb.len, hx⟩;have e1 : openE zs = 0 := if_pos hf;have e2 : openL zs = zs.take 4092 := if_pos hf;rw [e1, e2];exact ⟨_, 4092, rfl, hr.all 4092 4092 (by rw [List.length_take, hb.len]; rfl), hg⟩
  ·refine (open_no ao cap zs w hb bt ht hc hx).mono ?_
   rintro e w' ⟨rfl, hg⟩;have hf : ¬ fits zs := fun h => hx h.2
   have e1 : openE zs = 22 := by unfold openE; rw [if_neg hf, if_pos hb.len]
   have e2 : openL zs = [] := if_neg hf;rw [e1, e2];exact ⟨none, 0, rfl, Byt.empty _, hg⟩
 ·refine (open_bad ao n cap w h).mono ?_
  rintro e w' ⟨rfl, rfl⟩;have hl : zs.length ≠ 4096 := by rw [hb.len]; exact h
  have hf : ¬ fits zs := fun h => hl h.1
  have e1 : openE zs = 21 := by unfold openE; rw [if_neg hf, if_neg hl]
  have e2 : openL zs = [] := if_neg hf;rw [e1, e2];exact ⟨none, 0, rfl, Byt.empty _, World.grownBy.refl _ _⟩
structure Dk8 (j : Int) (zs : List Int) (w : World) (en : Ending) (w' : World) : Prop where
 out : ∃ (y : Pv) (p : Pg) (e : Int), en = .returned (.tuple #[.agg #[.int .i64 y.k, .slice y.i.a y.i.n y.i.c, .int .i64 y.l, .slice y.s.a y.s.n y.s.c, .slice y.d.a y.d.n y.d.c, .int .i64 y.x, .slice y.b.a y.b.n y.b.c, .slice y.t.a y.t.n y.t.c, .int .i64 y.h.v, .int .i64 y.h.c, .int .i64 y.h.r, .int .i64 y.h.h, .int .i64 y.h.k, .int .i64 y.h.f, .int .i64 y.h.n], .int .i64 e]) ∧ y.k = 0 ∧ Pn w w' { y with k := j } p ∧ DecR j zs p e ∧ En8 { y with k := j } p
 gr : w.grownBy w' none
theorem en_leaf {a : Option Addr} {q cap : Nat} {L : List It} (h : L.length ≤ 5000) : En8 ⟨1, ⟨a, q, cap⟩, 0, nS, nS, 0, nS, nS, zH⟩ ⟨1, L, 0, [], [], 0, [], [], zH⟩ :=
 ⟨h, Nat.zero_le _, Nat.zero_le _, ⟨Nat.zero_le _, Nat.zero_le _⟩, Nat.zero_le _⟩
theorem en_branch {lv : Int} {a b : Option Addr} {q cap m cap2 : Nat} {L : List (List Int)} {K : List Kd} (h : L.length ≤ 5000) (hk : K.length ≤ 5000) (hc : q ≤ cap ∧ cap ≤ 9223372036854775807) : En8 ⟨2, nS, lv, ⟨a, q, cap⟩, ⟨b, m, cap2⟩, 0, nS, nS, zH⟩ ⟨2, [], lv, L, K, 0, [], [], zH⟩ :=
 ⟨Nat.zero_le _, h, hk, hc, Nat.zero_le _⟩
theorem en_data {nx : Int} {a : Option Addr} {q cap : Nat} {D : List Int} : En8 ⟨3, nS, 0, nS, nS, nx, ⟨a, q, cap⟩, nS, zH⟩ ⟨3, [], 0, [], [], nx, D, [], zH⟩ :=
 ⟨Nat.zero_le _, Nat.zero_le _, Nat.zero_le _, ⟨Nat.zero_le _, Nat.zero_le _⟩, Nat.zero_le _⟩
theorem en_list {nx : Int} {a : Option Addr} {q cap : Nat} {D : List Int} (h : D.length ≤ 9223372036854775806) : En8 ⟨4, nS, 0, nS, nS, nx, nS, ⟨a, q, cap⟩, zH⟩ ⟨4, [], 0, [], [], nx, [], D, zH⟩ :=
 ⟨Nat.zero_le _, Nat.zero_le _, Nat.zero_le _, ⟨Nat.zero_le _, Nat.zero_le _⟩, h⟩
theorem en_head (H : Hd) : En8 ⟨5, nS, 0, nS, nS, 0, nS, nS, H⟩ ⟨5, [], 0, [], [], 0, [], [], H⟩ :=
 ⟨Nat.zero_le _, Nat.zero_le _, Nat.zero_le _, ⟨Nat.zero_le _, Nat.zero_le _⟩, Nat.zero_le _⟩
theorem en_zero : En8 zV zP := ⟨Nat.zero_le _, Nat.zero_le _, Nat.zero_le _, ⟨Nat.zero_le _, Nat.zero_le _⟩, Nat.zero_le _⟩
theorem dec_few {zs : List Int} {L : List It} {e : Int} (h : Dec zs L e) : L.length ≤ 5000 := by
 rcases h with ⟨_, h1, _⟩ | ⟨_, rfl, _⟩
 ·have := (many_le h1.1 h1.2.1).1; omega
 ·exact Nat.zero_le _
theorem bdec_few {zs : List Int} {lv : Int} {L : List (List Int)} {K : List Kd} {e : Int} (h : Bdec zs lv L K e) : L.length ≤ 5000 ∧ K.length ≤ 5000 := by
 by_cases he : e = 0
 ·obtain ⟨_, k, M, rfl, rfl, hg⟩ := h.good he
  have hf := bwrong_fit.1 hg.1;have := (bmany_le (fun s hs => hf.sep s hs) hf.size).1;rw [seps_len, kids_len];omega
 ·obtain ⟨_, rfl, rfl, _⟩ := h.bad he
  exact ⟨Nat.zero_le _, Nat.zero_le _⟩
theorem uL_few (zs : List Int) : (uL zs).length ≤ 9223372036854775806 := Nat.le_trans (uL_small8 zs) (by decide)
theorem vD_any8 {zs : List Int} (h : zs.length = 4092) : (vD zs).length ≤ 4092 := vD_small8 h
theorem nw_list8 {w0 w w' : World} {a : Option Addr} {xs : List Int} {q : Nat} (h : Nt w' a xs) (hl : xs.length = q) (hr : a ≠ none → ∃ g, a = some ⟨g, 0, none⟩ ∧ w.heap.size ≤ g ∧ Ri w' g xs) (hs : w0.heap.size ≤ w.heap.size) : Nw w0 w' 3 a q := by
 intro h0
 have hne : a ≠ none := by
  obtain ⟨b, off, rfl, _⟩ := h.row 0 (by omega);simp
 obtain ⟨g, e1, e2, e3⟩ := hr hne;exact ⟨g, _, e1, by omega, e3⟩
theorem dec1_any (ao : Option Addr) (n c : Nat) (zs : List Int) (w : World) (hb : Byt w ao n c zs) (hbt : Bt zs) (_hn : zs.length = 4092) (hm : Mk w) :
  Calls Tryz.prog 72 #[.slice ao n c] w fun en w' => Dk8 1 zs w en w' := by
 have HB := hJ hb;have HM := hJ hm;clear hb hm;go_enter Tryz.func72, Tryz.ntmps72;go_upto_region 1 with fail
 have U1 := hJ (Px.new w zV);have G1 := hJ (gP w zV);simp only [zV, nS, zH] at U1 G1;generalize w.alloc (.cells #[.int .i64 0, .slice none 0 0, .int .i64 0, .slice none 0 0, .slice none 0 0, .int .i64 0, .slice none 0 0, .slice none 0 0, .int .i64 0, .int .i64 0, .int .i64 0, .int .i64 0, .int .i64 0, .int .i64 0, .int .i64 0] 30) = w1 at *
 go_wp2_with fail
 refine (decode_new ao n c zs _ (HB.out.keptN G1.out) hbt).mono ?_;rintro en w2 ⟨⟨a, q, cap, e, L, rfl, hd, hil, hib, hl, hqc, hcm, hnw⟩, hg2⟩;have PN : Hid (Pn w w2 { (⟨0, ⟨a, q, cap⟩, 0, nS, nS, 0, nS, nS, zH⟩ : Pv) with k := 1 } ⟨1, L, 0, [], [], 0, [], [], zH⟩) := pn_leaf hil hib hl (dec_small hd hl) (hnw.from G1.out.size);have DR : Hid (DecR 1 zs ⟨1, L, 0, [], [], 0, [], [], zH⟩ e) := .inl ⟨rfl, L, hd, fun _ => rfl⟩;have EN : Hid (En8 { (⟨0, ⟨a, q, cap⟩, 0, nS, nS, 0, nS, nS, zH⟩ : Pv) with k := 1 } ⟨1, L, 0, [], [], 0, [], [], zH⟩) := en_leaf (dec_few hd);have U2 := hJ (U1.out.keptN hg2);have G2 := hJ (gQ G1.out hg2);clear hd hil hib hl hnw hqc hcm hg2 U1 G1
 go_wp2_with (refine wpList_store_page rfl _ _ rfl w.heap.size ⟨0, ⟨a, q, cap⟩, 0, nS, nS, 0, nS, nS, zH⟩ zV rfl rfl U2.out ?_)
 intro w3 hx3 hg3 _;have P3 := hJ (PN.out.page U2.out hg3);have G3 := hJ (grown_new G2.out hg3 (Nat.le_refl _));clear hg3 PN U2 G2;go_wp2;refine bodyPost_ret (ret_page_tmp rfl _ _ w.heap.size ⟨0, ⟨a, q, cap⟩, 0, nS, nS, 0, nS, nS, zH⟩ rfl hx3) rfl ?_;exact ⟨⟨⟨0, ⟨a, q, cap⟩, 0, nS, nS, 0, nS, nS, zH⟩, _, _, rfl, rfl, P3.out, DR.out, EN.out⟩, G3.out⟩
theorem dec2_any (ao : Option Addr) (n c : Nat) (zs : List Int) (w : World) (hb : Byt w ao n c zs) (hbt : Bt zs) (_hn : zs.length = 4092) (hm : Mk w) :
  Calls Tryz.prog 75 #[.slice ao n c] w fun en w' => Dk8 2 zs w en w' := by
 have HB := hJ hb;have HM := hJ hm;clear hb hm;go_enter Tryz.func75, Tryz.ntmps75;go_upto_region 1 with fail
 have U1 := hJ (Px.new w zV);have G1 := hJ (gP w zV);simp only [zV, nS, zH] at U1 G1;generalize w.alloc (.cells #[.int .i64 0, .slice none 0 0, .int .i64 0, .slice none 0 0, .slice none 0 0, .int .i64 0, .slice none 0 0, .slice none 0 0, .int .i64 0, .int .i64 0, .int .i64 0, .int .i64 0, .int .i64 0, .int .i64 0, .int .i64 0] 30) = w1 at *
 go_wp2_with fail
 refine (bdecode_new ao n c zs _ (HB.out.keptN G1.out) hbt).mono ?_;rintro en w2 ⟨⟨lv, a, q, cap, b', m', cap2, e, L, K, rfl, hd, hlz, hlb, hln, hqc, hcm, hkl, hkn, _, _, hna, hnb⟩, hg2⟩;have PN : Hid (Pn w w2 { (⟨0, nS, lv, ⟨a, q, cap⟩, ⟨b', m', cap2⟩, 0, nS, nS, zH⟩ : Pv) with k := 2 } ⟨2, [], lv, L, K, 0, [], [], zH⟩) := pn_branch hlz hlb hln (bdec_small hd hln hkn).1 (hna.from G1.out.size) hkl hkn (bdec_small hd hln hkn).2 (hnb.from G1.out.size);have DR : Hid (DecR 2 zs ⟨2, [], lv, L, K, 0, [], [], zH⟩ e) := .inr (.inl ⟨rfl, lv, L, K, hd, fun _ => rfl⟩);have EN : Hid (En8 { (⟨0, nS, lv, ⟨a, q, cap⟩, ⟨b', m', cap2⟩, 0, nS, nS, zH⟩ : Pv) with k := 2 } ⟨2, [], lv, L, K, 0, [], [], zH⟩) := en_branch (bdec_few hd).1 (bdec_few hd).2 ⟨hqc, hcm⟩;have U2 := hJ (U1.out.keptN hg2);have G2 := hJ (gQ G1.out hg2);clear hd hlz hlb hln hqc hcm hkl hkn hna hnb hg2 U1 G1
 go_wp2_with (refine wpList_store_page rfl _ _ rfl w.heap.size ⟨0, nS, lv, ⟨a, q, cap⟩, ⟨b', m', cap2⟩, 0, nS, nS, zH⟩ zV rfl rfl U2.out ?_)
 intro w3 hx3 hg3 _;have P3 := hJ (PN.out.page U2.out hg3);have G3 := hJ (grown_new G2.out hg3 (Nat.le_refl _));clear hg3 PN U2 G2;go_wp2;refine bodyPost_ret (ret_page_tmp rfl _ _ w.heap.size ⟨0, nS, lv, ⟨a, q, cap⟩, ⟨b', m', cap2⟩, 0, nS, nS, zH⟩ rfl hx3) rfl ?_;exact ⟨⟨⟨0, nS, lv, ⟨a, q, cap⟩, ⟨b', m', cap2⟩, 0, nS, nS, zH⟩, _, _, rfl, rfl, P3.out, DR.out, EN.out⟩, G3.out⟩
theorem dec3_any (ao : Option Addr) (n c : Nat) (zs : List Int) (w : World) (hb : Byt w ao n c zs) (hbt : Bt zs) (hn : zs.length = 4092) (hm : Mk w) :
  Calls Tryz.prog 78 #[.slice ao n c] w fun en w' => Dk8 3 zs w en w' := by
 have HB := hJ hb;have HM := hJ hm;clear hb hm;go_enter Tryz.func78, Tryz.ntmps78;go_upto_region 1 with fail
 have U1 := hJ (Px.new w zV);have G1 := hJ (gP w zV);simp only [zV, nS, zH] at U1 G1;generalize w.alloc (.cells #[.int .i64 0, .slice none 0 0, .int .i64 0, .slice none 0 0, .slice none 0 0, .int .i64 0, .slice none 0 0, .slice none 0 0, .int .i64 0, .int .i64 0, .int .i64 0, .int .i64 0, .int .i64 0, .int .i64 0, .int .i64 0] 30) = w1 at *
 go_wp2_with fail
 refine (decodeData_any ao n c zs _ (HB.out.keptN G1.out) hbt).mono ?_;rintro en w2 ⟨a, q, rfl, hb4, _, hg2⟩;have PN : Hid (Pn w w2 { (⟨0, nS, 0, nS, nS, vN zs, ⟨a, q, q⟩, nS, zH⟩ : Pv) with k := 3 } ⟨3, [], 0, [], [], vN zs, vD zs, [], zH⟩) := pn_data hb4 (vD_bt8 hbt) (by rw [← hb4.len]; exact Nat.le_trans (vD_any8 hn) (by decide));have DR : Hid (DecR 3 zs ⟨3, [], 0, [], [], vN zs, vD zs, [], zH⟩ (vE zs)) := .inr (.inr (.inl ⟨rfl, rfl, fun _ => rfl⟩));have EN : Hid (En8 { (⟨0, nS, 0, nS, nS, vN zs, ⟨a, q, q⟩, nS, zH⟩ : Pv) with k := 3 } ⟨3, [], 0, [], [], vN zs, vD zs, [], zH⟩) := en_data;have U2 := hJ (U1.out.keptN hg2);have G2 := hJ (gQ G1.out hg2);clear hb4 hg2 U1 G1;generalize vN zs = nx at *;generalize vD zs = D at *;generalize vE zs = e at *
 go_wp2_with (refine wpList_store_page rfl _ _ rfl w.heap.size ⟨0, nS, 0, nS, nS, nx, ⟨a, q, q⟩, nS, zH⟩ zV rfl rfl U2.out ?_)
 intro w3 hx3 hg3 _;have P3 := hJ (PN.out.page U2.out hg3);have G3 := hJ (grown_new G2.out hg3 (Nat.le_refl _));clear hg3 PN U2 G2;go_wp2;refine bodyPost_ret (ret_page_tmp rfl _ _ w.heap.size ⟨0, nS, 0, nS, nS, nx, ⟨a, q, q⟩, nS, zH⟩ rfl hx3) rfl ?_;exact ⟨⟨⟨0, nS, 0, nS, nS, nx, ⟨a, q, q⟩, nS, zH⟩, _, _, rfl, rfl, P3.out, DR.out, EN.out⟩, G3.out⟩
theorem dec4_any (ao : Option Addr) (n c : Nat) (zs : List Int) (w : World) (hb : Byt w ao n c zs) (hbt : Bt zs) (_hn : zs.length = 4092) (hm : Mk w) :
  Calls Tryz.prog 81 #[.slice ao n c] w fun en w' => Dk8 4 zs w en w' := by
 have HB := hJ hb;have HM := hJ hm;clear hb hm;go_enter Tryz.func81, Tryz.ntmps81;go_upto_region 1 with fail
 have U1 := hJ (Px.new w zV);have G1 := hJ (gP w zV);simp only [zV, nS, zH] at U1 G1;generalize w.alloc (.cells #[.int .i64 0, .slice none 0 0, .int .i64 0, .slice none 0 0, .slice none 0 0, .int .i64 0, .slice none 0 0, .slice none 0 0, .int .i64 0, .int .i64 0, .int .i64 0, .int .i64 0, .int .i64 0, .int .i64 0, .int .i64 0] 30) = w1 at *
 go_wp2_with fail
 refine (decodeList_any ao n c zs _ (HB.out.keptN G1.out) hbt).mono ?_;rintro en w2 ⟨a, q, rfl, hb4, hln, hri, hg2⟩;have PN : Hid (Pn w w2 { (⟨0, nS, 0, nS, nS, uN zs, nS, ⟨a, q, q⟩, zH⟩ : Pv) with k := 4 } ⟨4, [], 0, [], [], uN zs, [], uL zs, zH⟩) := pn_list hb4 hln (by rw [← hln]; exact Nat.le_trans (uL_small8 _) (by decide)) (nw_list8 hb4 hln hri G1.out.size);have DR : Hid (DecR 4 zs ⟨4, [], 0, [], [], uN zs, [], uL zs, zH⟩ (uE zs)) := .inr (.inr (.inr (.inl ⟨rfl, rfl, fun _ => rfl⟩)));have EN : Hid (En8 { (⟨0, nS, 0, nS, nS, uN zs, nS, ⟨a, q, q⟩, zH⟩ : Pv) with k := 4 } ⟨4, [], 0, [], [], uN zs, [], uL zs, zH⟩) := en_list (uL_few _);have U2 := hJ (U1.out.keptN hg2);have G2 := hJ (gQ G1.out hg2);clear hb4 hln hri hg2 U1 G1;generalize uN zs = nx at *;generalize uL zs = D at *;generalize uE zs = e at *
 go_wp2_with (refine wpList_store_page rfl _ _ rfl w.heap.size ⟨0, nS, 0, nS, nS, nx, nS, ⟨a, q, q⟩, zH⟩ zV rfl rfl U2.out ?_)
 intro w3 hx3 hg3 _;have P3 := hJ (PN.out.page U2.out hg3);have G3 := hJ (grown_new G2.out hg3 (Nat.le_refl _));clear hg3 PN U2 G2;go_wp2;refine bodyPost_ret (ret_page_tmp rfl _ _ w.heap.size ⟨0, nS, 0, nS, nS, nx, nS, ⟨a, q, q⟩, zH⟩ rfl hx3) rfl ?_;exact ⟨⟨⟨0, nS, 0, nS, nS, nx, nS, ⟨a, q, q⟩, zH⟩, _, _, rfl, rfl, P3.out, DR.out, EN.out⟩, G3.out⟩
theorem dec5_any (ao : Option Addr) (n c : Nat) (zs : List Int) (w : World) (hb : Byt w ao n c zs) (hbt : Bt zs) (_hn : zs.length = 4092) (hm : Mk w) :
  Calls Tryz.prog 84 #[.slice ao n c] w fun en w' => Dk8 5 zs w en w' := by
 have HB := hJ hb;have HM := hJ hm;clear hb hm;go_enter Tryz.func84, Tryz.ntmps84;go_upto_region 1 with fail
 have U1 := hJ (Px.new w zV);have G1 := hJ (gP w zV);simp only [zV, nS, zH] at U1 G1;generalize w.alloc (.cells #[.int .i64 0, .slice none 0 0, .int .i64 0, .slice none 0 0, .slice none 0 0, .int .i64 0, .slice none 0 0, .slice none 0 0, .int .i64 0, .int .i64 0, .int .i64 0, .int .i64 0, .int .i64 0, .int .i64 0, .int .i64 0] 30) = w1 at *
 go_wp2_with fail
 refine (decode7_any ao n c zs _ (HB.out.keptN G1.out) hbt (HM.out.keptN G1.out)).mono ?_;rintro en w2 ⟨rfl, hg2⟩;have PN : Hid (Pn w w2 { (⟨0, nS, 0, nS, nS, 0, nS, nS, aH zs⟩ : Pv) with k := 5 } ⟨5, [], 0, [], [], 0, [], [], aH zs⟩) := pn_head _ _ (aH zs);have DR : Hid (DecR 5 zs ⟨5, [], 0, [], [], 0, [], [], aH zs⟩ (aE zs)) := .inr (.inr (.inr (.inr ⟨rfl, rfl, fun _ => rfl⟩)));have EN : Hid (En8 { (⟨0, nS, 0, nS, nS, 0, nS, nS, aH zs⟩ : Pv) with k := 5 } ⟨5, [], 0, [], [], 0, [], [], aH zs⟩) := en_head _;have U2 := hJ (U1.out.keptN hg2);have G2 := hJ (gQ G1.out hg2);clear  hg2 U1 G1;generalize aE zs = e at *;generalize aH zs = H at *;have ga := World.grownBy_alloc w2 (.cells #[.int .i64 H.v, .int .i64 H.c, .int .i64 H.r, .int .i64 H.h, .int .i64 H.k, .int .i64 H.f, .int .i64 H.n] 28) none;have PN' := hJ (PN.out.keptN ga);have U2' := hJ (U2.out.keptN ga);have G2' := hJ (gQ G2.out ga);have X2' := hJ (Hx.new w2 H.v H.c H.r H.h H.k H.f H.n);clear ga PN U2 G2;go_upto_region 2 with fail
 generalize w2.alloc (.cells #[.int .i64 H.v, .int .i64 H.c, .int .i64 H.r, .int .i64 H.h, .int .i64 H.k, .int .i64 H.f, .int .i64 H.n] 28) = w2' at *;generalize w2.heap.size = T at *;obtain ⟨c0, c1, c2, c3, c4, c5, c6⟩ := X2'.out.cells
 go_wp2_with (refine wpList_store_page rfl _ _ rfl w.heap.size ⟨0, nS, 0, nS, nS, 0, nS, nS, H⟩ zV rfl rfl U2'.out ?_)
 intro w3 hx3 hg3 _;have P3 := hJ (PN'.out.page U2'.out hg3);have G3 := hJ (grown_new G2'.out hg3 (Nat.le_refl _));clear hg3 PN' U2' G2' c0 c1 c2 c3 c4 c5 c6;go_wp2;refine bodyPost_ret (ret_page_tmp rfl _ _ w.heap.size ⟨0, nS, 0, nS, nS, 0, nS, nS, H⟩ rfl hx3) rfl ?_;exact ⟨⟨⟨0, nS, 0, nS, nS, 0, nS, nS, H⟩, _, _, rfl, rfl, P3.out, DR.out, EN.out⟩, G3.out⟩
theorem decR_any {k : Int} {b : List Int} {p q : Pg} {e : Int} (h : DecR k b p e) (he : e ≠ 0) : DecR k b q e := by
 rcases h with ⟨h0, L, h1, h2⟩ | ⟨h0, lv, L, K, h1, h2⟩ | ⟨h0, h1, h2⟩ | ⟨h0, h1, h2⟩ | ⟨h0, h1, h2⟩
 ·exact .inl ⟨h0, L, h1, fun h => absurd h he⟩
 ·exact .inr (.inl ⟨h0, lv, L, K, h1, fun h => absurd h he⟩)
 ·exact .inr (.inr (.inl ⟨h0, h1, fun h => absurd h he⟩))
 ·exact .inr (.inr (.inr (.inl ⟨h0, h1, fun h => absurd h he⟩)))
 ·exact .inr (.inr (.inr (.inr ⟨h0, h1, fun h => absurd h he⟩)))
structure Dd8 (zs : List Int) (w : World) (en : Ending) (w' : World) : Prop where
 out : ∃ (y : Pv) (p : Pg) (e : Int), en = .returned (.tuple #[.agg #[.int .i64 y.k, .slice y.i.a y.i.n y.i.c, .int .i64 y.l, .slice y.s.a y.s.n y.s.c, .slice y.d.a y.d.n y.d.c, .int .i64 y.x, .slice y.b.a y.b.n y.b.c, .slice y.t.a y.t.n y.t.c, .int .i64 y.h.v, .int .i64 y.h.c, .int .i64 y.h.r, .int .i64 y.h.h, .int .i64 y.h.k, .int .i64 y.h.f, .int .i64 y.h.n], .int .i64 e]) ∧ PDec zs p e ∧ Pn w w' y p ∧ En8 y p
 gr : w.grownBy w' none
theorem Px.set0 {w : World} {T : Nat} {x : Pv} (h : Px w T x) (s : Int) : Px (w.setCell ⟨T, 0, none⟩ (.int .i64 s)) T { x with k := s } := heap_setCell_same w T 0 _ _ _ h
theorem decode8_any (ao : Option Addr) (n c : Nat) (zs : List Int) (w : World) (hb : Byt w ao n c zs) (hbt : Bt zs) (hc : n ≤ c) (ht : Tab w) (hm : Mk w) :
  Calls Tryz.prog 20 #[.slice ao n c] w fun en w' => Dd8 zs w en w' := by
 have HB := hJ hb;have HBT := hJ (openL_bt hbt);have HT := hJ ht;have HM := hJ hm;clear hb ht hm;go_enter Tryz.func20, Tryz.ntmps20;go_upto_region 1 with fail
 have U1 := hJ (Px.new w zV);have G1 := hJ (gP w zV);simp only [zV, nS, zH] at U1 G1;generalize w.alloc (.cells #[.int .i64 0, .slice none 0 0, .int .i64 0, .slice none 0 0, .slice none 0 0, .int .i64 0, .slice none 0 0, .slice none 0 0, .int .i64 0, .int .i64 0, .int .i64 0, .int .i64 0, .int .i64 0, .int .i64 0, .int .i64 0] 30) = w1 at *
 go_wp2_with fail
 refine (open8_any ao n c zs _ (HB.out.keptN G1.out) hbt (HT.out.keptN G1.out) hc).mono ?_;rintro en w2 ⟨po, m, rfl, hb2, hg2⟩;have U2 := hJ (U1.out.keptN hg2);have G2 := hJ (gQ G1.out hg2);have HO := hJ hb2;clear hb2 hg2 U1 G1
 by_cases he : openE zs = 0
 ·rw [he]
  have HE := hJ he;have HOL := hJ (openL_len he);have hm : m = 4092 := by rw [← HO.out.len]; exact HOL.out
  subst hm;obtain ⟨g0, o0, rfl, hbs, hcell⟩ := HO.out.at (by omega);have cb := hcell 0 (by omega);rw [Nat.add_zero] at cb;have hkb := HBT.out.getD 0;obtain ⟨kn, hkn⟩ : ∃ kn : Nat, (openL zs).getD 0 0 = (kn : Int) := ⟨((openL zs).getD 0 0).toNat, by omega⟩;rw [hkn] at cb;have HKN := hJ hkn;have kw : IntKind.i64.wrap (kn : Int) = (kn : Int) := by simp [IntKind.wrap, IntKind.bits, IntKind.signed]; omega
  clear he hcell hkb hkn hbs
  go_wp2_with fail
  refine (kindOf_any (kn : Int) _).mono ?_;rintro en w3 ⟨rfl, hg3⟩;have hl3 : w.heap.size < w3.heap.size := Nat.lt_of_lt_of_le U2.out.lt hg3.size;have U2' := hJ (U2.out.keptN hg3);have G2' := hJ (gQ G2.out hg3);have O2' := hJ (HO.out.keptN hg3);clear hg3 U2 G2 HO cb
  by_cases hk1 : kn = 1
  ·subst hk1
   have e1 : kvOf (((1 : Nat)) : Int) = #[.int .i64 1, .func (.func 71) #[] #[], .func (.func 72) #[] #[], .func (.func 73) #[] #[]] := rfl;have e2 : okK (((1 : Nat)) : Int) = true := rfl;rw [e1, e2];clear e1 e2;have ga := World.grownBy_alloc w3 (.cells #[.int .i64 1, .func (.func 71) #[] #[], .func (.func 72) #[] #[], .func (.func 73) #[] #[]] 71) none;have U4 := hJ (U2'.out.keptN ga);have G4 := hJ (gQ G2'.out ga);have O4 := hJ (O2'.out.keptN ga);have K4 := hJ (Kz8.new w3 #[.int .i64 1, .func (.func 71) #[] #[], .func (.func 72) #[] #[], .func (.func 73) #[] #[]]);clear ga U2' G2' O2';go_upto_region 5 with fail
   generalize w3.alloc (.cells #[.int .i64 1, .func (.func 71) #[] #[], .func (.func 72) #[] #[], .func (.func 73) #[] #[]] 71) = w4 at *;generalize w3.heap.size = T at *;obtain ⟨k0, k1, k2, k3⟩ := Kz8.at4 K4.out
   go_wp2_with fail
   refine (dec1_any _ 4092 4092 (openL zs) _ O4.out HBT.out HOL.out (HM.out.keptN G4.out)).mono ?_;rintro en w5 ⟨⟨y, p, e, rfl, hy0, hpn, hdr, hen⟩, hg5⟩;have ga := gP w5 zV;have PN5 := hJ ((hpn.keptN ga).from G4.out.size);have DR := hJ hdr;have EN := hJ hen;have HY := hJ hy0;have U5 := hJ ((U4.out.keptN hg5).keptN ga);have K5 := hJ ((K4.out.keptN hg5).keptN ga);have G5 := hJ (gQ (gQ G4.out hg5) ga);have X5 := hJ (Px.new w5 zV);have hl5 : w.heap.size < w5.heap.size ∧ T < w5.heap.size := ⟨Nat.lt_of_lt_of_le U4.out.lt hg5.size, Nat.lt_of_lt_of_le K4.out.lt hg5.size⟩;clear ga hpn hdr hen hy0 hg5 U4 G4 O4 K4 k0 k1 k2 k3;simp only [zV, nS, zH] at PN5 U5 K5 G5 X5
   go_wp2_with (refine wpList_store_page rfl _ _ rfl w5.heap.size y zV rfl rfl X5.out ?_)
   intro w6 hx6 hg6 _;have U6 := hJ (U5.out.kept hg6 (fun e => by have := Option.some.inj e; omega));have K6 := hJ (K5.out.kept hg6 (fun e => by have := Option.some.inj e; omega));have P6 := hJ (PN5.out.page X5.out hg6);have G6 := hJ (grown_new G5.out hg6 (by omega));have X6 := hJ hx6;clear hx6 hg6 PN5 U5 K5 G5 X5;generalize w5.heap.size = B at *;have HKE : Hid ((openL zs).getD 0 0 = 1) := by show _ = _; rw [HKN.out]; rfl
   by_cases he : e = 0
   ·subst he
    have HD : Hid (PDec zs p 0) := ⟨fun h => absurd rfl h, .inr (.inr ⟨HE.out, by rw [HKE.out]; exact DR.out⟩)⟩;obtain ⟨k0, k1, k2, k3⟩ := Kz8.at4 K6.out;have c0 := X6.out.cells.1;have f0 := X6.out.frozen 0;clear DR;go_upto_region 11 with fail
    have hgF : w6.grownBy (w6.setCell ⟨B, 0, none⟩ (.int .i64 1)) (some B) := grown_cell w6 B 0 (.int .i64 1);have X7 := hJ (X6.out.set0 1);have U7 := hJ (U6.out.kept hgF (fun e => by have := Option.some.inj e; omega));have P7 := hJ (P6.out.page X6.out hgF);have G7 := hJ (grown_new G6.out hgF (by omega));clear hgF U6 K6 P6 G6 X6 k0 k1 k2 k3 c0 f0;have HZ : Hid (({ y with k := 1 } : Pv).k = 1) := rfl;generalize (w6.setCell ⟨B, 0, none⟩ (.int .i64 1)) = w7 at *;obtain ⟨y', hy'⟩ : ∃ y' : Pv, ({ y with k := 1 } : Pv) = y' := ⟨_, rfl⟩;rw [hy'] at X7 P7 EN HZ
    go_wp2_with (refine wpList_load_page rfl _ rfl B y' rfl X7.out (wpList_store_page rfl _ _ rfl w.heap.size y' zV rfl rfl U7.out ?_))
    intro w8 hx8 hg8 _;have P8 := hJ (P7.out.page U7.out hg8);have G8 := hJ (grown_new G7.out hg8 (Nat.le_refl _));clear hg8 P7 G7 U7 X7;go_wp2;refine bodyPost_ret (ret_page_tmp rfl _ _ w.heap.size y' rfl hx8) rfl ?_;exact ⟨⟨y', p, 0, rfl, HD.out, P8.out, EN.out⟩, G8.out⟩
   ·have he1 : (e == 0) = false := by simp [he]
    have he2 : (e != 0) = true := by simp [he]
    have HD : Hid (PDec zs zP e) := ⟨fun _ => rfl, .inr (.inr ⟨HE.out, by
     rw [HKE.out];exact decR_any DR.out he⟩)⟩
    clear DR he
    go_wp2_with (refine wpList_store_page rfl _ _ rfl w.heap.size zV zV rfl rfl U6.out ?_)
    intro w7 hx7 hg7 _;have G7 := hJ (grown_new G6.out hg7 (Nat.le_refl _));clear hg7 G6 U6;go_wp2;refine bodyPost_ret (ret_page_tmp rfl _ _ w.heap.size zV rfl hx7) rfl ?_;exact ⟨⟨zV, zP, _, rfl, HD.out, pn_zero _ _, en_zero⟩, G7.out⟩
  ·skip
   by_cases hk2 : kn = 2
   ·subst hk2
    have e1 : kvOf (((2 : Nat)) : Int) = #[.int .i64 2, .func (.func 74) #[] #[], .func (.func 75) #[] #[], .func (.func 76) #[] #[]] := rfl;have e2 : okK (((2 : Nat)) : Int) = true := rfl;rw [e1, e2];clear e1 e2;have ga := World.grownBy_alloc w3 (.cells #[.int .i64 2, .func (.func 74) #[] #[], .func (.func 75) #[] #[], .func (.func 76) #[] #[]] 71) none;have U4 := hJ (U2'.out.keptN ga);have G4 := hJ (gQ G2'.out ga);have O4 := hJ (O2'.out.keptN ga);have K4 := hJ (Kz8.new w3 #[.int .i64 2, .func (.func 74) #[] #[], .func (.func 75) #[] #[], .func (.func 76) #[] #[]]);clear ga U2' G2' O2';go_upto_region 5 with fail
    generalize w3.alloc (.cells #[.int .i64 2, .func (.func 74) #[] #[], .func (.func 75) #[] #[], .func (.func 76) #[] #[]] 71) = w4 at *;generalize w3.heap.size = T at *;obtain ⟨k0, k1, k2, k3⟩ := Kz8.at4 K4.out
    go_wp2_with fail
    refine (dec2_any _ 4092 4092 (openL zs) _ O4.out HBT.out HOL.out (HM.out.keptN G4.out)).mono ?_;rintro en w5 ⟨⟨y, p, e, rfl, hy0, hpn, hdr, hen⟩, hg5⟩;have ga := gP w5 zV;have PN5 := hJ ((hpn.keptN ga).from G4.out.size);have DR := hJ hdr;have EN := hJ hen;have HY := hJ hy0;have U5 := hJ ((U4.out.keptN hg5).keptN ga);have K5 := hJ ((K4.out.keptN hg5).keptN ga);have G5 := hJ (gQ (gQ G4.out hg5) ga);have X5 := hJ (Px.new w5 zV);have hl5 : w.heap.size < w5.heap.size ∧ T < w5.heap.size := ⟨Nat.lt_of_lt_of_le U4.out.lt hg5.size, Nat.lt_of_lt_of_le K4.out.lt hg5.size⟩;clear ga hpn hdr hen hy0 hg5 U4 G4 O4 K4 k0 k1 k2 k3;simp only [zV, nS, zH] at PN5 U5 K5 G5 X5
    go_wp2_with (refine wpList_store_page rfl _ _ rfl w5.heap.size y zV rfl rfl X5.out ?_)
    intro w6 hx6 hg6 _;have U6 := hJ (U5.out.kept hg6 (fun e => by have := Option.some.inj e; omega));have K6 := hJ (K5.out.kept hg6 (fun e => by have := Option.some.inj e; omega));have P6 := hJ (PN5.out.page X5.out hg6);have G6 := hJ (grown_new G5.out hg6 (by omega));have X6 := hJ hx6;clear hx6 hg6 PN5 U5 K5 G5 X5;generalize w5.heap.size = B at *;have HKE : Hid ((openL zs).getD 0 0 = 2) := by show _ = _; rw [HKN.out]; rfl
    by_cases he : e = 0
    ·subst he
     have HD : Hid (PDec zs p 0) := ⟨fun h => absurd rfl h, .inr (.inr ⟨HE.out, by rw [HKE.out]; exact DR.out⟩)⟩;obtain ⟨k0, k1, k2, k3⟩ := Kz8.at4 K6.out;have c0 := X6.out.cells.1;have f0 := X6.out.frozen 0;clear DR;go_upto_region 11 with fail
     have hgF : w6.grownBy (w6.setCell ⟨B, 0, none⟩ (.int .i64 2)) (some B) := grown_cell w6 B 0 (.int .i64 2);have X7 := hJ (X6.out.set0 2);have U7 := hJ (U6.out.kept hgF (fun e => by have := Option.some.inj e; omega));have P7 := hJ (P6.out.page X6.out hgF);have G7 := hJ (grown_new G6.out hgF (by omega));clear hgF U6 K6 P6 G6 X6 k0 k1 k2 k3 c0 f0;have HZ : Hid (({ y with k := 2 } : Pv).k = 2) := rfl;generalize (w6.setCell ⟨B, 0, none⟩ (.int .i64 2)) = w7 at *;obtain ⟨y', hy'⟩ : ∃ y' : Pv, ({ y with k := 2 } : Pv) = y' := ⟨_, rfl⟩;rw [hy'] at X7 P7 EN HZ
     go_wp2_with (refine wpList_load_page rfl _ rfl B y' rfl X7.out (wpList_store_page rfl _ _ rfl w.heap.size y' zV rfl rfl U7.out ?_))
     intro w8 hx8 hg8 _;have P8 := hJ (P7.out.page U7.out hg8);have G8 := hJ (grown_new G7.out hg8 (Nat.le_refl _));clear hg8 P7 G7 U7 X7;go_wp2;refine bodyPost_ret (ret_page_tmp rfl _ _ w.heap.size y' rfl hx8) rfl ?_;exact ⟨⟨y', p, 0, rfl, HD.out, P8.out, EN.out⟩, G8.out⟩
    ·have he1 : (e == 0) = false := by simp [he]
     have he2 : (e != 0) = true := by simp [he]
     have HD : Hid (PDec zs zP e) := ⟨fun _ => rfl, .inr (.inr ⟨HE.out, by
      rw [HKE.out];exact decR_any DR.out he⟩)⟩
     clear DR he
     go_wp2_with (refine wpList_store_page rfl _ _ rfl w.heap.size zV zV rfl rfl U6.out ?_)
     intro w7 hx7 hg7 _;have G7 := hJ (grown_new G6.out hg7 (Nat.le_refl _));clear hg7 G6 U6;go_wp2;refine bodyPost_ret (ret_page_tmp rfl _ _ w.heap.size zV rfl hx7) rfl ?_;exact ⟨⟨zV, zP, _, rfl, HD.out, pn_zero _ _, en_zero⟩, G7.out⟩
   ·skip
    by_cases hk3 : kn = 3
    ·subst hk3
     have e1 : kvOf (((3 : Nat)) : Int) = #[.int .i64 3, .func (.func 77) #[] #[], .func (.func 78) #[] #[], .func (.func 79) #[] #[]] := rfl;have e2 : okK (((3 : Nat)) : Int) = true := rfl;rw [e1, e2];clear e1 e2;have ga := World.grownBy_alloc w3 (.cells #[.int .i64 3, .func (.func 77) #[] #[], .func (.func 78) #[] #[], .func (.func 79) #[] #[]] 71) none;have U4 := hJ (U2'.out.keptN ga);have G4 := hJ (gQ G2'.out ga);have O4 := hJ (O2'.out.keptN ga);have K4 := hJ (Kz8.new w3 #[.int .i64 3, .func (.func 77) #[] #[], .func (.func 78) #[] #[], .func (.func 79) #[] #[]]);clear ga U2' G2' O2';go_upto_region 5 with fail
     generalize w3.alloc (.cells #[.int .i64 3, .func (.func 77) #[] #[], .func (.func 78) #[] #[], .func (.func 79) #[] #[]] 71) = w4 at *;generalize w3.heap.size = T at *;obtain ⟨k0, k1, k2, k3⟩ := Kz8.at4 K4.out
     go_wp2_with fail
     refine (dec3_any _ 4092 4092 (openL zs) _ O4.out HBT.out HOL.out (HM.out.keptN G4.out)).mono ?_;rintro en w5 ⟨⟨y, p, e, rfl, hy0, hpn, hdr, hen⟩, hg5⟩;have ga := gP w5 zV;have PN5 := hJ ((hpn.keptN ga).from G4.out.size);have DR := hJ hdr;have EN := hJ hen;have HY := hJ hy0;have U5 := hJ ((U4.out.keptN hg5).keptN ga);have K5 := hJ ((K4.out.keptN hg5).keptN ga);have G5 := hJ (gQ (gQ G4.out hg5) ga);have X5 := hJ (Px.new w5 zV);have hl5 : w.heap.size < w5.heap.size ∧ T < w5.heap.size := ⟨Nat.lt_of_lt_of_le U4.out.lt hg5.size, Nat.lt_of_lt_of_le K4.out.lt hg5.size⟩;clear ga hpn hdr hen hy0 hg5 U4 G4 O4 K4 k0 k1 k2 k3;simp only [zV, nS, zH] at PN5 U5 K5 G5 X5
     go_wp2_with (refine wpList_store_page rfl _ _ rfl w5.heap.size y zV rfl rfl X5.out ?_)
     intro w6 hx6 hg6 _;have U6 := hJ (U5.out.kept hg6 (fun e => by have := Option.some.inj e; omega));have K6 := hJ (K5.out.kept hg6 (fun e => by have := Option.some.inj e; omega));have P6 := hJ (PN5.out.page X5.out hg6);have G6 := hJ (grown_new G5.out hg6 (by omega));have X6 := hJ hx6;clear hx6 hg6 PN5 U5 K5 G5 X5;generalize w5.heap.size = B at *;have HKE : Hid ((openL zs).getD 0 0 = 3) := by show _ = _; rw [HKN.out]; rfl
     by_cases he : e = 0
     ·subst he
      have HD : Hid (PDec zs p 0) := ⟨fun h => absurd rfl h, .inr (.inr ⟨HE.out, by rw [HKE.out]; exact DR.out⟩)⟩;obtain ⟨k0, k1, k2, k3⟩ := Kz8.at4 K6.out;have c0 := X6.out.cells.1;have f0 := X6.out.frozen 0;clear DR;go_upto_region 11 with fail
      have hgF : w6.grownBy (w6.setCell ⟨B, 0, none⟩ (.int .i64 3)) (some B) := grown_cell w6 B 0 (.int .i64 3);have X7 := hJ (X6.out.set0 3);have U7 := hJ (U6.out.kept hgF (fun e => by have := Option.some.inj e; omega));have P7 := hJ (P6.out.page X6.out hgF);have G7 := hJ (grown_new G6.out hgF (by omega));clear hgF U6 K6 P6 G6 X6 k0 k1 k2 k3 c0 f0;have HZ : Hid (({ y with k := 3 } : Pv).k = 3) := rfl;generalize (w6.setCell ⟨B, 0, none⟩ (.int .i64 3)) = w7 at *;obtain ⟨y', hy'⟩ : ∃ y' : Pv, ({ y with k := 3 } : Pv) = y' := ⟨_, rfl⟩;rw [hy'] at X7 P7 EN HZ
      go_wp2_with (refine wpList_load_page rfl _ rfl B y' rfl X7.out (wpList_store_page rfl _ _ rfl w.heap.size y' zV rfl rfl U7.out ?_))
      intro w8 hx8 hg8 _;have P8 := hJ (P7.out.page U7.out hg8);have G8 := hJ (grown_new G7.out hg8 (Nat.le_refl _));clear hg8 P7 G7 U7 X7;go_wp2;refine bodyPost_ret (ret_page_tmp rfl _ _ w.heap.size y' rfl hx8) rfl ?_;exact ⟨⟨y', p, 0, rfl, HD.out, P8.out, EN.out⟩, G8.out⟩
     ·have he1 : (e == 0) = false := by simp [he]
      have he2 : (e != 0) = true := by simp [he]
      have HD : Hid (PDec zs zP e) := ⟨fun _ => rfl, .inr (.inr ⟨HE.out, by
       rw [HKE.out];exact decR_any DR.out he⟩)⟩
      clear DR he
      go_wp2_with (refine wpList_store_page rfl _ _ rfl w.heap.size zV zV rfl rfl U6.out ?_)
      intro w7 hx7 hg7 _;have G7 := hJ (grown_new G6.out hg7 (Nat.le_refl _));clear hg7 G6 U6;go_wp2;refine bodyPost_ret (ret_page_tmp rfl _ _ w.heap.size zV rfl hx7) rfl ?_;exact ⟨⟨zV, zP, _, rfl, HD.out, pn_zero _ _, en_zero⟩, G7.out⟩
    ·skip
     by_cases hk4 : kn = 4
     ·subst hk4
      have e1 : kvOf (((4 : Nat)) : Int) = #[.int .i64 4, .func (.func 80) #[] #[], .func (.func 81) #[] #[], .func (.func 82) #[] #[]] := rfl;have e2 : okK (((4 : Nat)) : Int) = true := rfl;rw [e1, e2];clear e1 e2;have ga := World.grownBy_alloc w3 (.cells #[.int .i64 4, .func (.func 80) #[] #[], .func (.func 81) #[] #[], .func (.func 82) #[] #[]] 71) none;have U4 := hJ (U2'.out.keptN ga);have G4 := hJ (gQ G2'.out ga);have O4 := hJ (O2'.out.keptN ga);have K4 := hJ (Kz8.new w3 #[.int .i64 4, .func (.func 80) #[] #[], .func (.func 81) #[] #[], .func (.func 82) #[] #[]]);clear ga U2' G2' O2';go_upto_region 5 with fail
      generalize w3.alloc (.cells #[.int .i64 4, .func (.func 80) #[] #[], .func (.func 81) #[] #[], .func (.func 82) #[] #[]] 71) = w4 at *;generalize w3.heap.size = T at *;obtain ⟨k0, k1, k2, k3⟩ := Kz8.at4 K4.out
      go_wp2_with fail
      refine (dec4_any _ 4092 4092 (openL zs) _ O4.out HBT.out HOL.out (HM.out.keptN G4.out)).mono ?_;rintro en w5 ⟨⟨y, p, e, rfl, hy0, hpn, hdr, hen⟩, hg5⟩;have ga := gP w5 zV;have PN5 := hJ ((hpn.keptN ga).from G4.out.size);have DR := hJ hdr;have EN := hJ hen;have HY := hJ hy0;have U5 := hJ ((U4.out.keptN hg5).keptN ga);have K5 := hJ ((K4.out.keptN hg5).keptN ga);have G5 := hJ (gQ (gQ G4.out hg5) ga);have X5 := hJ (Px.new w5 zV);have hl5 : w.heap.size < w5.heap.size ∧ T < w5.heap.size := ⟨Nat.lt_of_lt_of_le U4.out.lt hg5.size, Nat.lt_of_lt_of_le K4.out.lt hg5.size⟩;clear ga hpn hdr hen hy0 hg5 U4 G4 O4 K4 k0 k1 k2 k3;simp only [zV, nS, zH] at PN5 U5 K5 G5 X5
      go_wp2_with (refine wpList_store_page rfl _ _ rfl w5.heap.size y zV rfl rfl X5.out ?_)
      intro w6 hx6 hg6 _;have U6 := hJ (U5.out.kept hg6 (fun e => by have := Option.some.inj e; omega));have K6 := hJ (K5.out.kept hg6 (fun e => by have := Option.some.inj e; omega));have P6 := hJ (PN5.out.page X5.out hg6);have G6 := hJ (grown_new G5.out hg6 (by omega));have X6 := hJ hx6;clear hx6 hg6 PN5 U5 K5 G5 X5;generalize w5.heap.size = B at *;have HKE : Hid ((openL zs).getD 0 0 = 4) := by show _ = _; rw [HKN.out]; rfl
      by_cases he : e = 0
      ·subst he
       have HD : Hid (PDec zs p 0) := ⟨fun h => absurd rfl h, .inr (.inr ⟨HE.out, by rw [HKE.out]; exact DR.out⟩)⟩;obtain ⟨k0, k1, k2, k3⟩ := Kz8.at4 K6.out;have c0 := X6.out.cells.1;have f0 := X6.out.frozen 0;clear DR;go_upto_region 11 with fail
       have hgF : w6.grownBy (w6.setCell ⟨B, 0, none⟩ (.int .i64 4)) (some B) := grown_cell w6 B 0 (.int .i64 4);have X7 := hJ (X6.out.set0 4);have U7 := hJ (U6.out.kept hgF (fun e => by have := Option.some.inj e; omega));have P7 := hJ (P6.out.page X6.out hgF);have G7 := hJ (grown_new G6.out hgF (by omega));clear hgF U6 K6 P6 G6 X6 k0 k1 k2 k3 c0 f0;have HZ : Hid (({ y with k := 4 } : Pv).k = 4) := rfl;generalize (w6.setCell ⟨B, 0, none⟩ (.int .i64 4)) = w7 at *;obtain ⟨y', hy'⟩ : ∃ y' : Pv, ({ y with k := 4 } : Pv) = y' := ⟨_, rfl⟩;rw [hy'] at X7 P7 EN HZ
       go_wp2_with (refine wpList_load_page rfl _ rfl B y' rfl X7.out (wpList_store_page rfl _ _ rfl w.heap.size y' zV rfl rfl U7.out ?_))
       intro w8 hx8 hg8 _;have P8 := hJ (P7.out.page U7.out hg8);have G8 := hJ (grown_new G7.out hg8 (Nat.le_refl _));clear hg8 P7 G7 U7 X7;go_wp2;refine bodyPost_ret (ret_page_tmp rfl _ _ w.heap.size y' rfl hx8) rfl ?_;exact ⟨⟨y', p, 0, rfl, HD.out, P8.out, EN.out⟩, G8.out⟩
      ·have he1 : (e == 0) = false := by simp [he]
       have he2 : (e != 0) = true := by simp [he]
       have HD : Hid (PDec zs zP e) := ⟨fun _ => rfl, .inr (.inr ⟨HE.out, by
        rw [HKE.out];exact decR_any DR.out he⟩)⟩
       clear DR he
       go_wp2_with (refine wpList_store_page rfl _ _ rfl w.heap.size zV zV rfl rfl U6.out ?_)
       intro w7 hx7 hg7 _;have G7 := hJ (grown_new G6.out hg7 (Nat.le_refl _));clear hg7 G6 U6;go_wp2;refine bodyPost_ret (ret_page_tmp rfl _ _ w.heap.size zV rfl hx7) rfl ?_;exact ⟨⟨zV, zP, _, rfl, HD.out, pn_zero _ _, en_zero⟩, G7.out⟩
     ·skip
      by_cases hk5 : kn = 5
      ·subst hk5
       have e1 : kvOf (((5 : Nat)) : Int) = #[.int .i64 5, .func (.func 83) #[] #[], .func (.func 84) #[] #[], .func (.func 85) #[] #[]] := rfl;have e2 : okK (((5 : Nat)) : Int) = true := rfl;rw [e1, e2];clear e1 e2;have ga := World.grownBy_alloc w3 (.cells #[.int .i64 5, .func (.func 83) #[] #[], .func (.func 84) #[] #[], .func (.func 85) #[] #[]] 71) none;have U4 := hJ (U2'.out.keptN ga);have G4 := hJ (gQ G2'.out ga);have O4 := hJ (O2'.out.keptN ga);have K4 := hJ (Kz8.new w3 #[.int .i64 5, .func (.func 83) #[] #[], .func (.func 84) #[] #[], .func (.func 85) #[] #[]]);clear ga U2' G2' O2';go_upto_region 5 with fail
       generalize w3.alloc (.cells #[.int .i64 5, .func (.func 83) #[] #[], .func (.func 84) #[] #[], .func (.func 85) #[] #[]] 71) = w4 at *;generalize w3.heap.size = T at *;obtain ⟨k0, k1, k2, k3⟩ := Kz8.at4 K4.out
       go_wp2_with fail
       refine (dec5_any _ 4092 4092 (openL zs) _ O4.out HBT.out HOL.out (HM.out.keptN G4.out)).mono ?_;rintro en w5 ⟨⟨y, p, e, rfl, hy0, hpn, hdr, hen⟩, hg5⟩;have ga := gP w5 zV;have PN5 := hJ ((hpn.keptN ga).from G4.out.size);have DR := hJ hdr;have EN := hJ hen;have HY := hJ hy0;have U5 := hJ ((U4.out.keptN hg5).keptN ga);have K5 := hJ ((K4.out.keptN hg5).keptN ga);have G5 := hJ (gQ (gQ G4.out hg5) ga);have X5 := hJ (Px.new w5 zV);have hl5 : w.heap.size < w5.heap.size ∧ T < w5.heap.size := ⟨Nat.lt_of_lt_of_le U4.out.lt hg5.size, Nat.lt_of_lt_of_le K4.out.lt hg5.size⟩;clear ga hpn hdr hen hy0 hg5 U4 G4 O4 K4 k0 k1 k2 k3;simp only [zV, nS, zH] at PN5 U5 K5 G5 X5
       go_wp2_with (refine wpList_store_page rfl _ _ rfl w5.heap.size y zV rfl rfl X5.out ?_)
       intro w6 hx6 hg6 _;have U6 := hJ (U5.out.kept hg6 (fun e => by have := Option.some.inj e; omega));have K6 := hJ (K5.out.kept hg6 (fun e => by have := Option.some.inj e; omega));have P6 := hJ (PN5.out.page X5.out hg6);have G6 := hJ (grown_new G5.out hg6 (by omega));have X6 := hJ hx6;clear hx6 hg6 PN5 U5 K5 G5 X5;generalize w5.heap.size = B at *;have HKE : Hid ((openL zs).getD 0 0 = 5) := by show _ = _; rw [HKN.out]; rfl
       by_cases he : e = 0
       ·subst he
        have HD : Hid (PDec zs p 0) := ⟨fun h => absurd rfl h, .inr (.inr ⟨HE.out, by rw [HKE.out]; exact DR.out⟩)⟩;obtain ⟨k0, k1, k2, k3⟩ := Kz8.at4 K6.out;have c0 := X6.out.cells.1;have f0 := X6.out.frozen 0;clear DR;go_upto_region 11 with fail
        have hgF : w6.grownBy (w6.setCell ⟨B, 0, none⟩ (.int .i64 5)) (some B) := grown_cell w6 B 0 (.int .i64 5);have X7 := hJ (X6.out.set0 5);have U7 := hJ (U6.out.kept hgF (fun e => by have := Option.some.inj e; omega));have P7 := hJ (P6.out.page X6.out hgF);have G7 := hJ (grown_new G6.out hgF (by omega));clear hgF U6 K6 P6 G6 X6 k0 k1 k2 k3 c0 f0;have HZ : Hid (({ y with k := 5 } : Pv).k = 5) := rfl;generalize (w6.setCell ⟨B, 0, none⟩ (.int .i64 5)) = w7 at *;obtain ⟨y', hy'⟩ : ∃ y' : Pv, ({ y with k := 5 } : Pv) = y' := ⟨_, rfl⟩;rw [hy'] at X7 P7 EN HZ
        go_wp2_with (refine wpList_load_page rfl _ rfl B y' rfl X7.out (wpList_store_page rfl _ _ rfl w.heap.size y' zV rfl rfl U7.out ?_))
        intro w8 hx8 hg8 _;have P8 := hJ (P7.out.page U7.out hg8);have G8 := hJ (grown_new G7.out hg8 (Nat.le_refl _));clear hg8 P7 G7 U7 X7;go_wp2;refine bodyPost_ret (ret_page_tmp rfl _ _ w.heap.size y' rfl hx8) rfl ?_;exact ⟨⟨y', p, 0, rfl, HD.out, P8.out, EN.out⟩, G8.out⟩
       ·have he1 : (e == 0) = false := by simp [he]
        have he2 : (e != 0) = true := by simp [he]
        have HD : Hid (PDec zs zP e) := ⟨fun _ => rfl, .inr (.inr ⟨HE.out, by
         rw [HKE.out];exact decR_any DR.out he⟩)⟩
        clear DR he
        go_wp2_with (refine wpList_store_page rfl _ _ rfl w.heap.size zV zV rfl rfl U6.out ?_)
        intro w7 hx7 hg7 _;have G7 := hJ (grown_new G6.out hg7 (Nat.le_refl _));clear hg7 G6 U6;go_wp2;refine bodyPost_ret (ret_page_tmp rfl _ _ w.heap.size zV rfl hx7) rfl ?_;exact ⟨⟨zV, zP, _, rfl, HD.out, pn_zero _ _, en_zero⟩, G7.out⟩
      ·skip
       have e2 : okK (kn : Int) = false := by
        cases hh : okK (kn : Int) with
        | false => rfl
        | true => exact absurd (okK_iff.1 hh) (by omega)
       have e1 : kvOf (kn : Int) = #[.int .i64 0, .nilFunc, .nilFunc, .nilFunc] := (kv_none (fun j hj e => by
        have e3 : okK (kn : Int) = true := by rw [e, okK_iff]; omega
        rw [e2] at e3; cases e3)).1
       have HD : Hid (PDec zs zP 80) := ⟨fun _ => rfl, .inr (.inl ⟨HE.out, by rw [HKN.out]; exact e2, rfl⟩)⟩;rw [e1, e2];clear e1 e2;have ga := World.grownBy_alloc w3 (.cells #[.int .i64 0, .nilFunc, .nilFunc, .nilFunc] 71) none;have U4 := hJ (U2'.out.keptN ga);have G4 := hJ (gQ G2'.out ga);clear ga U2' G2' O2'
       go_wp2_with (refine wpList_store_page rfl _ _ rfl w.heap.size zV zV rfl rfl U4.out ?_)
       intro w6 hx6 hg6 _;have G6 := hJ (grown_new G4.out hg6 (Nat.le_refl _));clear hg6 G4 U4;go_wp2;refine bodyPost_ret (ret_page_tmp rfl _ _ w.heap.size zV rfl hx6) rfl ?_;exact ⟨⟨zV, zP, _, rfl, HD.out, pn_zero _ _, en_zero⟩, G6.out⟩
 ·have he1 : (openE zs == 0) = false := by simp [he]
  have he2 : (openE zs != 0) = true := by simp [he]
  have HD : Hid (PDec zs zP (openE zs)) := ⟨fun _ => rfl, .inl ⟨he, rfl⟩⟩;clear he;generalize openE zs = e at *
  go_wp2_with (refine wpList_store_page rfl _ _ rfl w.heap.size zV zV rfl rfl U2.out ?_)
  intro w3 hx3 hg3 hs3;have G3 := hJ (grown_new G2.out hg3 (Nat.le_refl _));clear hg3 hs3;go_wp2;refine bodyPost_ret (ret_page_tmp rfl _ _ w.heap.size zV rfl hx3) rfl ?_;exact ⟨⟨zV, zP, _, rfl, HD.out, pn_zero _ _, en_zero⟩, G3.out⟩
end Go.Proofs.YtkiopabcnemgnaaGreatDoor
