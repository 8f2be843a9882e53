import Derived.Test.YtkiopabcnemgnaaGreatDoorK26
import Derived.Test.YtkiopabcnemgnaaGreatDoorK16
import Derived.Test.YtkiopabcnemgnaaGreatDoorK34
import Derived.Test.YtkiopabcnemgnaaGreatDoorK31
import Derived.Test.YtkiopabcnemgnaaGreatDoorK29
import Derived.Test.YtkiopabcnemgnaaGreatDoorK36
set_option maxRecDepth 100000
set_option maxHeartbeats 8000000
namespace Go.Proofs.YtkiopabcnemgnaaGreatDoor
open Go.RowKit
structure Pg where
 kind : Int
 items : List It
 level : Int
 seps : List (List Int)
 kids : List Kd
 next : Int
 data : List Int
 list : List Int
 head : Hd
def zP : Pg := ⟨0, [], 0, [], [], 0, [], [], zH⟩
def okK (k : Int) : Bool := decide (1 ≤ k) && decide (k ≤ 5)
theorem okK_iff {k : Int} : okK k = true ↔ 1 ≤ k ∧ k ≤ 5 := by simp [okK]
def hasP (p : Pg) : Pg :=
 if p.kind = 1 then ⟨p.kind, p.items, 0, [], [], 0, [], [], zH⟩ else if p.kind = 2 then ⟨p.kind, [], p.level, p.seps, p.kids, 0, [], [], zH⟩
 else if p.kind = 3 then ⟨p.kind, [], 0, [], [], p.next, p.data, [], zH⟩ else if p.kind = 4 then ⟨p.kind, [], 0, [], [], p.next, [], p.list, zH⟩ else ⟨p.kind, [], 0, [], [], 0, [], [], p.head⟩
def BodyR (p : Pg) (b : List Int) (e : Int) : Prop :=
 (p.kind = 1 ∧ b = (enc p.items).1 ∧ e = (enc p.items).2) ∨ (p.kind = 2 ∧ Benc p.level p.seps p.kids b e) ∨ (p.kind = 3 ∧ b = oD p.next p.data ∧ e = eD p.next p.data.length) ∨
 (p.kind = 4 ∧ b = oL p.next p.list ∧ e = eL p.next p.list) ∨ (p.kind = 5 ∧ b = oM p.head ∧ e = eM p.head)
theorem benc_uniq {lv : Int} {L : List (List Int)} {K : List Kd} {zs ys : List Int} {e f : Int} (h : Benc lv L K zs e) (g : Benc lv L K ys f) : zs = ys ∧ e = f := by
 have he : e = f := h.code.trans g.code.symm;subst he
 by_cases h0 : e = 0
 ·obtain ⟨k, M, h1, h2, _, rfl⟩ := h.good h0
  obtain ⟨k', M', g1, g2, _, rfl⟩ := g.good h0;obtain ⟨rfl, rfl⟩ := branch_inj (h1.symm.trans g1) (h2.symm.trans g2);exact ⟨rfl, rfl⟩
 ·exact ⟨(h.bad h0).2.trans (g.bad h0).2.symm, rfl⟩
theorem BodyR.uniq {p : Pg} {b c : List Int} {e f : Int} (h : BodyR p b e) (g : BodyR p c f) : b = c ∧ e = f := by
 rcases h with ⟨h0, rfl, rfl⟩ | ⟨h0, h1⟩ | ⟨h0, rfl, rfl⟩ | ⟨h0, rfl, rfl⟩ | ⟨h0, rfl, rfl⟩ <;> rcases g with ⟨g0, rfl, rfl⟩ | ⟨g0, g1⟩ | ⟨g0, rfl, rfl⟩ | ⟨g0, rfl, rfl⟩ | ⟨g0, rfl, rfl⟩
 all_goals first | exact ⟨rfl, rfl⟩ | exact benc_uniq h1 g1 | (rw [h0] at g0; exact absurd g0 (by decide))
def PEnc (p : Pg) (zs : List Int) (e : Int) : Prop :=
 (okK p.kind = false ∧ e = 80 ∧ zs = []) ∨ (okK p.kind = true ∧ p ≠ hasP p ∧ e = 81 ∧ zs = []) ∨
 (okK p.kind = true ∧ p = hasP p ∧ ∃ b f, BodyR p b f ∧ ((f ≠ 0 ∧ e = f ∧ zs = []) ∨ (f = 0 ∧ e = sealE b ∧ zs = sealL b)))
theorem PEnc.uniq {p : Pg} {zs ys : List Int} {e f : Int} (h : PEnc p zs e) (g : PEnc p ys f) : zs = ys ∧ e = f := by
 rcases h with ⟨h0, h5, h6⟩ | ⟨h0, h1, h5, h6⟩ | ⟨h0, h1, b, e', h2, h3⟩
 ·rcases g with ⟨g0, g5, g6⟩ | ⟨g0, g1, g5, g6⟩ | ⟨g0, g1, c, f', g2, g3⟩
  ·exact ⟨h6.trans g6.symm, h5.trans g5.symm⟩
  ·rw [h0] at g0; cases g0
  ·rw [h0] at g0; cases g0
 ·rcases g with ⟨g0, g5, g6⟩ | ⟨g0, g1, g5, g6⟩ | ⟨g0, g1, c, f', g2, g3⟩
  ·rw [h0] at g0; cases g0
  ·exact ⟨h6.trans g6.symm, h5.trans g5.symm⟩
  ·exact absurd g1 h1
 ·rcases g with ⟨g0, g5, g6⟩ | ⟨g0, g1, g5, g6⟩ | ⟨g0, g1, c, f', g2, g3⟩
  ·rw [h0] at g0; cases g0
  ·exact absurd h1 g1
  ·obtain ⟨rfl, rfl⟩ := h2.uniq g2
   rcases h3 with ⟨a1, a2, a3⟩ | ⟨a1, a2, a3⟩
   ·rcases g3 with ⟨b1, b2, b3⟩ | ⟨b1, b2, b3⟩
    ·exact ⟨a3.trans b3.symm, a2.trans b2.symm⟩
    ·exact absurd b1 a1
   ·rcases g3 with ⟨b1, b2, b3⟩ | ⟨b1, b2, b3⟩
    ·exact absurd a1 b1
    ·exact ⟨a3.trans b3.symm, a2.trans b2.symm⟩
def DecR (k : Int) (b : List Int) (p : Pg) (e : Int) : Prop :=
 (k = 1 ∧ ∃ L, Dec b L e ∧ (e = 0 → p = ⟨1, L, 0, [], [], 0, [], [], zH⟩)) ∨ (k = 2 ∧ ∃ lv L K, Bdec b lv L K e ∧ (e = 0 → p = ⟨2, [], lv, L, K, 0, [], [], zH⟩)) ∨
 (k = 3 ∧ e = vE b ∧ (e = 0 → p = ⟨3, [], 0, [], [], vN b, vD b, [], zH⟩)) ∨ (k = 4 ∧ e = uE b ∧ (e = 0 → p = ⟨4, [], 0, [], [], uN b, [], uL b, zH⟩)) ∨
 (k = 5 ∧ e = aE b ∧ (e = 0 → p = ⟨5, [], 0, [], [], 0, [], [], aH b⟩))
def PDec (zs : List Int) (p : Pg) (e : Int) : Prop :=
 (e ≠ 0 → p = zP) ∧ ((openE zs ≠ 0 ∧ e = openE zs) ∨ (openE zs = 0 ∧ okK ((openL zs).getD 0 0) = false ∧ e = 80) ∨ (openE zs = 0 ∧ DecR ((openL zs).getD 0 0) (openL zs) p e))
theorem DecR.uniq {k : Int} {b : List Int} {p q : Pg} {e f : Int} (h : DecR k b p e) (g : DecR k b q f) : e = f ∧ (e = 0 → p = q) := by
 rcases h with ⟨h0, L, h1, h2⟩ | ⟨h0, lv, L, K, h1, h2⟩ | ⟨h0, h1, h2⟩ | ⟨h0, h1, h2⟩ | ⟨h0, h1, h2⟩ <;> rcases g with ⟨g0, M, g1, g2⟩ | ⟨g0, mv, M, J, g1, g2⟩ | ⟨g0, g1, g2⟩ | ⟨g0, g1, g2⟩ | ⟨g0, g1, g2⟩
 all_goals first | (rw [h0] at g0; exact absurd g0 (by decide)) | skip
 ·obtain ⟨rfl, rfl⟩ := h1.uniq g1
  exact ⟨rfl, fun h => (h2 h).trans (g2 h).symm⟩
 ·obtain ⟨rfl, rfl, rfl, rfl⟩ := h1.uniq g1
  exact ⟨rfl, fun h => (h2 h).trans (g2 h).symm⟩
 all_goals
  obtain rfl := h1.trans g1.symm;exact ⟨rfl, fun h => (h2 h).trans (g2 h).symm⟩
theorem DecR.ok {k : Int} {b : List Int} {p : Pg} {e : Int} (h : DecR k b p e) : okK k = true := by
 rcases h with ⟨rfl, _⟩ | ⟨rfl, _⟩ | ⟨rfl, _⟩ | ⟨rfl, _⟩ | ⟨rfl, _⟩ <;> rfl
theorem PDec.uniq {zs : List Int} {p q : Pg} {e f : Int} (h : PDec zs p e) (g : PDec zs q f) : p = q ∧ e = f := by
 obtain ⟨hz, h⟩ := h;obtain ⟨gz, g⟩ := g
 have key : e = f ∧ (e = 0 → p = q) := by
  rcases h with ⟨h0, rfl⟩ | ⟨h0, h1, rfl⟩ | ⟨h0, h1⟩ <;> rcases g with ⟨g0, rfl⟩ | ⟨g0, g1, rfl⟩ | ⟨g0, g1⟩
  ·exact ⟨rfl, fun h => absurd h h0⟩
  ·exact absurd g0 h0
  ·exact absurd g0 h0
  ·exact absurd h0 g0
  ·exact ⟨rfl, fun h => absurd h (by decide)⟩
  ·rw [g1.ok] at h1; cases h1
  ·exact absurd h0 g0
  ·rw [h1.ok] at g1; cases g1
  ·exact h1.uniq g1
 obtain ⟨rfl, h2⟩ := key
 by_cases h0 : e = 0
 ·exact ⟨h2 h0, rfl⟩
 ·exact ⟨(hz h0).trans (gz h0).symm, rfl⟩
structure Sl8 where
 a : Option Addr
 n : Nat
 c : Nat
structure Pv where
 k : Int
 i : Sl8
 l : Int
 s : Sl8
 d : Sl8
 x : Int
 b : Sl8
 t : Sl8
 h : Hd
def nS : Sl8 := ⟨none, 0, 0⟩
structure Pm (w : World) (x : Pv) (p : Pg) : Prop where
 kind : x.k = p.kind
 level : x.l = p.level
 next : x.x = p.next
 head : x.h = p.head
 items : Il w x.i.a p.items
 ib : Ib p.items
 il : p.items.length = x.i.n
 ic : x.i.n ≤ 9223372036854775807
 seps : Lz w x.s.a p.seps
 sb : Lb p.seps
 sl : p.seps.length = x.s.n
 sc : x.s.n ≤ 9223372036854775807
 kids : Kl w x.d.a p.kids
 kl : p.kids.length = x.d.n
 kc : x.d.n ≤ 9223372036854775807
 data : Byt w x.b.a x.b.n x.b.c p.data
 db : Bt p.data
 dc : x.b.n ≤ 9223372036854775807
 list : Nt w x.t.a p.list
 tl : p.list.length = x.t.n
 tc : x.t.n ≤ 9223372036854775807
structure Pr8 (x : Pv) : Prop where
 i : x.i.n ≤ x.i.c ∧ x.i.c ≤ 9223372036854775807
 s : x.s.n ≤ x.s.c ∧ x.s.c ≤ 9223372036854775807
 d : x.d.n ≤ x.d.c ∧ x.d.c ≤ 9223372036854775807
 b : x.b.n ≤ x.b.c ∧ x.b.c ≤ 9223372036854775807
 t : x.t.n ≤ x.t.c ∧ x.t.c ≤ 9223372036854775807
theorem Pm.keptN {w w' : World} {x : Pv} {p : Pg} (h : Pm w x p) (hg : w.grownBy w' none) : Pm w' x p :=
 ⟨h.kind, h.level, h.next, h.head, h.items.keptN hg, h.ib, h.il, h.ic, h.seps.keptN hg, h.sb, h.sl, h.sc, h.kids.keptN hg, h.kl, h.kc, h.data.keptN hg, h.db, h.dc, h.list.keptN hg, h.tl, h.tc⟩
def Px (w : World) (T : Nat) (x : Pv) : Prop := w.heap[T]? = some (.cells #[.int .i64 x.k, .slice x.i.a x.i.n x.i.c, .int .i64 x.l, .slice x.s.a x.s.n x.s.c, .slice x.d.a x.d.n x.d.c, .int .i64 x.x, .slice x.b.a x.b.n x.b.c, .slice x.t.a x.t.n x.t.c, .int .i64 x.h.v, .int .i64 x.h.c, .int .i64 x.h.r, .int .i64 x.h.h, .int .i64 x.h.k, .int .i64 x.h.f, .int .i64 x.h.n] 30 (0, 0))
theorem Px.lt {w : World} {T : Nat} {x : Pv} (h : Px w T x) : T < w.heap.size := (Array.getElem?_eq_some_iff.1 h).1
theorem Px.cells {w : World} {T : Nat} {x : Pv} (h : Px w T x) : w.cell? ⟨T, 0, none⟩ = some (.int .i64 x.k) ∧ w.cell? ⟨T, 1, none⟩ = some (.slice x.i.a x.i.n x.i.c) ∧ w.cell? ⟨T, 2, none⟩ = some (.int .i64 x.l) ∧ w.cell? ⟨T, 3, none⟩ = some (.slice x.s.a x.s.n x.s.c) ∧
  w.cell? ⟨T, 4, none⟩ = some (.slice x.d.a x.d.n x.d.c) ∧ w.cell? ⟨T, 5, none⟩ = some (.int .i64 x.x) ∧ w.cell? ⟨T, 6, none⟩ = some (.slice x.b.a x.b.n x.b.c) ∧ w.cell? ⟨T, 7, none⟩ = some (.slice x.t.a x.t.n x.t.c) ∧ w.cell? ⟨T, 8, none⟩ = some (.int .i64 x.h.v) ∧ w.cell? ⟨T, 9, none⟩ = some (.int .i64 x.h.c) ∧
  w.cell? ⟨T, 10, none⟩ = some (.int .i64 x.h.r) ∧ w.cell? ⟨T, 11, none⟩ = some (.int .i64 x.h.h) ∧ w.cell? ⟨T, 12, none⟩ = some (.int .i64 x.h.k) ∧ w.cell? ⟨T, 13, none⟩ = some (.int .i64 x.h.f) ∧ w.cell? ⟨T, 14, none⟩ = some (.int .i64 x.h.n) := by
 refine ⟨?_, ?_, ?_, ?_, ?_, ?_, ?_, ?_, ?_, ?_, ?_, ?_, ?_, ?_, ?_⟩
 all_goals (rw [cell_of_row w T _ _ _ _ h]; rfl)
theorem Px.frozen {w : World} {T : Nat} {x : Pv} (h : Px w T x) (j : Nat) : w.frozen? ⟨T, j, none⟩ = false := frozen_of_row w T j _ _ h
theorem Px.kept {w w' : World} {T : Nat} {x : Pv} {row : Option Nat} (h : Px w T x) (hg : w.grownBy w' row) (hne : some T ≠ row) : Px w' T x := (hg.block T h.lt hne).trans h
theorem Px.keptN {w w' : World} {T : Nat} {x : Pv} (h : Px w T x) (hg : w.grownBy w' none) : Px w' T x := h.kept hg (by simp)
theorem gP (w : World) (x : Pv) : w.grownBy (w.alloc (.cells #[.int .i64 x.k, .slice x.i.a x.i.n x.i.c, .int .i64 x.l, .slice x.s.a x.s.n x.s.c, .slice x.d.a x.d.n x.d.c, .int .i64 x.x, .slice x.b.a x.b.n x.b.c, .slice x.t.a x.t.n x.t.c, .int .i64 x.h.v, .int .i64 x.h.c, .int .i64 x.h.r, .int .i64 x.h.h, .int .i64 x.h.k, .int .i64 x.h.f, .int .i64 x.h.n] 30)) none := World.grownBy_alloc w _ none
theorem Px.new (w : World) (x : Pv) : Px (w.alloc (.cells #[.int .i64 x.k, .slice x.i.a x.i.n x.i.c, .int .i64 x.l, .slice x.s.a x.s.n x.s.c, .slice x.d.a x.d.n x.d.c, .int .i64 x.x, .slice x.b.a x.b.n x.b.c, .slice x.t.a x.t.n x.t.c, .int .i64 x.h.v, .int .i64 x.h.c, .int .i64 x.h.r, .int .i64 x.h.h, .int .i64 x.h.k, .int .i64 x.h.f, .int .i64 x.h.n] 30)) w.heap.size x := heap_alloc_new w _
theorem page_size : (Tryz.prog.info? 30).map (·.size) = some 15 := by kernel_rfl
theorem ret_page {fn : Func} {p : Tmp} (h : fn.results = #[.cell p 30]) (tmps : Array Value) (w : World) (U : Nat) (x : Pv) (hp : tmps.getD p undef = .pointer (some ⟨U, 0, none⟩)) (hx : Px w U x) :
  (results fn tmps).run Tryz.prog w = .ok (.agg #[.int .i64 x.k, .slice x.i.a x.i.n x.i.c, .int .i64 x.l, .slice x.s.a x.s.n x.s.c, .slice x.d.a x.d.n x.d.c, .int .i64 x.x, .slice x.b.a x.b.n x.b.c, .slice x.t.a x.t.n x.t.c, .int .i64 x.h.v, .int .i64 x.h.c, .int .i64 x.h.r, .int .i64 x.h.h, .int .i64 x.h.k, .int .i64 x.h.f, .int .i64 x.h.n]) w :=
 results_cell_row h tmps w U 30 _ (0, 0) _ hp hx Tryz.underlying30 rfl page_size
theorem ret_page_tmp {fn : Func} {p u : Tmp} (h : fn.results = #[.cell p 30, .tmp u]) (tmps : Array Value) (w : World) (U : Nat) (x : Pv) (hp : tmps.getD p undef = .pointer (some ⟨U, 0, none⟩)) (hx : Px w U x) :
  (results fn tmps).run Tryz.prog w = .ok (.tuple #[.agg #[.int .i64 x.k, .slice x.i.a x.i.n x.i.c, .int .i64 x.l, .slice x.s.a x.s.n x.s.c, .slice x.d.a x.d.n x.d.c, .int .i64 x.x, .slice x.b.a x.b.n x.b.c, .slice x.t.a x.t.n x.t.c, .int .i64 x.h.v, .int .i64 x.h.c, .int .i64 x.h.r, .int .i64 x.h.h, .int .i64 x.h.k, .int .i64 x.h.f, .int .i64 x.h.n], tmps.getD u undef]) w := by
 rw [results_cell_tmp h, hp];have := run_loadVar_row (P := Tryz.prog) w U 30 30 _ (0, 0) _ hx Tryz.underlying30 rfl page_size;simp [asAddr, this, Result.andThen]
theorem wpList_store_page {w : World} {ops : Array Oper} {rest : List Oper} {o : Oper} {a : Act} {Q : Exit → Act → World → Prop} (hgd : o.guard = none) (p q : Operand) (ho : o.op = .store 30 p q) (g : Nat) (x y : Pv) (hp : a.eval p = .pointer (some ⟨g, 0, none⟩)) (hx : a.eval q = .agg #[.int .i64 x.k, .slice x.i.a x.i.n x.i.c, .int .i64 x.l, .slice x.s.a x.s.n x.s.c, .slice x.d.a x.d.n x.d.c, .int .i64 x.x, .slice x.b.a x.b.n x.b.c, .slice x.t.a x.t.n x.t.c, .int .i64 x.h.v, .int .i64 x.h.c, .int .i64 x.h.r, .int .i64 x.h.h, .int .i64 x.h.k, .int .i64 x.h.f, .int .i64 x.h.n]) (hr : Px w g y)
  (h : ∀ w', Px w' g x → w.grownBy w' (some g) → w'.heap.size = w.heap.size → wpList Tryz.prog ops Q rest (a.put o.dst undef) w') : wpList Tryz.prog ops Q (o :: rest) a w := by
 refine wpList_plain hgd fun K hK => ?_
 unfold Oper.wp;have hv := run_storeVar_row (P := Tryz.prog) w g 30 30 _ #[.int .i64 x.k, .slice x.i.a x.i.n x.i.c, .int .i64 x.l, .slice x.s.a x.s.n x.s.c, .slice x.d.a x.d.n x.d.c, .int .i64 x.x, .slice x.b.a x.b.n x.b.c, .slice x.t.a x.t.n x.t.c, .int .i64 x.h.v, .int .i64 x.h.c, .int .i64 x.h.r, .int .i64 x.h.h, .int .i64 x.h.k, .int .i64 x.h.f, .int .i64 x.h.n] hr page_size rfl (by simp [Value.oneCell'])
 have hr2 : (execOp a.eval o).run Tryz.prog w = .ok .skip (w.setRow g #[.int .i64 x.k, .slice x.i.a x.i.n x.i.c, .int .i64 x.l, .slice x.s.a x.s.n x.s.c, .slice x.d.a x.d.n x.d.c, .int .i64 x.x, .slice x.b.a x.b.n x.b.c, .slice x.t.a x.t.n x.t.c, .int .i64 x.h.v, .int .i64 x.h.c, .int .i64 x.h.r, .int .i64 x.h.h, .int .i64 x.h.k, .int .i64 x.h.f, .int .i64 x.h.n]) := by
  simp [execOp, ho, hp, hx, Instr.storeAt, Instr.sureAddr, hv, Result.andThen]
 rw [hr2, Oper.upon_skip];have hro : Rp w (w.setRow g #[.int .i64 x.k, .slice x.i.a x.i.n x.i.c, .int .i64 x.l, .slice x.s.a x.s.n x.s.c, .slice x.d.a x.d.n x.d.c, .int .i64 x.x, .slice x.b.a x.b.n x.b.c, .slice x.t.a x.t.n x.t.c, .int .i64 x.h.v, .int .i64 x.h.c, .int .i64 x.h.r, .int .i64 x.h.h, .int .i64 x.h.k, .int .i64 x.h.f, .int .i64 x.h.n]) g 30 (#[.int .i64 x.k, .slice x.i.a x.i.n x.i.c, .int .i64 x.l, .slice x.s.a x.s.n x.s.c, .slice x.d.a x.d.n x.d.c, .int .i64 x.x, .slice x.b.a x.b.n x.b.c, .slice x.t.a x.t.n x.t.c, .int .i64 x.h.v, .int .i64 x.h.c, .int .i64 x.h.r, .int .i64 x.h.h, .int .i64 x.h.k, .int .i64 x.h.f, .int .i64 x.h.n]).toList := ⟨setRow_heap w g _ _ _ _ hr, fun k hk => setRow_other w g k _ hk, by simp [World.setRow], rfl, rfl, rfl⟩;exact hK _ _ (h _ hro.row hro.grown hro.size)
theorem Hd.ne {v c r t k f n v' c' r' t' k' f' n' : Int} (h : ¬ (v = v' ∧ c = c' ∧ r = r' ∧ t = t' ∧ k = k' ∧ f = f' ∧ n = n')) : (⟨v, c, r, t, k, f, n⟩ : Hd) ≠ ⟨v', c', r', t', k', f', n'⟩ := fun e => h (by injection e; exact ⟨‹_›, ‹_›, ‹_›, ‹_›, ‹_›, ‹_›, ‹_›⟩)
theorem sameHead_any (v c r t k f n v' c' r' t' k' f' n' : Int) (w : World) : Calls Tryz.prog 27 #[.agg #[.int .i64 v, .int .i64 c, .int .i64 r, .int .i64 t, .int .i64 k, .int .i64 f, .int .i64 n], .agg #[.int .i64 v', .int .i64 c', .int .i64 r', .int .i64 t', .int .i64 k', .int .i64 f', .int .i64 n']] w fun en w' => (∃ b, en = .returned (.bool b) ∧ (b = true ↔ (⟨v, c, r, t, k, f, n⟩ : Hd) = ⟨v', c', r', t', k', f', n'⟩)) ∧ w.grownBy w' none := by
 by_cases h0 : v = v'
 ·subst h0
  by_cases h1 : c = c'
  ·subst h1
   by_cases h2 : r = r'
   ·subst h2
    by_cases h3 : t = t'
    ·subst h3
     by_cases h4 : k = k'
     ·subst h4
      by_cases h5 : f = f'
      ·subst h5
       by_cases h6 : n = n'
       ·subst h6
        refine (sameHead_yes v c r t k f n w).mono ?_;rintro en w' ⟨rfl, hg⟩;exact ⟨⟨true, rfl, by simp⟩, hg⟩
       ·have g6 : (n == n') = false := by simp [h6]
        have HN : Hid (¬ (⟨v, c, r, t, k, f, n⟩ : Hd) = ⟨v, c, r, t, k, f, n'⟩) := Hd.ne (fun e => h6 (by have := e; simp_all));go_enter Tryz.func27, Tryz.ntmps27;go_wp2;go_ret;exact ⟨⟨false, rfl, by simp only [Bool.false_eq_true, false_iff]; exact HN.out⟩, grown_two w _ _⟩
      ·have g5 : (f == f') = false := by simp [h5]
       have HN : Hid (¬ (⟨v, c, r, t, k, f, n⟩ : Hd) = ⟨v, c, r, t, k, f', n'⟩) := Hd.ne (fun e => h5 (by have := e; simp_all));go_enter Tryz.func27, Tryz.ntmps27;go_wp2;go_ret;exact ⟨⟨false, rfl, by simp only [Bool.false_eq_true, false_iff]; exact HN.out⟩, grown_two w _ _⟩
     ·have g4 : (k == k') = false := by simp [h4]
      have HN : Hid (¬ (⟨v, c, r, t, k, f, n⟩ : Hd) = ⟨v, c, r, t, k', f', n'⟩) := Hd.ne (fun e => h4 (by have := e; simp_all));go_enter Tryz.func27, Tryz.ntmps27;go_wp2;go_ret;exact ⟨⟨false, rfl, by simp only [Bool.false_eq_true, false_iff]; exact HN.out⟩, grown_two w _ _⟩
    ·have g3 : (t == t') = false := by simp [h3]
     have HN : Hid (¬ (⟨v, c, r, t, k, f, n⟩ : Hd) = ⟨v, c, r, t', k', f', n'⟩) := Hd.ne (fun e => h3 (by have := e; simp_all));go_enter Tryz.func27, Tryz.ntmps27;go_wp2;go_ret;exact ⟨⟨false, rfl, by simp only [Bool.false_eq_true, false_iff]; exact HN.out⟩, grown_two w _ _⟩
   ·have g2 : (r == r') = false := by simp [h2]
    have HN : Hid (¬ (⟨v, c, r, t, k, f, n⟩ : Hd) = ⟨v, c, r', t', k', f', n'⟩) := Hd.ne (fun e => h2 (by have := e; simp_all));go_enter Tryz.func27, Tryz.ntmps27;go_wp2;go_ret;exact ⟨⟨false, rfl, by simp only [Bool.false_eq_true, false_iff]; exact HN.out⟩, grown_two w _ _⟩
  ·have g1 : (c == c') = false := by simp [h1]
   have HN : Hid (¬ (⟨v, c, r, t, k, f, n⟩ : Hd) = ⟨v, c', r', t', k', f', n'⟩) := Hd.ne (fun e => h1 (by have := e; simp_all));go_enter Tryz.func27, Tryz.ntmps27;go_wp2;go_ret;exact ⟨⟨false, rfl, by simp only [Bool.false_eq_true, false_iff]; exact HN.out⟩, grown_two w _ _⟩
 ·have g0 : (v == v') = false := by simp [h0]
  have HN : Hid (¬ (⟨v, c, r, t, k, f, n⟩ : Hd) = ⟨v', c', r', t', k', f', n'⟩) := Hd.ne (fun e => h0 (by have := e; simp_all));go_enter Tryz.func27, Tryz.ntmps27;go_wp2;go_ret;exact ⟨⟨false, rfl, by simp only [Bool.false_eq_true, false_iff]; exact HN.out⟩, grown_two w _ _⟩
theorem Pg.same {p q : Pg} (h1 : p.kind = q.kind) (h2 : p.items = q.items) (h3 : p.level = q.level) (h4 : p.seps = q.seps) (h5 : p.kids = q.kids) (h6 : p.next = q.next) (h7 : p.data = q.data) (h8 : p.list = q.list) (h9 : p.head = q.head) : p = q := by
 cases p; cases q; simp only at h1 h2 h3 h4 h5 h6 h7 h8 h9; subst h1 h2 h3 h4 h5 h6 h7 h8 h9; rfl
theorem same_bytes_any (ao bo : Option Addr) (n m c d : Nat) (za zb : List Int) (w : World) (ha : Byt w ao n c za) (hb : Byt w bo m d zb) (ba : Bt za) (bb : Bt zb) :
  Calls Tryz.prog 18 #[.slice ao n c, .slice bo m d] w fun en w' => (∃ b, en = .returned (.bool b) ∧ (b = true ↔ za = zb)) ∧ w' = w := by
 by_cases h : za = zb
 ·refine (same_yes ao bo n m c d za zb w ha hb h).mono ?_
  rintro en w' ⟨rfl, rfl⟩;exact ⟨⟨true, rfl, by simp [h]⟩, rfl⟩
 ·refine (same_no ao bo n m c d za zb w ha hb ba bb h).mono ?_
  rintro en w' ⟨rfl, rfl⟩;exact ⟨⟨false, rfl, by simp [h]⟩, rfl⟩
theorem samePage_any (x y : Pv) (p q : Pg) (w : World) (hx : Pm w x p) (hy : Pm w y q) : Calls Tryz.prog 22 #[.agg #[.int .i64 x.k, .slice x.i.a x.i.n x.i.c, .int .i64 x.l, .slice x.s.a x.s.n x.s.c, .slice x.d.a x.d.n x.d.c, .int .i64 x.x, .slice x.b.a x.b.n x.b.c, .slice x.t.a x.t.n x.t.c, .int .i64 x.h.v, .int .i64 x.h.c, .int .i64 x.h.r, .int .i64 x.h.h, .int .i64 x.h.k, .int .i64 x.h.f, .int .i64 x.h.n], .agg #[.int .i64 y.k, .slice y.i.a y.i.n y.i.c, .int .i64 y.l, .slice y.s.a y.s.n y.s.c, .slice y.d.a y.d.n y.d.c, .int .i64 y.x, .slice y.b.a y.b.n y.b.c, .slice y.t.a y.t.n y.t.c, .int .i64 y.h.v, .int .i64 y.h.c, .int .i64 y.h.r, .int .i64 y.h.h, .int .i64 y.h.k, .int .i64 y.h.f, .int .i64 y.h.n]] w fun en w' => (∃ b, en = .returned (.bool b) ∧ (b = true ↔ p = q)) ∧ w.grownBy w' none := by
 have HX := hJ hx;have HY := hJ hy;clear hx hy;go_enter Tryz.func22, Tryz.ntmps22;go_upto_region 1 with fail
 have X1 := hJ ((Px.new w x).keptN (gP _ y));have Y1 : Hid (Px ((w.alloc (.cells #[.int .i64 x.k, .slice x.i.a x.i.n x.i.c, .int .i64 x.l, .slice x.s.a x.s.n x.s.c, .slice x.d.a x.d.n x.d.c, .int .i64 x.x, .slice x.b.a x.b.n x.b.c, .slice x.t.a x.t.n x.t.c, .int .i64 x.h.v, .int .i64 x.h.c, .int .i64 x.h.r, .int .i64 x.h.h, .int .i64 x.h.k, .int .i64 x.h.f, .int .i64 x.h.n] 30)).alloc (.cells #[.int .i64 y.k, .slice y.i.a y.i.n y.i.c, .int .i64 y.l, .slice y.s.a y.s.n y.s.c, .slice y.d.a y.d.n y.d.c, .int .i64 y.x, .slice y.b.a y.b.n y.b.c, .slice y.t.a y.t.n y.t.c, .int .i64 y.h.v, .int .i64 y.h.c, .int .i64 y.h.r, .int .i64 y.h.h, .int .i64 y.h.k, .int .i64 y.h.f, .int .i64 y.h.n] 30)) (w.heap.size + 1) y) := heap_alloc2_new w _ _;have G1 := hJ (grown_two w (.cells #[.int .i64 x.k, .slice x.i.a x.i.n x.i.c, .int .i64 x.l, .slice x.s.a x.s.n x.s.c, .slice x.d.a x.d.n x.d.c, .int .i64 x.x, .slice x.b.a x.b.n x.b.c, .slice x.t.a x.t.n x.t.c, .int .i64 x.h.v, .int .i64 x.h.c, .int .i64 x.h.r, .int .i64 x.h.h, .int .i64 x.h.k, .int .i64 x.h.f, .int .i64 x.h.n] 30) (.cells #[.int .i64 y.k, .slice y.i.a y.i.n y.i.c, .int .i64 y.l, .slice y.s.a y.s.n y.s.c, .slice y.d.a y.d.n y.d.c, .int .i64 y.x, .slice y.b.a y.b.n y.b.c, .slice y.t.a y.t.n y.t.c, .int .i64 y.h.v, .int .i64 y.h.c, .int .i64 y.h.r, .int .i64 y.h.h, .int .i64 y.h.k, .int .i64 y.h.f, .int .i64 y.h.n] 30));generalize (w.alloc (.cells #[.int .i64 x.k, .slice x.i.a x.i.n x.i.c, .int .i64 x.l, .slice x.s.a x.s.n x.s.c, .slice x.d.a x.d.n x.d.c, .int .i64 x.x, .slice x.b.a x.b.n x.b.c, .slice x.t.a x.t.n x.t.c, .int .i64 x.h.v, .int .i64 x.h.c, .int .i64 x.h.r, .int .i64 x.h.h, .int .i64 x.h.k, .int .i64 x.h.f, .int .i64 x.h.n] 30)).alloc (.cells #[.int .i64 y.k, .slice y.i.a y.i.n y.i.c, .int .i64 y.l, .slice y.s.a y.s.n y.s.c, .slice y.d.a y.d.n y.d.c, .int .i64 y.x, .slice y.b.a y.b.n y.b.c, .slice y.t.a y.t.n y.t.c, .int .i64 y.h.v, .int .i64 y.h.c, .int .i64 y.h.r, .int .i64 y.h.h, .int .i64 y.h.k, .int .i64 y.h.f, .int .i64 y.h.n] 30) = w1 at *;obtain ⟨c0, c1, c2, c3, c4, c5, c6, c7, c8, c9, c10, c11, c12, c13, c14⟩ := X1.out.cells;obtain ⟨d0, d1, d2, d3, d4, d5, d6, d7, d8, d9, d10, d11, d12, d13, d14⟩ := Y1.out.cells
 go_wp2_with fail
 refine (sameItems_any x.i.a x.i.n x.i.c p.items y.i.a y.i.n y.i.c q.items _ (HX.out.items.keptN G1.out) HX.out.ib HX.out.il (HY.out.items.keptN G1.out) HY.out.ib HY.out.il (by have := HX.out.ic; omega)).mono ?_;rintro en w2 ⟨⟨b1, rfl, hb1⟩, hg2⟩;have B1 := hJ hb1;have X2 := hJ (X1.out.keptN hg2);have Y2 := hJ (Y1.out.keptN hg2);have G2 := hJ (gQ G1.out hg2);clear hb1 hg2 X1 Y1 G1 c0 c1 c2 c3 c4 c5 c6 c7 c8 c9 c10 c11 c12 c13 c14 d0 d1 d2 d3 d4 d5 d6 d7 d8 d9 d10 d11 d12 d13 d14;obtain ⟨c0, c1, c2, c3, c4, c5, c6, c7, c8, c9, c10, c11, c12, c13, c14⟩ := X2.out.cells;obtain ⟨d0, d1, d2, d3, d4, d5, d6, d7, d8, d9, d10, d11, d12, d13, d14⟩ := Y2.out.cells
 go_wp2_with fail
 refine (sameLists_any x.s.a x.s.n x.s.c p.seps y.s.a y.s.n y.s.c q.seps _ (HX.out.seps.keptN G2.out) HX.out.sb HX.out.sl (HY.out.seps.keptN G2.out) HY.out.sb HY.out.sl (by have := HX.out.sc; omega)).mono ?_;rintro en w3 ⟨⟨b2, rfl, hb2⟩, hq3⟩;have hg3 := hq3.grown none;have B2 := hJ hb2;have X3 := hJ (X2.out.keptN hg3);have Y3 := hJ (Y2.out.keptN hg3);have G3 := hJ (gQ G2.out hg3);clear hb2 hg3 hq3 X2 Y2 G2 c0 c1 c2 c3 c4 c5 c6 c7 c8 c9 c10 c11 c12 c13 c14 d0 d1 d2 d3 d4 d5 d6 d7 d8 d9 d10 d11 d12 d13 d14;obtain ⟨c0, c1, c2, c3, c4, c5, c6, c7, c8, c9, c10, c11, c12, c13, c14⟩ := X3.out.cells;obtain ⟨d0, d1, d2, d3, d4, d5, d6, d7, d8, d9, d10, d11, d12, d13, d14⟩ := Y3.out.cells
 go_wp2_with fail
 refine (sameKids_any x.d.a x.d.n x.d.c p.kids y.d.a y.d.n y.d.c q.kids _ (HX.out.kids.keptN G3.out) HX.out.kl (HY.out.kids.keptN G3.out) HY.out.kl (by have := HX.out.kc; omega)).mono ?_;rintro en w4 ⟨⟨b3, rfl, hb3⟩, hq4⟩;have hg4 := hq4.grown none;have B3 := hJ hb3;have X4 := hJ (X3.out.keptN hg4);have Y4 := hJ (Y3.out.keptN hg4);have G4 := hJ (gQ G3.out hg4);clear hb3 hg4 hq4 X3 Y3 G3 c0 c1 c2 c3 c4 c5 c6 c7 c8 c9 c10 c11 c12 c13 c14 d0 d1 d2 d3 d4 d5 d6 d7 d8 d9 d10 d11 d12 d13 d14;obtain ⟨c0, c1, c2, c3, c4, c5, c6, c7, c8, c9, c10, c11, c12, c13, c14⟩ := X4.out.cells;obtain ⟨d0, d1, d2, d3, d4, d5, d6, d7, d8, d9, d10, d11, d12, d13, d14⟩ := Y4.out.cells
 go_wp2_with fail
 refine (same_bytes_any x.b.a y.b.a x.b.n y.b.n x.b.c y.b.c p.data q.data _ (HX.out.data.keptN G4.out) (HY.out.data.keptN G4.out) HX.out.db HY.out.db).mono ?_;rintro en w4 ⟨⟨b4, rfl, hb4⟩, rfl⟩;have B4 := hJ hb4;clear hb4
 go_wp2_with fail
 refine (sameInts_any x.t.a x.t.n x.t.c p.list y.t.a y.t.n y.t.c q.list _ (HX.out.list.keptN G4.out) HX.out.tl (HY.out.list.keptN G4.out) HY.out.tl (by have := HX.out.tc; omega)).mono ?_;rintro en w5 ⟨⟨b5, rfl, hb5⟩, hq5⟩;have hg5 := hq5.grown none;have B5 := hJ hb5;have X5 := hJ (X4.out.keptN hg5);have Y5 := hJ (Y4.out.keptN hg5);have G5 := hJ (gQ G4.out hg5);clear hb5 hg5 hq5 X4 Y4 G4 c0 c1 c2 c3 c4 c5 c6 c7 c8 c9 c10 c11 c12 c13 c14 d0 d1 d2 d3 d4 d5 d6 d7 d8 d9 d10 d11 d12 d13 d14;obtain ⟨c0, c1, c2, c3, c4, c5, c6, c7, c8, c9, c10, c11, c12, c13, c14⟩ := X5.out.cells;obtain ⟨d0, d1, d2, d3, d4, d5, d6, d7, d8, d9, d10, d11, d12, d13, d14⟩ := Y5.out.cells
 go_wp2_with fail
 refine (sameHead_any x.h.v x.h.c x.h.r x.h.h x.h.k x.h.f x.h.n y.h.v y.h.c y.h.r y.h.h y.h.k y.h.f y.h.n _).mono ?_;rintro en w6 ⟨⟨b6, rfl, hb6⟩, hg6⟩;have B6 : Hid (b6 = true ↔ p.head = q.head) := by rw [← HX.out.head, ← HY.out.head]; exact hb6
 have X6 := hJ (X5.out.keptN hg6);have Y6 := hJ (Y5.out.keptN hg6);have G6 := hJ (gQ G5.out hg6);clear hb6 hg6 X5 Y5 G5 c0 c1 c2 c3 c4 c5 c6 c7 c8 c9 c10 c11 c12 c13 c14 d0 d1 d2 d3 d4 d5 d6 d7 d8 d9 d10 d11 d12 d13 d14;have c0 := X6.out.cells.1;have c2 := X6.out.cells.2.2.1;have c5 := X6.out.cells.2.2.2.2.2.1;have d0 := Y6.out.cells.1;have d2 := Y6.out.cells.2.2.1;have d5 := Y6.out.cells.2.2.2.2.2.1;cases b1 with
 | false =>
  have HN : Hid (¬ p = q) := fun e => absurd (B1.out.2 (by rw [e])) (by decide)
  go_wp2;go_ret;exact ⟨⟨false, rfl, by simp only [Bool.false_eq_true, false_iff]; exact HN.out⟩, G6.out⟩
 | true =>
  cases b2 with
  | false =>
   have HN : Hid (¬ p = q) := fun e => absurd (B2.out.2 (by rw [e])) (by decide)
   go_wp2;go_ret;exact ⟨⟨false, rfl, by simp only [Bool.false_eq_true, false_iff]; exact HN.out⟩, G6.out⟩
  | true =>
   cases b3 with
   | false =>
    have HN : Hid (¬ p = q) := fun e => absurd (B3.out.2 (by rw [e])) (by decide)
    go_wp2;go_ret;exact ⟨⟨false, rfl, by simp only [Bool.false_eq_true, false_iff]; exact HN.out⟩, G6.out⟩
   | true =>
    cases b4 with
    | false =>
     have HN : Hid (¬ p = q) := fun e => absurd (B4.out.2 (by rw [e])) (by decide)
     go_wp2;go_ret;exact ⟨⟨false, rfl, by simp only [Bool.false_eq_true, false_iff]; exact HN.out⟩, G6.out⟩
    | true =>
     cases b5 with
     | false =>
      have HN : Hid (¬ p = q) := fun e => absurd (B5.out.2 (by rw [e])) (by decide)
      go_wp2;go_ret;exact ⟨⟨false, rfl, by simp only [Bool.false_eq_true, false_iff]; exact HN.out⟩, G6.out⟩
     | true =>
      cases b6 with
      | false =>
       have HN : Hid (¬ p = q) := fun e => absurd (B6.out.2 (by rw [e])) (by decide)
       go_wp2;go_ret;exact ⟨⟨false, rfl, by simp only [Bool.false_eq_true, false_iff]; exact HN.out⟩, G6.out⟩
      | true =>
       by_cases hk : x.k = y.k
       ·have kk : (x.k == y.k) = true := by simp [hk]
        have Hk := hJ hk;clear hk
        by_cases hl : x.l = y.l
        ·have kl : (x.l == y.l) = true := by simp [hl]
         have Hl := hJ hl;clear hl
         by_cases hx : x.x = y.x
         ·have kx : (x.x == y.x) = true := by simp [hx]
          have Hx := hJ hx;clear hx;have HE : Hid (p = q) := Pg.same (by rw [← HX.out.kind, ← HY.out.kind]; exact Hk.out) (B1.out.1 rfl) (by rw [← HX.out.level, ← HY.out.level]; exact Hl.out) (B2.out.1 rfl) (B3.out.1 rfl) (by rw [← HX.out.next, ← HY.out.next]; exact Hx.out) (B4.out.1 rfl) (B5.out.1 rfl) (B6.out.1 rfl);go_wp2;go_ret;exact ⟨⟨true, rfl, by simp only [true_iff]; exact HE.out⟩, G6.out⟩
         ·have kx : (x.x == y.x) = false := by simp [hx]
          have HN : Hid (¬ p = q) := fun e => hx (by rw [HX.out.next, HY.out.next, e])
          go_wp2;go_ret;exact ⟨⟨false, rfl, by simp only [Bool.false_eq_true, false_iff]; exact HN.out⟩, G6.out⟩
        ·have kl : (x.l == y.l) = false := by simp [hl]
         have HN : Hid (¬ p = q) := fun e => hl (by rw [HX.out.level, HY.out.level, e])
         go_wp2;go_ret;exact ⟨⟨false, rfl, by simp only [Bool.false_eq_true, false_iff]; exact HN.out⟩, G6.out⟩
       ·have kk : (x.k == y.k) = false := by simp [hk]
        have HN : Hid (¬ p = q) := fun e => hk (by rw [HX.out.kind, HY.out.kind, e])
        go_wp2;go_ret;exact ⟨⟨false, rfl, by simp only [Bool.false_eq_true, false_iff]; exact HN.out⟩, G6.out⟩
theorem Px.u8 {w : World} {T b j : Nat} {x : Pv} {z : Int} (h : Px w T x) (hc : w.cell? ⟨b, j, none⟩ = some (.int .u8 z)) : b ≠ T := by
 rintro rfl;rw [cell_of_row w b j _ _ _ h] at hc;have hm := Array.mem_of_getElem? hc;simp at hm
theorem Px.other {w : World} {T b : Nat} {x : Pv} {cur : Array Value} {t : TypeId} (h : Px w T x) (hb : w.heap[b]? = some (.cells cur t (0, 0))) (ht : t ≠ 30) : b ≠ T := by
 rintro rfl;have h2 : some (Obj.cells cur t (0, 0)) = some (.cells #[.int .i64 x.k, .slice x.i.a x.i.n x.i.c, .int .i64 x.l, .slice x.s.a x.s.n x.s.c, .slice x.d.a x.d.n x.d.c, .int .i64 x.x, .slice x.b.a x.b.n x.b.c, .slice x.t.a x.t.n x.t.c, .int .i64 x.h.v, .int .i64 x.h.c, .int .i64 x.h.r, .int .i64 x.h.h, .int .i64 x.h.k, .int .i64 x.h.f, .int .i64 x.h.n] 30 (0, 0)) := hb.symm.trans h;injection h2 with h3
 injection h3 with _ h4 _
 exact ht h4
theorem Byt.page {w w' : World} {T : Nat} {x : Pv} {ao : Option Addr} {n c : Nat} {zs : List Int} (h : Byt w ao n c zs) (hx : Px w T x) (hg : w.grownBy w' (some T)) : Byt w' ao n c zs :=
 h.kept hg (fun ad e hn e2 => by
  obtain ⟨b, off, e3, _, hc⟩ := h.at hn;rw [e] at e3;obtain rfl := Option.some.inj e3;exact hx.u8 (hc 0 hn) (Option.some.inj e2))
theorem Nw.page {w0 w w' : World} {T : Nat} {x : Pv} {t : TypeId} {a : Option Addr} {n : Nat} (h : Nw w0 w t a n) (ht : t ≠ 30) (hx : Px w T x) (hg : w.grownBy w' (some T)) : Nw w0 w' t a n := by
 intro h0;obtain ⟨b, cur, e1, e2, e3⟩ := h h0;exact ⟨b, cur, e1, e2, (hg.block b (Array.getElem?_eq_some_iff.1 e3).1 (fun e => hx.other e3 ht (Option.some.inj e))).trans e3⟩
theorem Nw.still {w0 w w' : World} {T : Nat} {x : Pv} {t : TypeId} {a : Option Addr} {n : Nat} (h : Nw w0 w t a n) (ht : t ≠ 30) (hx : Px w T x) (hg : w.grownBy w' (some T)) (h0 : 0 < n) {b off : Nat} (ha : a = some ⟨b, off, none⟩) : w'.heap[b]? = w.heap[b]? := by
 obtain ⟨b', cur, e1, e2, e3⟩ := h h0;rw [e1] at ha;injection ha with ha
 injection ha with ha _ _
 subst ha;exact hg.block _ (Array.getElem?_eq_some_iff.1 e3).1 (fun e => hx.other e3 ht (Option.some.inj e))
theorem Il.page {w0 w w' : World} {T n : Nat} {x : Pv} {a : Option Addr} {L : List It} (h : Il w a L) (hN : Nw w0 w 62 a n) (hn : L.length = n) (hx : Px w T x) (hg : w.grownBy w' (some T)) : Il w' a L := by
 refine ⟨fun i hi => ?_⟩;obtain ⟨b, off, ao, n', c, bo, m, d, e, q1, q2, q3, q4, q5, q6, q7, q8, q9⟩ := h.row i hi;have hs := hN.still (by decide) hx hg (by omega) e;exact ⟨b, off, ao, n', c, bo, m, d, e, (World.cell?_of_block hs).trans q1, (World.cell?_of_block hs).trans q2, (World.cell?_of_block hs).trans q3, (World.cell?_of_block hs).trans q4, q5.page hx hg, q6, q7, q8.page hx hg, q9⟩
theorem Lz.page {w0 w w' : World} {T n : Nat} {x : Pv} {a : Option Addr} {L : List (List Int)} (h : Lz w a L) (hN : Nw w0 w 25 a n) (hn : L.length = n) (hx : Px w T x) (hg : w.grownBy w' (some T)) : Lz w' a L := by
 refine ⟨fun i hi => ?_⟩;obtain ⟨b, off, ao, n', c, e, q1, q2, q3⟩ := h.row i hi;have hs := hN.still (by decide) hx hg (by omega) e;exact ⟨b, off, ao, n', c, e, (World.cell?_of_block hs).trans q1, q2.page hx hg, q3⟩
theorem Kl.page {w0 w w' : World} {T n : Nat} {x : Pv} {a : Option Addr} {K : List Kd} (h : Kl w a K) (hN : Nw w0 w 67 a n) (hn : K.length = n) (hx : Px w T x) (hg : w.grownBy w' (some T)) : Kl w' a K := by
 refine ⟨fun i hi => ?_⟩;obtain ⟨b, off, e, q1, q2⟩ := h.row i hi;have hs := hN.still (by decide) hx hg (by omega) e;exact ⟨b, off, e, (World.cell?_of_block hs).trans q1, (World.cell?_of_block hs).trans q2⟩
theorem Nt.page {w0 w w' : World} {T n : Nat} {x : Pv} {a : Option Addr} {L : List Int} (h : Nt w a L) (hN : Nw w0 w 3 a n) (hn : L.length = n) (hx : Px w T x) (hg : w.grownBy w' (some T)) : Nt w' a L := by
 refine ⟨fun i hi => ?_⟩;obtain ⟨b, off, e, q1⟩ := h.row i hi;have hs := hN.still (by decide) hx hg (by omega) e;exact ⟨b, off, e, (World.cell?_of_block hs).trans q1⟩
structure Pn (w0 w : World) (x : Pv) (p : Pg) : Prop where
 pm : Pm w x p
 i : Nw w0 w 62 x.i.a x.i.n
 s : Nw w0 w 25 x.s.a x.s.n
 d : Nw w0 w 67 x.d.a x.d.n
 t : Nw w0 w 3 x.t.a x.t.n
theorem Pn.page {w0 w w' : World} {T : Nat} {x y : Pv} {p : Pg} (h : Pn w0 w x p) (hx : Px w T y) (hg : w.grownBy w' (some T)) : Pn w0 w' x p :=
 ⟨⟨h.pm.kind, h.pm.level, h.pm.next, h.pm.head, h.pm.items.page h.i h.pm.il hx hg, h.pm.ib, h.pm.il, h.pm.ic, h.pm.seps.page h.s h.pm.sl hx hg, h.pm.sb, h.pm.sl, h.pm.sc, h.pm.kids.page h.d h.pm.kl hx hg, h.pm.kl, h.pm.kc, h.pm.data.page hx hg, h.pm.db, h.pm.dc, h.pm.list.page h.t h.pm.tl hx hg, h.pm.tl, h.pm.tc⟩,
  h.i.page (by decide) hx hg, h.s.page (by decide) hx hg, h.d.page (by decide) hx hg, h.t.page (by decide) hx hg⟩
theorem Pn.keptN {w0 w w' : World} {x : Pv} {p : Pg} (h : Pn w0 w x p) (hg : w.grownBy w' none) : Pn w0 w' x p := ⟨h.pm.keptN hg, h.i.keptN hg, h.s.keptN hg, h.d.keptN hg, h.t.keptN hg⟩
theorem Pn.from {w00 w0 w : World} {x : Pv} {p : Pg} (h : Pn w0 w x p) (hs : w00.heap.size ≤ w0.heap.size) : Pn w00 w x p := ⟨h.pm, h.i.from hs, h.s.from hs, h.d.from hs, h.t.from hs⟩
def zV : Pv := ⟨0, nS, 0, nS, nS, 0, nS, nS, zH⟩
theorem ib_nil8 : Ib [] := fun x hx => by cases hx
theorem lb_nil8 : Lb [] := fun x hx => by cases hx
theorem pm_zero (w : World) : Pm w zV zP :=
 ⟨rfl, rfl, rfl, rfl, Il.zero _ _, ib_nil8, rfl, (by show 0 ≤ _; omega), Lz.zero _ _, lb_nil8, rfl, (by show 0 ≤ _; omega), Kl.zero _ _, rfl, (by show 0 ≤ _; omega), Byt.empty _, Bt.nil, (by show 0 ≤ _; omega), Nt.zero _ _, rfl, (by show 0 ≤ _; omega)⟩
theorem pn_zero (w0 w : World) : Pn w0 w zV zP := ⟨pm_zero w, Nw.zero _ _ _ _, Nw.zero _ _ _ _, Nw.zero _ _ _ _, Nw.zero _ _ _ _⟩
theorem pn_leaf {w0 w : World} {a : Option Addr} {q cap : Nat} {L : List It} (h : Il w a L) (hb : Ib L) (hl : L.length = q) (hq : q ≤ 9223372036854775807) (hn : Nw w0 w 62 a q) : Pn w0 w ⟨1, ⟨a, q, cap⟩, 0, nS, nS, 0, nS, nS, zH⟩ ⟨1, L, 0, [], [], 0, [], [], zH⟩ :=
 ⟨⟨rfl, rfl, rfl, rfl, h, hb, hl, hq, Lz.zero _ _, lb_nil8, rfl, (by show 0 ≤ _; omega), Kl.zero _ _, rfl, (by show 0 ≤ _; omega), Byt.empty _, Bt.nil, (by show 0 ≤ _; omega), Nt.zero _ _, rfl, (by show 0 ≤ _; omega)⟩, hn, Nw.zero _ _ _ _, Nw.zero _ _ _ _, Nw.zero _ _ _ _⟩
theorem pn_branch {w0 w : World} {lv : Int} {a b : Option Addr} {q cap m cap2 : Nat} {L : List (List Int)} {K : List Kd} (h : Lz w a L) (hb : Lb L) (hl : L.length = q) (hq : q ≤ 9223372036854775807) (hn : Nw w0 w 25 a q) (hk : Kl w b K) (hkl : K.length = m) (hm : m ≤ 9223372036854775807) (hn2 : Nw w0 w 67 b m) :
  Pn w0 w ⟨2, nS, lv, ⟨a, q, cap⟩, ⟨b, m, cap2⟩, 0, nS, nS, zH⟩ ⟨2, [], lv, L, K, 0, [], [], zH⟩ :=
 ⟨⟨rfl, rfl, rfl, rfl, Il.zero _ _, ib_nil8, rfl, (by show 0 ≤ _; omega), h, hb, hl, hq, hk, hkl, hm, Byt.empty _, Bt.nil, (by show 0 ≤ _; omega), Nt.zero _ _, rfl, (by show 0 ≤ _; omega)⟩, Nw.zero _ _ _ _, hn, hn2, Nw.zero _ _ _ _⟩
theorem pn_data {w0 w : World} {nx : Int} {a : Option Addr} {q cap : Nat} {D : List Int} (h : Byt w a q cap D) (hb : Bt D) (hq : q ≤ 9223372036854775807) : Pn w0 w ⟨3, nS, 0, nS, nS, nx, ⟨a, q, cap⟩, nS, zH⟩ ⟨3, [], 0, [], [], nx, D, [], zH⟩ :=
 ⟨⟨rfl, rfl, rfl, rfl, Il.zero _ _, ib_nil8, rfl, (by show 0 ≤ _; omega), Lz.zero _ _, lb_nil8, rfl, (by show 0 ≤ _; omega), Kl.zero _ _, rfl, (by show 0 ≤ _; omega), h, hb, hq, Nt.zero _ _, rfl, (by show 0 ≤ _; omega)⟩, Nw.zero _ _ _ _, Nw.zero _ _ _ _, Nw.zero _ _ _ _, Nw.zero _ _ _ _⟩
theorem pn_list {w0 w : World} {nx : Int} {a : Option Addr} {q cap : Nat} {D : List Int} (h : Nt w a D) (hl : D.length = q) (hq : q ≤ 9223372036854775807) (hn : Nw w0 w 3 a q) : Pn w0 w ⟨4, nS, 0, nS, nS, nx, nS, ⟨a, q, cap⟩, zH⟩ ⟨4, [], 0, [], [], nx, [], D, zH⟩ :=
 ⟨⟨rfl, rfl, rfl, rfl, Il.zero _ _, ib_nil8, rfl, (by show 0 ≤ _; omega), Lz.zero _ _, lb_nil8, rfl, (by show 0 ≤ _; omega), Kl.zero _ _, rfl, (by show 0 ≤ _; omega), Byt.empty _, Bt.nil, (by show 0 ≤ _; omega), h, hl, hq⟩, Nw.zero _ _ _ _, Nw.zero _ _ _ _, Nw.zero _ _ _ _, hn⟩
theorem pn_head (w0 w : World) (H : Hd) : Pn w0 w ⟨5, nS, 0, nS, nS, 0, nS, nS, H⟩ ⟨5, [], 0, [], [], 0, [], [], H⟩ :=
 ⟨⟨rfl, rfl, rfl, rfl, Il.zero _ _, ib_nil8, rfl, (by show 0 ≤ _; omega), Lz.zero _ _, lb_nil8, rfl, (by show 0 ≤ _; omega), Kl.zero _ _, rfl, (by show 0 ≤ _; omega), Byt.empty _, Bt.nil, (by show 0 ≤ _; omega), Nt.zero _ _, rfl, (by show 0 ≤ _; omega)⟩, Nw.zero _ _ _ _, Nw.zero _ _ _ _, Nw.zero _ _ _ _, Nw.zero _ _ _ _⟩
theorem Px.set1 {w : World} {T : Nat} {x : Pv} (h : Px w T x) (s : Sl8) : Px (w.setCell ⟨T, 1, none⟩ (.slice s.a s.n s.c)) T { x with i := s } := heap_setCell_same w T 1 _ _ _ h
theorem Px.set2 {w : World} {T : Nat} {x : Pv} (h : Px w T x) (s : Int) : Px (w.setCell ⟨T, 2, none⟩ (.int .i64 s)) T { x with l := s } := heap_setCell_same w T 2 _ _ _ h
theorem Px.set3 {w : World} {T : Nat} {x : Pv} (h : Px w T x) (s : Sl8) : Px (w.setCell ⟨T, 3, none⟩ (.slice s.a s.n s.c)) T { x with s := s } := heap_setCell_same w T 3 _ _ _ h
theorem Px.set4 {w : World} {T : Nat} {x : Pv} (h : Px w T x) (s : Sl8) : Px (w.setCell ⟨T, 4, none⟩ (.slice s.a s.n s.c)) T { x with d := s } := heap_setCell_same w T 4 _ _ _ h
theorem Px.set5 {w : World} {T : Nat} {x : Pv} (h : Px w T x) (s : Int) : Px (w.setCell ⟨T, 5, none⟩ (.int .i64 s)) T { x with x := s } := heap_setCell_same w T 5 _ _ _ h
theorem Px.set6 {w : World} {T : Nat} {x : Pv} (h : Px w T x) (s : Sl8) : Px (w.setCell ⟨T, 6, none⟩ (.slice s.a s.n s.c)) T { x with b := s } := heap_setCell_same w T 6 _ _ _ h
theorem Px.set7 {w : World} {T : Nat} {x : Pv} (h : Px w T x) (s : Sl8) : Px (w.setCell ⟨T, 7, none⟩ (.slice s.a s.n s.c)) T { x with t := s } := heap_setCell_same w T 7 _ _ _ h
theorem Px.seth8 {w : World} {T : Nat} {x : Pv} (h : Px w T x) (v : Int) : Px (w.setCell ⟨T, 8, none⟩ (.int .i64 v)) T { x with h := { x.h with v := v } } := heap_setCell_same w T 8 _ _ _ h
theorem Px.seth9 {w : World} {T : Nat} {x : Pv} (h : Px w T x) (v : Int) : Px (w.setCell ⟨T, 9, none⟩ (.int .i64 v)) T { x with h := { x.h with c := v } } := heap_setCell_same w T 9 _ _ _ h
theorem Px.seth10 {w : World} {T : Nat} {x : Pv} (h : Px w T x) (v : Int) : Px (w.setCell ⟨T, 10, none⟩ (.int .i64 v)) T { x with h := { x.h with r := v } } := heap_setCell_same w T 10 _ _ _ h
theorem Px.seth11 {w : World} {T : Nat} {x : Pv} (h : Px w T x) (v : Int) : Px (w.setCell ⟨T, 11, none⟩ (.int .i64 v)) T { x with h := { x.h with h := v } } := heap_setCell_same w T 11 _ _ _ h
theorem Px.seth12 {w : World} {T : Nat} {x : Pv} (h : Px w T x) (v : Int) : Px (w.setCell ⟨T, 12, none⟩ (.int .i64 v)) T { x with h := { x.h with k := v } } := heap_setCell_same w T 12 _ _ _ h
theorem Px.seth13 {w : World} {T : Nat} {x : Pv} (h : Px w T x) (v : Int) : Px (w.setCell ⟨T, 13, none⟩ (.int .i64 v)) T { x with h := { x.h with f := v } } := heap_setCell_same w T 13 _ _ _ h
theorem Px.seth14 {w : World} {T : Nat} {x : Pv} (h : Px w T x) (v : Int) : Px (w.setCell ⟨T, 14, none⟩ (.int .i64 v)) T { x with h := { x.h with n := v } } := heap_setCell_same w T 14 _ _ _ h
theorem Px.setH {w : World} {T : Nat} {x : Pv} (h : Px w T x) (s : Hd) : Px (((((((w.setCell ⟨T, 8, none⟩ (.int .i64 s.v)).setCell ⟨T, 9, none⟩ (.int .i64 s.c)).setCell ⟨T, 10, none⟩ (.int .i64 s.r)).setCell ⟨T, 11, none⟩ (.int .i64 s.h)).setCell ⟨T, 12, none⟩ (.int .i64 s.k)).setCell ⟨T, 13, none⟩ (.int .i64 s.f)).setCell ⟨T, 14, none⟩ (.int .i64 s.n)) T { x with h := s } :=
 ((((((h.seth8 s.v).seth9 s.c).seth10 s.r).seth11 s.h).seth12 s.k).seth13 s.f).seth14 s.n
structure Rp8 (w w' : World) (U T : Nat) (x : Pv) : Prop where
 u : Px w' U zV
 t : Px w' T x
 gr : w.grownBy w' none
 lt : w.heap.size ≤ U ∧ U < T
theorem Rp8.keptN {w w' w'' : World} {U T : Nat} {x : Pv} (h : Rp8 w w' U T x) (hg : w'.grownBy w'' none) : Rp8 w w'' U T x := ⟨h.u.keptN hg, h.t.keptN hg, gQ h.gr hg, h.lt⟩
theorem Rp8.put {w w' w'' : World} {U T : Nat} {x y : Pv} (h : Rp8 w w' U T x) (hg : w'.grownBy w'' (some T)) (ht : Px w'' T y) : Rp8 w w'' U T y :=
 ⟨h.u.kept hg (fun e => by have := Option.some.inj e; have := h.lt; omega), ht, grown_new h.gr hg (by have := h.lt; omega), h.lt⟩
theorem openL_len {zs : List Int} (h : openE zs = 0) : (openL zs).length = 4092 := by
 unfold openE at h;unfold openL
 by_cases hf : fits zs
 ·rw [if_pos hf, List.length_take, hf.1]; rfl
 ·rw [if_neg hf] at h
  split at h <;> cases h
theorem openL_bt {zs : List Int} (h : Bt zs) : Bt (openL zs) := by
 unfold openL; split
 ·exact h.take _
 ·exact Bt.nil
theorem dec_small {zs : List Int} {L : List It} {e : Int} {q : Nat} (h : Dec zs L e) (hl : L.length = q) : q ≤ 9223372036854775807 := by
 rcases h with ⟨_, h1, _⟩ | ⟨_, rfl, _⟩
 ·have := (many_le h1.1 h1.2.1).1; omega
 ·have : 0 = q := hl; omega
theorem bdec_small {zs : List Int} {lv : Int} {L : List (List Int)} {K : List Kd} {e : Int} {q m : Nat} (h : Bdec zs lv L K e) (hl : L.length = q) (hk : K.length = m) : q ≤ 9223372036854775807 ∧ m ≤ 9223372036854775807 := by
 by_cases he : e = 0
 ·obtain ⟨_, k, M, rfl, rfl, hg⟩ := h.good he
  have hf := bwrong_fit.1 hg.1;have := (bmany_le (fun s hs => hf.sep s hs) hf.size).1;rw [seps_len] at hl;rw [kids_len] at hk;omega
 ·obtain ⟨_, rfl, rfl, _⟩ := h.bad he
  have h1 : 0 = q := hl;have h2 : 0 = m := hk;omega
theorem wpList_load_page {w : World} {ops : Array Oper} {rest : List Oper} {o : Oper} {a : Act} {Q : Exit → Act → World → Prop} (hgd : o.guard = none) (p : Operand) (ho : o.op = .load 30 p) (g : Nat) (x : Pv) (hp : a.eval p = .pointer (some ⟨g, 0, none⟩)) (hr : Px w g x)
  (h : wpList Tryz.prog ops Q rest (a.put o.dst (.agg #[.int .i64 x.k, .slice x.i.a x.i.n x.i.c, .int .i64 x.l, .slice x.s.a x.s.n x.s.c, .slice x.d.a x.d.n x.d.c, .int .i64 x.x, .slice x.b.a x.b.n x.b.c, .slice x.t.a x.t.n x.t.c, .int .i64 x.h.v, .int .i64 x.h.c, .int .i64 x.h.r, .int .i64 x.h.h, .int .i64 x.h.k, .int .i64 x.h.f, .int .i64 x.h.n])) w) : wpList Tryz.prog ops Q (o :: rest) a w := by
 refine wpList_plain hgd fun K hK => ?_
 unfold Oper.wp;have hv := run_loadVar_row (P := Tryz.prog) w g 30 30 _ (0, 0) _ hr Tryz.underlying30 rfl page_size
 have hr : (execOp a.eval o).run Tryz.prog w = .ok (.value (.agg #[.int .i64 x.k, .slice x.i.a x.i.n x.i.c, .int .i64 x.l, .slice x.s.a x.s.n x.s.c, .slice x.d.a x.d.n x.d.c, .int .i64 x.x, .slice x.b.a x.b.n x.b.c, .slice x.t.a x.t.n x.t.c, .int .i64 x.h.v, .int .i64 x.h.c, .int .i64 x.h.r, .int .i64 x.h.h, .int .i64 x.h.k, .int .i64 x.h.f, .int .i64 x.h.n])) w := by
  simp [execOp, ho, hp, Instr.loadAt, Instr.sureAddr, hv, Result.andThen]
 rw [hr, Oper.upon_value];exact hK _ _ h
theorem vD_bt8 {zs : List Int} (h : Bt zs) : Bt (vD zs) := by
 unfold vD; split
 ·exact rD_bt h
 ·exact Bt.nil
theorem vD_small8 {zs : List Int} (h : zs.length = 4092) : (vD zs).length ≤ 4092 := by
 unfold vD; split
 ·have : (rD zs).length ≤ zs.length := by
   unfold rD
   split
   ·simp; omega
   ·simp
  omega
 ·simp
theorem uL_small8 (zs : List Int) : (uL zs).length ≤ 1021 := by
 unfold uL; split
 ·rename_i h
  rw [rL_len]; exact (dL_parts h).2.1
 ·simp
structure Do8 (zs : List Int) (w : World) (en : Ending) (w' : World) : Prop where
 out : ∃ y p e, en = .returned (.tuple #[.agg #[.int .i64 y.k, .slice y.i.a y.i.n y.i.c, .int .i64 y.l, .slice y.s.a y.s.n y.s.c, .slice y.d.a y.d.n y.d.c, .int .i64 y.x, .slice y.b.a y.b.n y.b.c, .slice y.t.a y.t.n y.t.c, .int .i64 y.h.v, .int .i64 y.h.c, .int .i64 y.h.r, .int .i64 y.h.h, .int .i64 y.h.k, .int .i64 y.h.f, .int .i64 y.h.n], .int .i64 e]) ∧ PDec zs p e ∧ Pn w w' y p
 gr : w.grownBy w' none
theorem refDecode8_any (ao : Option Addr) (n c : Nat) (zs : List Int) (w : World) (hb : Byt w ao n c zs) (hbt : Bt zs) (hc : n ≤ c) :
  Calls Tryz.prog 21 #[.slice ao n c] w fun en w' => Do8 zs w en w' := by
 have HB := hJ hb;have HBT := hJ (openL_bt hbt);clear hb;go_enter Tryz.func21, Tryz.ntmps21;go_upto_region 1 with fail
 have U1 := hJ (Px.new w zV);have G1 := hJ (gP w zV);simp only [zV, nS, zH] at U1 G1;generalize w.alloc (.cells #[.int .i64 0, .slice none 0 0, .int .i64 0, .slice none 0 0, .slice none 0 0, .int .i64 0, .slice none 0 0, .slice none 0 0, .int .i64 0, .int .i64 0, .int .i64 0, .int .i64 0, .int .i64 0, .int .i64 0, .int .i64 0] 30) = w1 at *
 go_wp2_with fail
 refine (refOpen_new ao n c zs _ (HB.out.keptN G1.out) hbt hc).mono ?_;rintro en w2 ⟨po, m, cp, rfl, hb2, hg2, hmc, hcm⟩;have U2 := hJ (U1.out.keptN hg2);have G2 := hJ (gQ G1.out hg2);have HO := hJ hb2;clear hb2 hg2 U1 G1
 by_cases he : openE zs = 0
 ·rw [he]
  have HE := hJ he;have hol := openL_len he;have hm : m = 4092 := by rw [← HO.out.len]; exact hol
  subst hm;have HCP : Hid (4092 ≤ cp ∧ cp ≤ 9223372036854775807) := ⟨by omega, by omega⟩;clear hmc hcm;obtain ⟨g0, o0, rfl, hbs, hcell⟩ := HO.out.at (by omega);have cb := hcell 0 (by omega);rw [Nat.add_zero] at cb;have hkb := HBT.out.getD 0;obtain ⟨kn, hkn⟩ : ∃ kn : Nat, (openL zs).getD 0 0 = (kn : Int) := ⟨((openL zs).getD 0 0).toNat, by omega⟩;rw [hkn] at cb;have HKN := hJ hkn;have kw : IntKind.i64.wrap (kn : Int) = (kn : Int) := by simp [IntKind.wrap, IntKind.bits, IntKind.signed]; omega
  clear he hol hcell hkb hkn hbs;go_upto_region 5 with fail
  have gg := World.grownBy_alloc w2 (.cells #[.int .i64 (⟨(kn : Int), nS, 0, nS, nS, 0, nS, nS, zH⟩ : Pv).k, .slice (⟨(kn : Int), nS, 0, nS, nS, 0, nS, nS, zH⟩ : Pv).i.a (⟨(kn : Int), nS, 0, nS, nS, 0, nS, nS, zH⟩ : Pv).i.n (⟨(kn : Int), nS, 0, nS, nS, 0, nS, nS, zH⟩ : Pv).i.c, .int .i64 (⟨(kn : Int), nS, 0, nS, nS, 0, nS, nS, zH⟩ : Pv).l, .slice (⟨(kn : Int), nS, 0, nS, nS, 0, nS, nS, zH⟩ : Pv).s.a (⟨(kn : Int), nS, 0, nS, nS, 0, nS, nS, zH⟩ : Pv).s.n (⟨(kn : Int), nS, 0, nS, nS, 0, nS, nS, zH⟩ : Pv).s.c, .slice (⟨(kn : Int), nS, 0, nS, nS, 0, nS, nS, zH⟩ : Pv).d.a (⟨(kn : Int), nS, 0, nS, nS, 0, nS, nS, zH⟩ : Pv).d.n (⟨(kn : Int), nS, 0, nS, nS, 0, nS, nS, zH⟩ : Pv).d.c, .int .i64 (⟨(kn : Int), nS, 0, nS, nS, 0, nS, nS, zH⟩ : Pv).x, .slice (⟨(kn : Int), nS, 0, nS, nS, 0, nS, nS, zH⟩ : Pv).b.a (⟨(kn : Int), nS, 0, nS, nS, 0, nS, nS, zH⟩ : Pv).b.n (⟨(kn : Int), nS, 0, nS, nS, 0, nS, nS, zH⟩ : Pv).b.c, .slice (⟨(kn : Int), nS, 0, nS, nS, 0, nS, nS, zH⟩ : Pv).t.a (⟨(kn : Int), nS, 0, nS, nS, 0, nS, nS, zH⟩ : Pv).t.n (⟨(kn : Int), nS, 0, nS, nS, 0, nS, nS, zH⟩ : Pv).t.c, .int .i64 (⟨(kn : Int), nS, 0, nS, nS, 0, nS, nS, zH⟩ : Pv).h.v, .int .i64 (⟨(kn : Int), nS, 0, nS, nS, 0, nS, nS, zH⟩ : Pv).h.c, .int .i64 (⟨(kn : Int), nS, 0, nS, nS, 0, nS, nS, zH⟩ : Pv).h.r, .int .i64 (⟨(kn : Int), nS, 0, nS, nS, 0, nS, nS, zH⟩ : Pv).h.h, .int .i64 (⟨(kn : Int), nS, 0, nS, nS, 0, nS, nS, zH⟩ : Pv).h.k, .int .i64 (⟨(kn : Int), nS, 0, nS, nS, 0, nS, nS, zH⟩ : Pv).h.f, .int .i64 (⟨(kn : Int), nS, 0, nS, nS, 0, nS, nS, zH⟩ : Pv).h.n] 30) none;have R3 : Hid (Rp8 w (w2.alloc (.cells #[.int .i64 (⟨(kn : Int), nS, 0, nS, nS, 0, nS, nS, zH⟩ : Pv).k, .slice (⟨(kn : Int), nS, 0, nS, nS, 0, nS, nS, zH⟩ : Pv).i.a (⟨(kn : Int), nS, 0, nS, nS, 0, nS, nS, zH⟩ : Pv).i.n (⟨(kn : Int), nS, 0, nS, nS, 0, nS, nS, zH⟩ : Pv).i.c, .int .i64 (⟨(kn : Int), nS, 0, nS, nS, 0, nS, nS, zH⟩ : Pv).l, .slice (⟨(kn : Int), nS, 0, nS, nS, 0, nS, nS, zH⟩ : Pv).s.a (⟨(kn : Int), nS, 0, nS, nS, 0, nS, nS, zH⟩ : Pv).s.n (⟨(kn : Int), nS, 0, nS, nS, 0, nS, nS, zH⟩ : Pv).s.c, .slice (⟨(kn : Int), nS, 0, nS, nS, 0, nS, nS, zH⟩ : Pv).d.a (⟨(kn : Int), nS, 0, nS, nS, 0, nS, nS, zH⟩ : Pv).d.n (⟨(kn : Int), nS, 0, nS, nS, 0, nS, nS, zH⟩ : Pv).d.c, .int .i64 (⟨(kn : Int), nS, 0, nS, nS, 0, nS, nS, zH⟩ : Pv).x, .slice (⟨(kn : Int), nS, 0, nS, nS, 0, nS, nS, zH⟩ : Pv).b.a (⟨(kn : Int), nS, 0, nS, nS, 0, nS, nS, zH⟩ : Pv).b.n (⟨(kn : Int), nS, 0, nS, nS, 0, nS, nS, zH⟩ : Pv).b.c, .slice (⟨(kn : Int), nS, 0, nS, nS, 0, nS, nS, zH⟩ : Pv).t.a (⟨(kn : Int), nS, 0, nS, nS, 0, nS, nS, zH⟩ : Pv).t.n (⟨(kn : Int), nS, 0, nS, nS, 0, nS, nS, zH⟩ : Pv).t.c, .int .i64 (⟨(kn : Int), nS, 0, nS, nS, 0, nS, nS, zH⟩ : Pv).h.v, .int .i64 (⟨(kn : Int), nS, 0, nS, nS, 0, nS, nS, zH⟩ : Pv).h.c, .int .i64 (⟨(kn : Int), nS, 0, nS, nS, 0, nS, nS, zH⟩ : Pv).h.r, .int .i64 (⟨(kn : Int), nS, 0, nS, nS, 0, nS, nS, zH⟩ : Pv).h.h, .int .i64 (⟨(kn : Int), nS, 0, nS, nS, 0, nS, nS, zH⟩ : Pv).h.k, .int .i64 (⟨(kn : Int), nS, 0, nS, nS, 0, nS, nS, zH⟩ : Pv).h.f, .int .i64 (⟨(kn : Int), nS, 0, nS, nS, 0, nS, nS, zH⟩ : Pv).h.n] 30)) w.heap.size w2.heap.size ⟨kn, nS, 0, nS, nS, 0, nS, nS, zH⟩) := ⟨U2.out.keptN gg, Px.new w2 ⟨kn, nS, 0, nS, nS, 0, nS, nS, zH⟩, gQ G2.out gg, ⟨Nat.le_refl _, U2.out.lt⟩⟩;have HO3 := hJ (HO.out.keptN gg);clear gg U2 G2 HO cb;simp only [nS, zH] at R3 HO3;generalize w2.alloc (.cells #[.int .i64 (kn : Int), .slice none 0 0, .int .i64 0, .slice none 0 0, .slice none 0 0, .int .i64 0, .slice none 0 0, .slice none 0 0, .int .i64 0, .int .i64 0, .int .i64 0, .int .i64 0, .int .i64 0, .int .i64 0, .int .i64 0] 30) = w3 at *;generalize w2.heap.size = T at *
  by_cases hk1 : kn = 1
  ·have e1 : ((kn : Int) == 1) = true := by simp; omega
   have HKE : Hid ((openL zs).getD 0 0 = 1) := by show _ = _; rw [HKN.out]; omega
   obtain rfl : kn = 1 := by omega
   clear hk1;obtain ⟨c0, c1, c2, c3, c4, c5, c6, c7, c8, c9, c10, c11, c12, c13, c14⟩ := R3.out.t.cells
   go_wp2_with fail
   refine (refDecode_any _ 4092 cp (openL zs) _ HO3.out HBT.out).mono ?_;rintro en w4 ⟨⟨a, q, cap, e, L, rfl, hd, hil, hib, hl, hnw⟩, hg4⟩;have HDR : Hid (∀ p', (e = 0 → p' = ⟨1, L, 0, [], [], 0, [], [], zH⟩) → DecR ((openL zs).getD 0 0) (openL zs) p' e) := fun p' hp' => .inl ⟨HKE.out, L, hd, hp'⟩
   have PN4 : Hid (Pn w w4 ⟨1, ⟨a, q, cap⟩, 0, nS, nS, 0, nS, nS, zH⟩ ⟨1, L, 0, [], [], 0, [], [], zH⟩) := pn_leaf hil hib hl (dec_small hd hl) (hnw.from R3.out.gr.size);have R4 := hJ (R3.out.keptN hg4);clear hd hil hib hl hnw hg4 R3 HO3 HKE c0 c1 c2 c3 c4 c5 c6 c7 c8 c9 c10 c11 c12 c13 c14;obtain ⟨c0, c1, c2, c3, c4, c5, c6, c7, c8, c9, c10, c11, c12, c13, c14⟩ := R4.out.t.cells;have f1 := R4.out.t.frozen 1;go_upto_region 17 with fail
   have hgF : w4.grownBy (w4.setCell ⟨T, 1, none⟩ (.slice a q cap)) (some T) := grown_cell w4 T 1 (.slice a q cap);have R5 := hJ (R4.out.put (y := ⟨1, ⟨a, q, cap⟩, 0, nS, nS, 0, nS, nS, zH⟩) hgF (R4.out.t.set1 ⟨a, q, cap⟩));have P5 := hJ (PN4.out.page R4.out.t hgF);clear hgF R4 PN4 c0 c1 c2 c3 c4 c5 c6 c7 c8 c9 c10 c11 c12 c13 c14;generalize (w4.setCell ⟨T, 1, none⟩ (.slice a q cap)) = w5 at *
   by_cases he : e = 0
   ·subst he
    have HD : Hid (PDec zs ⟨1, L, 0, [], [], 0, [], [], zH⟩ 0) := ⟨fun h => absurd rfl h, .inr (.inr ⟨HE.out, HDR.out _ (fun _ => rfl)⟩)⟩;clear HDR
    go_wp2_with (refine wpList_load_page rfl _ rfl T ⟨1, ⟨a, q, cap⟩, 0, nS, nS, 0, nS, nS, zH⟩ rfl R5.out.t (wpList_store_page rfl _ _ rfl w.heap.size ⟨1, ⟨a, q, cap⟩, 0, nS, nS, 0, nS, nS, zH⟩ zV rfl rfl R5.out.u ?_))
    intro w6 hx6 hg6 _;have P6 := hJ (P5.out.page R5.out.u hg6);have G6 := hJ (grown_new R5.out.gr hg6 (Nat.le_refl _));clear hg6 P5 R5;go_wp2;refine bodyPost_ret (ret_page_tmp rfl _ _ w.heap.size ⟨1, ⟨a, q, cap⟩, 0, nS, nS, 0, nS, nS, zH⟩ rfl hx6) rfl ?_;exact ⟨⟨⟨1, ⟨a, q, cap⟩, 0, nS, nS, 0, nS, nS, zH⟩, ⟨1, L, 0, [], [], 0, [], [], zH⟩, 0, rfl, HD.out, P6.out⟩, G6.out⟩
   ·have he1 : (e == 0) = false := by simp [he]
    have he2 : (e != 0) = true := by simp [he]
    have HD : Hid (PDec zs zP e) := ⟨fun _ => rfl, .inr (.inr ⟨HE.out, HDR.out _ (fun h => absurd h he)⟩)⟩;clear HDR P5
    go_wp2_with (refine wpList_store_page rfl _ _ rfl w.heap.size zV zV rfl rfl R5.out.u ?_)
    intro w6 hx6 hg6 _;have G6 := hJ (grown_new R5.out.gr hg6 (Nat.le_refl _));clear hg6 R5;go_wp2;refine bodyPost_ret (ret_page_tmp rfl _ _ w.heap.size zV rfl hx6) rfl ?_;exact ⟨⟨zV, zP, _, rfl, HD.out, pn_zero _ _⟩, G6.out⟩
  ·have e1 : ((kn : Int) == 1) = false := by simp; omega
   by_cases hk2 : kn = 2
   ·have e2 : ((kn : Int) == 2) = true := by simp; omega
    have HKE : Hid ((openL zs).getD 0 0 = 2) := by show _ = _; rw [HKN.out]; omega
    obtain rfl : kn = 2 := by omega
    clear hk1 hk2;obtain ⟨c0, c1, c2, c3, c4, c5, c6, c7, c8, c9, c10, c11, c12, c13, c14⟩ := R3.out.t.cells
    go_wp2_with fail
    refine (refDecode5_any _ 4092 cp (openL zs) _ HO3.out HBT.out HCP.out.1 HCP.out.2).mono ?_;rintro en w4 ⟨⟨lv, a, q, cap, b', m', cap2, e, L, K, rfl, hd, hlz, hlb, hln, hkl, hkn, hna, hnb⟩, hg4⟩;have HDR : Hid (∀ p', (e = 0 → p' = ⟨2, [], lv, L, K, 0, [], [], zH⟩) → DecR ((openL zs).getD 0 0) (openL zs) p' e) := fun p' hp' => .inr (.inl ⟨HKE.out, lv, L, K, hd, hp'⟩)
    have PN4 : Hid (Pn w w4 ⟨2, nS, lv, ⟨a, q, cap⟩, ⟨b', m', cap2⟩, 0, nS, nS, zH⟩ ⟨2, [], lv, L, K, 0, [], [], zH⟩) := pn_branch hlz hlb hln (bdec_small hd hln hkn).1 (hna.from R3.out.gr.size) hkl hkn (bdec_small hd hln hkn).2 (hnb.from R3.out.gr.size);have R4 := hJ (R3.out.keptN hg4);clear hd hlz hlb hln hkl hkn hna hnb hg4 R3 HO3 HKE c0 c1 c2 c3 c4 c5 c6 c7 c8 c9 c10 c11 c12 c13 c14;obtain ⟨c0, c1, c2, c3, c4, c5, c6, c7, c8, c9, c10, c11, c12, c13, c14⟩ := R4.out.t.cells;have f2 := R4.out.t.frozen 2;have f3 := R4.out.t.frozen 3;have f4 := R4.out.t.frozen 4;go_upto_region 17 with fail
    have hgF : w4.grownBy (((w4.setCell ⟨T, 2, none⟩ (.int .i64 lv)).setCell ⟨T, 3, none⟩ (.slice a q cap)).setCell ⟨T, 4, none⟩ (.slice b' m' cap2)) (some T) := gQ (gQ (grown_cell w4 T 2 (.int .i64 lv)) (grown_cell _ T 3 (.slice a q cap))) (grown_cell _ T 4 (.slice b' m' cap2));have R5 := hJ (R4.out.put (y := ⟨2, nS, lv, ⟨a, q, cap⟩, ⟨b', m', cap2⟩, 0, nS, nS, zH⟩) hgF (((R4.out.t.set2 lv).set3 ⟨a, q, cap⟩).set4 ⟨b', m', cap2⟩));have P5 := hJ (PN4.out.page R4.out.t hgF);clear hgF R4 PN4 c0 c1 c2 c3 c4 c5 c6 c7 c8 c9 c10 c11 c12 c13 c14;generalize (((w4.setCell ⟨T, 2, none⟩ (.int .i64 lv)).setCell ⟨T, 3, none⟩ (.slice a q cap)).setCell ⟨T, 4, none⟩ (.slice b' m' cap2)) = w5 at *
    by_cases he : e = 0
    ·subst he
     have HD : Hid (PDec zs ⟨2, [], lv, L, K, 0, [], [], zH⟩ 0) := ⟨fun h => absurd rfl h, .inr (.inr ⟨HE.out, HDR.out _ (fun _ => rfl)⟩)⟩;clear HDR
     go_wp2_with (refine wpList_load_page rfl _ rfl T ⟨2, nS, lv, ⟨a, q, cap⟩, ⟨b', m', cap2⟩, 0, nS, nS, zH⟩ rfl R5.out.t (wpList_store_page rfl _ _ rfl w.heap.size ⟨2, nS, lv, ⟨a, q, cap⟩, ⟨b', m', cap2⟩, 0, nS, nS, zH⟩ zV rfl rfl R5.out.u ?_))
     intro w6 hx6 hg6 _;have P6 := hJ (P5.out.page R5.out.u hg6);have G6 := hJ (grown_new R5.out.gr hg6 (Nat.le_refl _));clear hg6 P5 R5;go_wp2;refine bodyPost_ret (ret_page_tmp rfl _ _ w.heap.size ⟨2, nS, lv, ⟨a, q, cap⟩, ⟨b', m', cap2⟩, 0, nS, nS, zH⟩ rfl hx6) rfl ?_;exact ⟨⟨⟨2, nS, lv, ⟨a, q, cap⟩, ⟨b', m', cap2⟩, 0, nS, nS, zH⟩, ⟨2, [], lv, L, K, 0, [], [], zH⟩, 0, rfl, HD.out, P6.out⟩, G6.out⟩
    ·have he1 : (e == 0) = false := by simp [he]
     have he2 : (e != 0) = true := by simp [he]
     have HD : Hid (PDec zs zP e) := ⟨fun _ => rfl, .inr (.inr ⟨HE.out, HDR.out _ (fun h => absurd h he)⟩)⟩;clear HDR P5
     go_wp2_with (refine wpList_store_page rfl _ _ rfl w.heap.size zV zV rfl rfl R5.out.u ?_)
     intro w6 hx6 hg6 _;have G6 := hJ (grown_new R5.out.gr hg6 (Nat.le_refl _));clear hg6 R5;go_wp2;refine bodyPost_ret (ret_page_tmp rfl _ _ w.heap.size zV rfl hx6) rfl ?_;exact ⟨⟨zV, zP, _, rfl, HD.out, pn_zero _ _⟩, G6.out⟩
   ·have e2 : ((kn : Int) == 2) = false := by simp; omega
    by_cases hk3 : kn = 3
    ·have e3 : ((kn : Int) == 3) = true := by simp; omega
     have HKE : Hid ((openL zs).getD 0 0 = 3) := by show _ = _; rw [HKN.out]; omega
     obtain rfl : kn = 3 := by omega
     clear hk1 hk2 hk3;obtain ⟨c0, c1, c2, c3, c4, c5, c6, c7, c8, c9, c10, c11, c12, c13, c14⟩ := R3.out.t.cells
     go_wp2_with fail
     refine (refDecodeData_any _ 4092 cp (openL zs) _ HO3.out HBT.out HCP.out).mono ?_;rintro en w4 ⟨a, q, cap, rfl, hb4, hg4⟩;have PN4 : Hid (Pn w w4 ⟨3, nS, 0, nS, nS, vN (openL zs), ⟨a, q, cap⟩, nS, zH⟩ ⟨3, [], 0, [], [], vN (openL zs), vD (openL zs), [], zH⟩) := pn_data hb4 (vD_bt8 HBT.out) (by rw [← hb4.len]; exact Nat.le_trans (vD_small8 (openL_len HE.out)) (by decide));have HDR : Hid (∀ p', (vE (openL zs) = 0 → p' = ⟨3, [], 0, [], [], vN (openL zs), vD (openL zs), [], zH⟩) → DecR ((openL zs).getD 0 0) (openL zs) p' (vE (openL zs))) := fun p' hp' => .inr (.inr (.inl ⟨HKE.out, rfl, hp'⟩))
     generalize vE (openL zs) = e at *;generalize vN (openL zs) = nx at *;generalize vD (openL zs) = D at *;have R4 := hJ (R3.out.keptN hg4);clear hb4 hg4 R3 HO3 HKE c0 c1 c2 c3 c4 c5 c6 c7 c8 c9 c10 c11 c12 c13 c14;obtain ⟨c0, c1, c2, c3, c4, c5, c6, c7, c8, c9, c10, c11, c12, c13, c14⟩ := R4.out.t.cells;have f5 := R4.out.t.frozen 5;have f6 := R4.out.t.frozen 6;go_upto_region 17 with fail
     have hgF : w4.grownBy ((w4.setCell ⟨T, 5, none⟩ (.int .i64 nx)).setCell ⟨T, 6, none⟩ (.slice a q cap)) (some T) := gQ (grown_cell w4 T 5 (.int .i64 nx)) (grown_cell _ T 6 (.slice a q cap));have R5 := hJ (R4.out.put (y := ⟨3, nS, 0, nS, nS, nx, ⟨a, q, cap⟩, nS, zH⟩) hgF ((R4.out.t.set5 nx).set6 ⟨a, q, cap⟩));have P5 := hJ (PN4.out.page R4.out.t hgF);clear hgF R4 PN4 c0 c1 c2 c3 c4 c5 c6 c7 c8 c9 c10 c11 c12 c13 c14;generalize ((w4.setCell ⟨T, 5, none⟩ (.int .i64 nx)).setCell ⟨T, 6, none⟩ (.slice a q cap)) = w5 at *
     by_cases he : e = 0
     ·subst he
      have HD : Hid (PDec zs ⟨3, [], 0, [], [], nx, D, [], zH⟩ 0) := ⟨fun h => absurd rfl h, .inr (.inr ⟨HE.out, HDR.out _ (fun _ => rfl)⟩)⟩;clear HDR
      go_wp2_with (refine wpList_load_page rfl _ rfl T ⟨3, nS, 0, nS, nS, nx, ⟨a, q, cap⟩, nS, zH⟩ rfl R5.out.t (wpList_store_page rfl _ _ rfl w.heap.size ⟨3, nS, 0, nS, nS, nx, ⟨a, q, cap⟩, nS, zH⟩ zV rfl rfl R5.out.u ?_))
      intro w6 hx6 hg6 _;have P6 := hJ (P5.out.page R5.out.u hg6);have G6 := hJ (grown_new R5.out.gr hg6 (Nat.le_refl _));clear hg6 P5 R5;go_wp2;refine bodyPost_ret (ret_page_tmp rfl _ _ w.heap.size ⟨3, nS, 0, nS, nS, nx, ⟨a, q, cap⟩, nS, zH⟩ rfl hx6) rfl ?_;exact ⟨⟨⟨3, nS, 0, nS, nS, nx, ⟨a, q, cap⟩, nS, zH⟩, ⟨3, [], 0, [], [], nx, D, [], zH⟩, 0, rfl, HD.out, P6.out⟩, G6.out⟩
     ·have he1 : (e == 0) = false := by simp [he]
      have he2 : (e != 0) = true := by simp [he]
      have HD : Hid (PDec zs zP e) := ⟨fun _ => rfl, .inr (.inr ⟨HE.out, HDR.out _ (fun h => absurd h he)⟩)⟩;clear HDR P5
      go_wp2_with (refine wpList_store_page rfl _ _ rfl w.heap.size zV zV rfl rfl R5.out.u ?_)
      intro w6 hx6 hg6 _;have G6 := hJ (grown_new R5.out.gr hg6 (Nat.le_refl _));clear hg6 R5;go_wp2;refine bodyPost_ret (ret_page_tmp rfl _ _ w.heap.size zV rfl hx6) rfl ?_;exact ⟨⟨zV, zP, _, rfl, HD.out, pn_zero _ _⟩, G6.out⟩
    ·have e3 : ((kn : Int) == 3) = false := by simp; omega
     by_cases hk4 : kn = 4
     ·have e4 : ((kn : Int) == 4) = true := by simp; omega
      have HKE : Hid ((openL zs).getD 0 0 = 4) := by show _ = _; rw [HKN.out]; omega
      obtain rfl : kn = 4 := by omega
      clear hk1 hk2 hk3 hk4;obtain ⟨c0, c1, c2, c3, c4, c5, c6, c7, c8, c9, c10, c11, c12, c13, c14⟩ := R3.out.t.cells
      go_wp2_with fail
      refine (refDecodeList_new _ 4092 cp (openL zs) _ HO3.out HBT.out).mono ?_;rintro en w4 ⟨a, q, cap, rfl, hb4, hln, hnw, hg4⟩;have PN4 : Hid (Pn w w4 ⟨4, nS, 0, nS, nS, uN (openL zs), nS, ⟨a, q, cap⟩, zH⟩ ⟨4, [], 0, [], [], uN (openL zs), [], uL (openL zs), zH⟩) := pn_list hb4 hln (by rw [← hln]; exact Nat.le_trans (uL_small8 _) (by decide)) (hnw.from R3.out.gr.size);have HDR : Hid (∀ p', (uE (openL zs) = 0 → p' = ⟨4, [], 0, [], [], uN (openL zs), [], uL (openL zs), zH⟩) → DecR ((openL zs).getD 0 0) (openL zs) p' (uE (openL zs))) := fun p' hp' => .inr (.inr (.inr (.inl ⟨HKE.out, rfl, hp'⟩)))
      generalize uE (openL zs) = e at *;generalize uN (openL zs) = nx at *;generalize uL (openL zs) = D at *;have R4 := hJ (R3.out.keptN hg4);clear hb4 hg4 hln hnw R3 HO3 HKE c0 c1 c2 c3 c4 c5 c6 c7 c8 c9 c10 c11 c12 c13 c14;obtain ⟨c0, c1, c2, c3, c4, c5, c6, c7, c8, c9, c10, c11, c12, c13, c14⟩ := R4.out.t.cells;have f5 := R4.out.t.frozen 5;have f7 := R4.out.t.frozen 7;go_upto_region 17 with fail
      have hgF : w4.grownBy ((w4.setCell ⟨T, 5, none⟩ (.int .i64 nx)).setCell ⟨T, 7, none⟩ (.slice a q cap)) (some T) := gQ (grown_cell w4 T 5 (.int .i64 nx)) (grown_cell _ T 7 (.slice a q cap));have R5 := hJ (R4.out.put (y := ⟨4, nS, 0, nS, nS, nx, nS, ⟨a, q, cap⟩, zH⟩) hgF ((R4.out.t.set5 nx).set7 ⟨a, q, cap⟩));have P5 := hJ (PN4.out.page R4.out.t hgF);clear hgF R4 PN4 c0 c1 c2 c3 c4 c5 c6 c7 c8 c9 c10 c11 c12 c13 c14;generalize ((w4.setCell ⟨T, 5, none⟩ (.int .i64 nx)).setCell ⟨T, 7, none⟩ (.slice a q cap)) = w5 at *
      by_cases he : e = 0
      ·subst he
       have HD : Hid (PDec zs ⟨4, [], 0, [], [], nx, [], D, zH⟩ 0) := ⟨fun h => absurd rfl h, .inr (.inr ⟨HE.out, HDR.out _ (fun _ => rfl)⟩)⟩;clear HDR
       go_wp2_with (refine wpList_load_page rfl _ rfl T ⟨4, nS, 0, nS, nS, nx, nS, ⟨a, q, cap⟩, zH⟩ rfl R5.out.t (wpList_store_page rfl _ _ rfl w.heap.size ⟨4, nS, 0, nS, nS, nx, nS, ⟨a, q, cap⟩, zH⟩ zV rfl rfl R5.out.u ?_))
       intro w6 hx6 hg6 _;have P6 := hJ (P5.out.page R5.out.u hg6);have G6 := hJ (grown_new R5.out.gr hg6 (Nat.le_refl _));clear hg6 P5 R5;go_wp2;refine bodyPost_ret (ret_page_tmp rfl _ _ w.heap.size ⟨4, nS, 0, nS, nS, nx, nS, ⟨a, q, cap⟩, zH⟩ rfl hx6) rfl ?_;exact ⟨⟨⟨4, nS, 0, nS, nS, nx, nS, ⟨a, q, cap⟩, zH⟩, ⟨4, [], 0, [], [], nx, [], D, zH⟩, 0, rfl, HD.out, P6.out⟩, G6.out⟩
      ·have he1 : (e == 0) = false := by simp [he]
       have he2 : (e != 0) = true := by simp [he]
       have HD : Hid (PDec zs zP e) := ⟨fun _ => rfl, .inr (.inr ⟨HE.out, HDR.out _ (fun h => absurd h he)⟩)⟩;clear HDR P5
       go_wp2_with (refine wpList_store_page rfl _ _ rfl w.heap.size zV zV rfl rfl R5.out.u ?_)
       intro w6 hx6 hg6 _;have G6 := hJ (grown_new R5.out.gr hg6 (Nat.le_refl _));clear hg6 R5;go_wp2;refine bodyPost_ret (ret_page_tmp rfl _ _ w.heap.size zV rfl hx6) rfl ?_;exact ⟨⟨zV, zP, _, rfl, HD.out, pn_zero _ _⟩, G6.out⟩
     ·have e4 : ((kn : Int) == 4) = false := by simp; omega
      by_cases hk5 : kn = 5
      ·have e5 : ((kn : Int) == 5) = true := by simp; omega
       have HKE : Hid ((openL zs).getD 0 0 = 5) := by show _ = _; rw [HKN.out]; omega
       obtain rfl : kn = 5 := by omega
       clear hk1 hk2 hk3 hk4 hk5;obtain ⟨c0, c1, c2, c3, c4, c5, c6, c7, c8, c9, c10, c11, c12, c13, c14⟩ := R3.out.t.cells
       go_wp2_with fail
       refine (refDecode7_any _ 4092 cp (openL zs) _ HO3.out HBT.out).mono ?_;rintro en w4 ⟨rfl, hg4⟩;have HDR0 : Hid (∀ p', (aE (openL zs) = 0 → p' = ⟨5, [], 0, [], [], 0, [], [], aH (openL zs)⟩) → DecR ((openL zs).getD 0 0) (openL zs) p' (aE (openL zs))) := fun p' hp' => .inr (.inr (.inr (.inr ⟨HKE.out, rfl, hp'⟩)))
       generalize aE (openL zs) = e at *;obtain ⟨⟨v, c', r, t', k, f, n'⟩, hH⟩ : ∃ H, aH (openL zs) = H := ⟨_, rfl⟩;rw [hH];rw [hH] at HDR0;have HDR := hJ HDR0.out;have PN4 := hJ (pn_head w w4 ⟨v, c', r, t', k, f, n'⟩);clear hH HDR0;have R4 := hJ (R3.out.keptN hg4);clear hg4 R3 HO3 HKE c0 c1 c2 c3 c4 c5 c6 c7 c8 c9 c10 c11 c12 c13 c14;obtain ⟨c0, c1, c2, c3, c4, c5, c6, c7, c8, c9, c10, c11, c12, c13, c14⟩ := R4.out.t.cells;have f8 := R4.out.t.frozen 8;have f9 := R4.out.t.frozen 9;have f10 := R4.out.t.frozen 10;have f11 := R4.out.t.frozen 11;have f12 := R4.out.t.frozen 12;have f13 := R4.out.t.frozen 13;have f14 := R4.out.t.frozen 14;go_upto_region 17 with fail
       have hgF : w4.grownBy (((((((w4.setCell ⟨T, 8, none⟩ (.int .i64 v)).setCell ⟨T, 9, none⟩ (.int .i64 c')).setCell ⟨T, 10, none⟩ (.int .i64 r)).setCell ⟨T, 11, none⟩ (.int .i64 t')).setCell ⟨T, 12, none⟩ (.int .i64 k)).setCell ⟨T, 13, none⟩ (.int .i64 f)).setCell ⟨T, 14, none⟩ (.int .i64 n')) (some T) := gQ (gQ (gQ (gQ (gQ (gQ (grown_cell w4 T 8 (.int .i64 v)) (grown_cell _ T 9 (.int .i64 c'))) (grown_cell _ T 10 (.int .i64 r))) (grown_cell _ T 11 (.int .i64 t'))) (grown_cell _ T 12 (.int .i64 k))) (grown_cell _ T 13 (.int .i64 f))) (grown_cell _ T 14 (.int .i64 n'));have R5 := hJ (R4.out.put (y := ⟨5, nS, 0, nS, nS, 0, nS, nS, ⟨v, c', r, t', k, f, n'⟩⟩) hgF (R4.out.t.setH ⟨v, c', r, t', k, f, n'⟩));have P5 := hJ (PN4.out.page R4.out.t hgF);clear hgF R4 PN4 c0 c1 c2 c3 c4 c5 c6 c7 c8 c9 c10 c11 c12 c13 c14;generalize (((((((w4.setCell ⟨T, 8, none⟩ (.int .i64 v)).setCell ⟨T, 9, none⟩ (.int .i64 c')).setCell ⟨T, 10, none⟩ (.int .i64 r)).setCell ⟨T, 11, none⟩ (.int .i64 t')).setCell ⟨T, 12, none⟩ (.int .i64 k)).setCell ⟨T, 13, none⟩ (.int .i64 f)).setCell ⟨T, 14, none⟩ (.int .i64 n')) = w5 at *
       by_cases he : e = 0
       ·subst he
        have HD : Hid (PDec zs ⟨5, [], 0, [], [], 0, [], [], ⟨v, c', r, t', k, f, n'⟩⟩ 0) := ⟨fun h => absurd rfl h, .inr (.inr ⟨HE.out, HDR.out _ (fun _ => rfl)⟩)⟩;clear HDR
        go_wp2_with (refine wpList_load_page rfl _ rfl T ⟨5, nS, 0, nS, nS, 0, nS, nS, ⟨v, c', r, t', k, f, n'⟩⟩ rfl R5.out.t (wpList_store_page rfl _ _ rfl w.heap.size ⟨5, nS, 0, nS, nS, 0, nS, nS, ⟨v, c', r, t', k, f, n'⟩⟩ zV rfl rfl R5.out.u ?_))
        intro w6 hx6 hg6 _;have P6 := hJ (P5.out.page R5.out.u hg6);have G6 := hJ (grown_new R5.out.gr hg6 (Nat.le_refl _));clear hg6 P5 R5;go_wp2;refine bodyPost_ret (ret_page_tmp rfl _ _ w.heap.size ⟨5, nS, 0, nS, nS, 0, nS, nS, ⟨v, c', r, t', k, f, n'⟩⟩ rfl hx6) rfl ?_;exact ⟨⟨⟨5, nS, 0, nS, nS, 0, nS, nS, ⟨v, c', r, t', k, f, n'⟩⟩, ⟨5, [], 0, [], [], 0, [], [], ⟨v, c', r, t', k, f, n'⟩⟩, 0, rfl, HD.out, P6.out⟩, G6.out⟩
       ·have he1 : (e == 0) = false := by simp [he]
        have he2 : (e != 0) = true := by simp [he]
        have HD : Hid (PDec zs zP e) := ⟨fun _ => rfl, .inr (.inr ⟨HE.out, HDR.out _ (fun h => absurd h he)⟩)⟩;clear HDR P5
        go_wp2_with (refine wpList_store_page rfl _ _ rfl w.heap.size zV zV rfl rfl R5.out.u ?_)
        intro w6 hx6 hg6 _;have G6 := hJ (grown_new R5.out.gr hg6 (Nat.le_refl _));clear hg6 R5;go_wp2;refine bodyPost_ret (ret_page_tmp rfl _ _ w.heap.size zV rfl hx6) rfl ?_;exact ⟨⟨zV, zP, _, rfl, HD.out, pn_zero _ _⟩, G6.out⟩
      ·have e5 : ((kn : Int) == 5) = false := by simp; omega
       have HD : Hid (PDec zs zP 80) := ⟨fun _ => rfl, .inr (.inl ⟨HE.out, by rw [HKN.out]; cases hh : okK (kn : Int) with
        | false => rfl
        | true => exact absurd (okK_iff.1 hh) (by omega), rfl⟩)⟩
       clear hk1 hk2 hk3 hk4 hk5;obtain ⟨c0, c1, c2, c3, c4, c5, c6, c7, c8, c9, c10, c11, c12, c13, c14⟩ := R3.out.t.cells
       go_wp2_with (refine wpList_store_page rfl _ _ rfl w.heap.size zV zV rfl rfl R3.out.u ?_)
       intro w6 hx6 hg6 _;have G6 := hJ (grown_new R3.out.gr hg6 (Nat.le_refl _));clear hg6 R3;go_wp2;refine bodyPost_ret (ret_page_tmp rfl _ _ w.heap.size zV rfl hx6) rfl ?_;exact ⟨⟨zV, zP, _, rfl, HD.out, pn_zero _ _⟩, G6.out⟩
 ·have he1 : (openE zs == 0) = false := by simp [he]
  have he2 : (openE zs != 0) = true := by simp [he]
  have HD : Hid (PDec zs zP (openE zs)) := ⟨fun _ => rfl, .inl ⟨he, rfl⟩⟩;clear he;generalize openE zs = e at *
  go_wp2_with (refine wpList_store_page rfl _ _ rfl w.heap.size zV zV rfl rfl U2.out ?_)
  intro w3 hx3 hg3 hs3;have G3 := hJ (grown_new G2.out hg3 (Nat.le_refl _));clear hg3 hs3;go_wp2;refine bodyPost_ret (ret_page_tmp rfl _ _ w.heap.size zV rfl hx3) rfl ?_;exact ⟨⟨zV, zP, _, rfl, HD.out, pn_zero _ _⟩, G3.out⟩
theorem behind8_any (ao : Option Addr) (k c : Nat) (x : List Int) (w : World) (hb : Byt w ao k c x) (hk2 : k ≤ 1000000) :
  Calls Tryz.prog 30 #[.slice ao k c] w fun en w' => (∃ g cc, en = .returned (.slice (some ⟨g, 0, none⟩) k cc) ∧ Ow w' g cc (x ++ [201]) ∧ w.heap.size ≤ g) ∧ w.grownBy w' none := by
 have hk := hb.len;have HB := hJ hb;clear hb;go_enter Tryz.func30, Tryz.ntmps30
 go_wp2_with fail
 refine (refBytes_any ao k c x _ HB.out (by omega)).mono ?_;rintro en w2 ⟨rfl, hown2, hg2, hs2⟩;have O2 := hJ (hown2.alloc (.cells #[.int .u8 201] 5));have HOW2 := hJ hown2;have HG2 := hJ hg2;have BL := hJ (Byt.lit w2 5 #[.int .u8 201] [201] 1 rfl rfl);clear hown2 hg2
 go_wp2_with (at_builtin; refine wpList_append_byt rfl _ _ rfl w.heap.size _ k x rfl O2.out (some ⟨w2.heap.size, 0, none⟩) 1 1 [201] rfl BL.out (by omega) (by simp; omega) ?_)
 intro v3 w3 ho3 hg3;have ho3' : w3.ownsRow w.heap.size 5 1 v3 (k + 1) ((x ++ [201]).map (Value.int .u8)) := by simpa using ho3
 obtain ⟨g, cc, rfl, hgb, hgl, hgc⟩ := owns_shape ho3' (by omega);obtain ⟨hOw, _, _, _⟩ := Ow.of_owns ho3';have HG3 : Hid (w.grownBy w3 none) := grown_own HG2.out HOW2.out (Nat.le_refl _) hg3;have HOW := hJ hOw;clear hOw ho3 ho3' hg3 O2 BL HOW2 HG2;have g1 : (k : Int) ≤ (cc : Int) := by omega
 have g2 : (0 : Int) ≤ (k : Int) := by omega
 go_wp2;go_ret;exact ⟨⟨g, cc, rfl, HOW.out, by omega⟩, HG3.out⟩
theorem mark8_one (x : List Int) : (x ++ [201]).getD x.length 0 = 201 := by simp [List.getD]
theorem mark8_any (g k c : Nat) (x : List Int) (w : World) (h : Ow w g c (x ++ [201])) (hk : x.length = k) :
  Calls Tryz.prog 52 #[.slice (some ⟨g, 0, none⟩) k c] w fun en w' => en = .returned (.bool true) ∧ w' = w := by
 have c0 := h.cell (j := k) (by simp; omega);rw [← hk, mark8_one, hk] at c0;have hc := h.le;have hm := h.max;simp only [List.length_append, List.length_singleton] at hc;have g1 : (k : Int) + 1 ≤ (c : Int) := by omega
 have g2 : (0 : Int) ≤ (k : Int) + 1 := by omega
 have g3 : (0 : Int) ≤ (k : Int) := by omega
 have g4 : (k : Int) < (k : Int) + 1 := by omega
 have g5 : IntKind.i64.wrap ((k : Int) + 1) = (k : Int) + 1 := by simp [IntKind.wrap, IntKind.bits, IntKind.signed]; omega
 clear h;go_enter Tryz.func52, Tryz.ntmps52;go_wp2;go_ret;exact ⟨rfl, rfl⟩
theorem refInts_any (a : Option Addr) (n cap : Nat) (K : List Int) (w : World) (hl : Nt w a K) (hn : K.length = n) (hm : n ≤ 100000) :
  Calls Tryz.prog 33 #[.slice a n cap] w fun en w' => (∃ v, en = .returned v ∧ w'.ownsRow w.heap.size 3 1 v n (K.map (Value.int .i64))) ∧ w.grownBy w' none ∧ w.heap.size < w'.heap.size := by
 obtain ⟨i1, hi1, hy0, hy1, hy2⟩ := info_parts info_int6;have HL := hJ hl;clear hl;go_enter Tryz.func33, Tryz.ntmps33
 go_wp2_with (at_make; refine wpList_make_own _ rfl _ _ 26 rfl w.heap.size 3 i1 (.int .i64 0) 1 Tryz.underlying26 hi1 hy0 hy1 _ _ _ n rfl rfl rfl ?b2 ?b3 (Nat.le_refl _) ?_)
 case b2 => rw [hy2]; omega
 case b3 => unfold maxLen; omega
 intro w0 hown0 hg0;have hs0 : w.heap.size < w0.heap.size := (hown0.lt w.heap.size rfl).2;have O0 := hJ hown0;have G0 := hJ hg0;clear hown0 hg0;go_wp2;go_loopw [3, 4] (fun sl si wr => ∃ i : Nat, i ≤ n ∧ si = .int .i64 i ∧ wr.ownsRow w.heap.size 3 1 sl i ((K.map (Value.int .i64)).take i) ∧ w.grownBy wr none ∧ w.heap.size < wr.heap.size) (fun _ si _ => n - (intOf si).toNat)
 case atStart => exact ⟨0, Nat.zero_le _, rfl, O0.out, G0.out, hs0⟩
 case round =>
  obtain ⟨i, hi', rfl, hown, hg, hs⟩ := hrel;have HO := hJ hown;have HG := hJ hg;clear hown hg O0 G0
  by_cases hlt : i < n
  ·obtain ⟨b1, off, rfl, q2⟩ := HL.out.row i (by omega)
   have c0 := HG.out.cell q2 (by simp)
   have HTK : Hid ((K.map (Value.int .i64)).take (i + 1) = (K.map (Value.int .i64)).take i ++ [.int .i64 (K.getD i 0)]) := by
    show _ = _
    rw [List.take_add_one, List.getElem?_map, List.getElem?_eq_getElem (show i < K.length by omega)];simp [List.getD, List.getElem?_eq_getElem (show i < K.length by omega)]
   clear q2;generalize K.getD i 0 = no at *
   go_wp2_with (at_builtin; refine wpList_append_own _ rfl _ _ 26 rfl w.heap.size 3 i1 (.int .i64 0) 1 8 Tryz.underlying26 hi1 hy0 hy1 hy2 rfl (by decide) _ i ((K.map (Value.int .i64)).take i) rfl (HO.out.alloc _) ⟨wr.heap.size, 0, none⟩ 1 1 [.int .i64 no] rfl rfl (cell_one6 _ _ _) (by intro u hu; simp at hu; subst hu; rfl) (by unfold maxLen; omega) (by omega) (by have := HG.out.size; simp; omega) ?_)
   intro v' w10 ho hg10 _;have HO1 := hJ ho;have HG1 := hJ (grown_app5 HG.out HO.out (Nat.le_refl _) hg10);have hs1 : w.heap.size < w10.heap.size := by have := hg10.size; simp at this; omega
   clear ho hg10 HO HG c0;go_wp2;go_roundw
   case rel => exact ⟨i + 1, by omega, by go_num, by rw [HTK.out]; exact HO1.out, HG1.out, hs1⟩
   case measure => simp [intOf]; omega
  ·have hin : i = n := by omega
   subst hin;have e : (K.map (Value.int .i64)).take i = K.map (Value.int .i64) := List.take_of_length_le (by rw [List.length_map]; omega);rw [e] at HO;go_wp2;go_ret;exact ⟨⟨_, rfl, HO.out⟩, HG.out, hs⟩
theorem refLists_own (a : Option Addr) (n cap : Nat) (L : List (List Int)) (w : World) (hl : Lz w a L) (hn : L.length = n) (hm : n ≤ 5000) (hs : ∀ s ∈ L, s.length ≤ 100000) :
  Calls Tryz.prog 31 #[.slice a n cap] w fun en w' => (∃ v xs, en = .returned v ∧ w'.ownsRow w.heap.size 25 1 v n xs ∧ Sx w' xs L) ∧ w.grownBy w' none := by
 obtain ⟨i0, hi, hz0, hz1, hz2⟩ := info_parts info_bytesS;have HL := hJ hl;have HS := hJ hs;clear hl hs;go_enter Tryz.func31, Tryz.ntmps31
 go_wp2_with (at_make; refine wpList_make_own _ rfl _ _ 23 rfl w.heap.size 25 i0 (.slice none 0 0) 1 Tryz.underlying23 hi hz0 hz1 _ _ _ n rfl rfl rfl ?b2 ?b3 (Nat.le_refl _) ?_)
 case b2 => rw [hz2]; omega
 case b3 => unfold maxLen; omega
 intro w0 hown0 hg0;have O0 := hJ hown0;have G0 := hJ hg0;clear hown0 hg0;go_wp2;go_loopw [3, 4, 5] (fun sl si _ wr => ∃ (i : Nat) (xs : List Value), i ≤ n ∧ si = .int .i64 i ∧ Sx wr xs (L.take i) ∧ wr.ownsRow w.heap.size 25 1 sl i xs ∧ w.grownBy wr none) (fun _ si _ _ => n - (intOf si).toNat)
 case atStart => exact ⟨0, [], Nat.zero_le _, rfl, Sx.nil _, O0.out, G0.out⟩
 case round =>
  obtain ⟨i, xs, hi', rfl, hsv, hown, hg⟩ := hrel;have HV := hJ hsv;have HO := hJ hown;have HG := hJ hg;clear hsv hown hg O0 G0
  by_cases hlt : i < n
  ·obtain ⟨b1, off, ao, k, c, rfl, q2, q3, q4, q5⟩ := HL.out.row i (by omega)
   have c0 := HG.out.cell q2 (by simp);have B0 := hJ (q3.keptN HG.out);have hk := q3.len;have hk2 := HS.out _ (lget_mem (show i < L.length by omega))
   have HTK : Hid (L.take (i + 1) = L.take i ++ [L.getD i []]) := by
    show _ = _
    rw [List.take_add_one, List.getElem?_eq_getElem (show i < L.length by omega)];simp [List.getD, List.getElem?_eq_getElem (show i < L.length by omega)]
   clear q2 q3;generalize L.getD i [] = x at *
   go_wp2_with fail
   refine (refBytes_any ao k c x _ B0.out (by omega)).mono ?_;rintro en w2 ⟨rfl, hown2, hg2, hs2⟩;have R2 := hJ hown2;have HV2 := hJ (HV.out.keptN hg2);have HO2 := hJ (own_kept5 HO.out hg2);have HG2 := hJ (gQ HG.out hg2);have hgl := HG.out.size;clear hown2 hg2 hs2 HV HO HG B0 c0;generalize wr.heap.size = g at *
   go_wp2_with (at_builtin; refine wpList_append_own _ rfl _ _ 23 rfl w.heap.size 25 i0 (.slice none 0 0) 1 24 Tryz.underlying23 hi hz0 hz1 hz2 rfl (by decide) _ i xs rfl (HO2.out.alloc _) ⟨w2.heap.size, 0, none⟩ 1 1 [.slice (some ⟨g, 0, none⟩) k k] rfl rfl (cell_one_new _ _ _) (by intro u hu; simp at hu; subst hu; rfl) (by unfold maxLen; omega) (by omega) (by have := HG2.out.size; simp; omega) ?_)
   intro v' w4 ho4 hg4 _;have hg24 := World.grownBy_alloc w2 (.cells #[.slice (some ⟨g, 0, none⟩) k k] 25) none;have HV4 := hJ (((HV2.out.keptN hg24).snoc (own_kept5 R2.out hg24) hk).kept hg4 (HO2.out.alloc (.cells #[.slice (some ⟨g, 0, none⟩) k k] 25)));have HG4 := hJ (grown_app5 HG2.out HO2.out (Nat.le_refl _) hg4);have HO4 := hJ ho4;clear hg24 ho4 hg4 HV2 HO2 HG2 R2;go_wp2;go_roundw
   case rel => exact ⟨i + 1, _, by omega, by go_num, by rw [HTK.out]; exact HV4.out, HO4.out, HG4.out⟩
   case measure => simp [intOf]; omega
  ·have hin : i = n := by omega
   subst hin;have e : L.take i = L := by rw [← hn, List.take_length]
   rw [e] at HV;go_wp2;go_ret;exact ⟨⟨_, xs, rfl, HO.out, HV.out⟩, HG.out⟩
theorem own_cap8 {w : World} {base A n c sz : Nat} {t : TypeId} {xs : List Value} (h : w.ownsRow base t sz (.slice (some ⟨A, 0, none⟩) n c) n xs) : n ≤ c ∧ c ≤ 9223372036854775807 ∧ base ≤ A ∧ A < w.heap.size ∧ ∃ cur, w.heap[A]? = some (.cells cur t (0, 0)) := by
 have hl := h.lt A rfl;rcases h.2 with ⟨e, _⟩ | ⟨g, cap', cur, hv, _, hg, hc, hm, _⟩
 ·cases e
 ·injection hv with e1 _ e3
  injection e1 with e1
  injection e1 with e1 _ _
  subst e1 e3;exact ⟨hc, by unfold maxLen at hm; omega, hl.1, hl.2, cur, hg⟩
theorem own_other8 {w w' : World} {base A n c sz g : Nat} {t : TypeId} {xs : List Value} (h : w.ownsRow base t sz (.slice (some ⟨A, 0, none⟩) n c) n xs) (hg : w.grownBy w' (some g)) (hne : A ≠ g) : w'.ownsRow base t sz (.slice (some ⟨A, 0, none⟩) n c) n xs :=
 h.kept hg (.inr (fun e => hne (Option.some.inj e)))
theorem ow_own8 {w : World} {base A n c sz g cap : Nat} {t : TypeId} {xs : List Value} {zs : List Int} (h : w.ownsRow base t sz (.slice (some ⟨A, 0, none⟩) n c) n xs) (ht : 5 ≠ t) (ho : Ow w g cap zs) : g ≠ A := by
 obtain ⟨cur, hc⟩ := ho.blk;intro e;exact own_ne h hc ht (by rw [e]; rfl)
structure It8 (w : World) (base A c n i : Nat) (gk gv : Nat → Nat × Nat) (xs : List Value) (L : List It) : Prop where
 own : w.ownsRow base 62 4 (.slice (some ⟨A, 0, none⟩) (n + 1) c) (n + 1) xs
 nl : L.length = n
 ni : i ≤ n
 sf : ∀ j, j < n → xs[j * 4 + 2]? = some (.int .i64 (L.getD j it0).size) ∧ xs[j * 4 + 3]? = some (.int .i64 (L.getD j it0).first)
 kv : ∀ j, j < i → xs[j * 4]? = some (.slice (some ⟨(gk j).1, 0, none⟩) (L.getD j it0).key.length (gk j).2) ∧ xs[j * 4 + 1]? = some (.slice (some ⟨(gv j).1, 0, none⟩) (L.getD j it0).val.length (gv j).2)
 last : xs[n * 4 + 2]? = some (.int .i64 201)
 ko : ∀ j, j < i → Ow w (gk j).1 (gk j).2 ((L.getD j it0).key ++ [201]) ∧ Ow w (gv j).1 (gv j).2 ((L.getD j it0).val ++ [201])
 lo : ∀ j, j < i → base ≤ (gk j).1 ∧ (gk j).1 < (gv j).1
 up : ∀ a b, a < b → b < i → (gv a).1 < (gk b).1
theorem It8.kept {w w' : World} {base A c n i : Nat} {gk gv : Nat → Nat × Nat} {xs : List Value} {L : List It} {row : Option Nat} (h : It8 w base A c n i gk gv xs L) (hg : w.grownBy w' row) (hA : row ≠ some A) (hne : ∀ j, j < i → row ≠ some (gk j).1 ∧ row ≠ some (gv j).1) : It8 w' base A c n i gk gv xs L :=
 ⟨h.own.kept hg (.inr (fun e => hA e.symm)), h.nl, h.ni, h.sf, h.kv, h.last, fun j hj => ⟨(h.ko j hj).1.kept hg (fun e => (hne j hj).1 e.symm), (h.ko j hj).2.kept hg (fun e => (hne j hj).2 e.symm)⟩, h.lo, h.up⟩
theorem It8.keptN {w w' : World} {base A c n i : Nat} {gk gv : Nat → Nat × Nat} {xs : List Value} {L : List It} (h : It8 w base A c n i gk gv xs L) (hg : w.grownBy w' none) : It8 w' base A c n i gk gv xs L := h.kept hg (by simp) (fun _ _ => ⟨by simp, by simp⟩)
theorem It8.other {w w' : World} {base A c n i g : Nat} {gk gv : Nat → Nat × Nat} {xs : List Value} {L : List It} {cur : Array Value} {t : TypeId} (h : It8 w base A c n i gk gv xs L) (hg : w.grownBy w' (some g)) (hc : w.heap[g]? = some (.cells cur t (0, 0))) (h1 : t ≠ 62) (h2 : t ≠ 5) : It8 w' base A c n i gk gv xs L := by
 refine h.kept hg (fun e => ?_) (fun j hj => ⟨fun e => ?_, fun e => ?_⟩)
 ·exact own_ne h.own hc h1 e
 ·obtain ⟨cur', hc'⟩ := (h.ko j hj).1.blk
  rw [← Option.some.inj e, hc] at hc';injection hc' with hc'; injection hc' with _ hc' _; exact h2 hc'
 ·obtain ⟨cur', hc'⟩ := (h.ko j hj).2.blk
  rw [← Option.some.inj e, hc] at hc';injection hc' with hc'; injection hc' with _ hc' _; exact h2 hc'
theorem It8.cells {w : World} {base A c n i : Nat} {gk gv : Nat → Nat × Nat} {xs : List Value} {L : List It} (h : It8 w base A c n i gk gv xs L) (j : Nat) (hj : j < i) :
  w.cell? ⟨A, j * 4, none⟩ = some (.slice (some ⟨(gk j).1, 0, none⟩) (L.getD j it0).key.length (gk j).2) ∧ w.cell? ⟨A, j * 4 + 1, none⟩ = some (.slice (some ⟨(gv j).1, 0, none⟩) (L.getD j it0).val.length (gv j).2) ∧
  w.cell? ⟨A, j * 4 + 2, none⟩ = some (.int .i64 (L.getD j it0).size) ∧ w.cell? ⟨A, j * 4 + 3, none⟩ = some (.int .i64 (L.getD j it0).first) := by
 have hn := h.ni;refine ⟨?_, ?_, ?_, ?_⟩
 ·rw [h.own.cellAt _ (by omega)]; exact (h.kv j hj).1
 ·rw [h.own.cellAt _ (by omega)]; exact (h.kv j hj).2
 ·rw [h.own.cellAt _ (by omega)]; exact (h.sf j (by omega)).1
 ·rw [h.own.cellAt _ (by omega)]; exact (h.sf j (by omega)).2
theorem It8.lastc {w : World} {base A c n i : Nat} {gk gv : Nat → Nat × Nat} {xs : List Value} {L : List It} (h : It8 w base A c n i gk gv xs L) : w.cell? ⟨A, n * 4 + 2, none⟩ = some (.int .i64 201) := by
 rw [h.own.cellAt _ (by omega)]; exact h.last
theorem It8.old {w : World} {base A c n i : Nat} {gk gv : Nat → Nat × Nat} {xs : List Value} {L : List It} (h : It8 w base A c n i gk gv xs L) (k : Nat) (hk : k < n * 4) : ∃ v, w.cell? ⟨A, k, none⟩ = some v := by
 have hl := h.own.1;rw [h.own.cellAt _ (by omega), List.getElem?_eq_getElem (by omega)];exact ⟨_, rfl⟩
theorem It8.il {w : World} {base A c n : Nat} {gk gv : Nat → Nat × Nat} {xs : List Value} {L : List It} (h : It8 w base A c n n gk gv xs L) : Il w (some ⟨A, 0, none⟩) L := by
 refine ⟨fun j hj => ?_⟩;have hj' : j < n := by have := h.nl; omega
 obtain ⟨a1, a2, a3, a4⟩ := h.cells j hj';obtain ⟨k1, k2⟩ := h.ko j hj';have l1 := k1.le;have l2 := k2.le;have m1 := k1.max;have m2 := k2.max;rw [List.length_append] at l1 l2;exact ⟨A, 0, _, _, _, _, _, _, rfl, by rw [Nat.zero_add]; exact a1, by rw [Nat.zero_add]; exact a2, by rw [Nat.zero_add]; exact a3, by rw [Nat.zero_add]; exact a4, ow_part k1 _ rfl, by omega, by omega, ow_part k2 _ rfl, by omega, by omega⟩
theorem It8.key {w : World} {base A c n i g1 c1 : Nat} {gk gv : Nat → Nat × Nat} {xs : List Value} {L : List It} {zs : List Int} (h : It8 w base A c n i gk gv xs L) (hi : i < n) (ho : Ow w g1 c1 zs) (v : Value) :
  It8 (w.setCell ⟨A, i * 4, none⟩ v) base A c n i gk gv (xs.set (i * 4) v) L ∧ (w.setCell ⟨A, i * 4, none⟩ v).cell? ⟨A, i * 4, none⟩ = some v ∧ Ow (w.setCell ⟨A, i * 4, none⟩ v) g1 c1 zs ∧ w.grownBy (w.setCell ⟨A, i * 4, none⟩ v) (some A) := by
 obtain ⟨s1, s2⟩ := h.own.stored (i * 4) v;have hl := h.own.1;have hni := h.ni;have ne : ∀ j k, k < 4 → (j ≠ i ∨ k ≠ 0) → (xs.set (i * 4) v)[j * 4 + k]? = xs[j * 4 + k]? := fun j k hk hjk => List.getElem?_set_ne (by omega)
 refine ⟨⟨s1, h.nl, h.ni, fun j hj => ?_, fun j hj => ?_, ?_, fun j hj => ?_, h.lo, h.up⟩, ?_, ho.kept s2 (fun e => ow_own8 h.own (by decide) ho (Option.some.inj e)), s2⟩
 ·rw [ne j 2 (by omega) (by omega), ne j 3 (by omega) (by omega)]; exact h.sf j hj
 ·have := ne j 0 (by omega) (by omega)
  rw [Nat.add_zero] at this;rw [this, ne j 1 (by omega) (by omega)]; exact h.kv j hj
 ·rw [ne n 2 (by omega) (by omega)]; exact h.last
 ·exact ⟨(h.ko j hj).1.kept s2 (fun e => ow_own8 h.own (by decide) (h.ko j hj).1 (Option.some.inj e)), (h.ko j hj).2.kept s2 (fun e => ow_own8 h.own (by decide) (h.ko j hj).2 (Option.some.inj e))⟩
 ·rw [s1.cellAt _ (by omega)]; exact List.getElem?_set_self (by omega)
theorem It8.val {w : World} {base A c n i g1 c1 g2 c2 k m : Nat} {gk gv : Nat → Nat × Nat} {xs : List Value} {L : List It} (h : It8 w base A c n i gk gv xs L) (hi : i < n) (h1 : Ow w g1 c1 ((L.getD i it0).key ++ [201])) (h2 : Ow w g2 c2 ((L.getD i it0).val ++ [201])) (hc : w.cell? ⟨A, i * 4, none⟩ = some (.slice (some ⟨g1, 0, none⟩) k c1))
  (hk : (L.getD i it0).key.length = k) (hm : (L.getD i it0).val.length = m) (hb : base ≤ g1) (hlt : g1 < g2) (hup : ∀ j, j < i → (gv j).1 < g1) :
  It8 (w.setCell ⟨A, i * 4 + 1, none⟩ (.slice (some ⟨g2, 0, none⟩) m c2)) base A c n (i + 1) (fun j => if j = i then (g1, c1) else gk j) (fun j => if j = i then (g2, c2) else gv j) (xs.set (i * 4 + 1) (.slice (some ⟨g2, 0, none⟩) m c2)) L ∧ w.grownBy (w.setCell ⟨A, i * 4 + 1, none⟩ (.slice (some ⟨g2, 0, none⟩) m c2)) (some A) := by
 obtain ⟨s1, s2⟩ := h.own.stored (i * 4 + 1) (.slice (some ⟨g2, 0, none⟩) m c2);have hl := h.own.1;have hni := h.ni;have kp : ∀ {g cap : Nat} {zs : List Int}, Ow w g cap zs → Ow (w.setCell ⟨A, i * 4 + 1, none⟩ (.slice (some ⟨g2, 0, none⟩) m c2)) g cap zs := fun ho => ho.kept s2 (fun e => ow_own8 h.own (by decide) ho (Option.some.inj e))
 have ne : ∀ j k', k' < 4 → (j ≠ i ∨ k' ≠ 1) → (xs.set (i * 4 + 1) (.slice (some ⟨g2, 0, none⟩) m c2))[j * 4 + k']? = xs[j * 4 + k']? := fun j k' hk hjk => List.getElem?_set_ne (by omega)
 have ne0 : ∀ j, (xs.set (i * 4 + 1) (.slice (some ⟨g2, 0, none⟩) m c2))[j * 4]? = xs[j * 4]? := fun j => List.getElem?_set_ne (by omega)
 refine ⟨⟨s1, h.nl, by omega, fun j hj => ?_, fun j hj => ?_, ?_, fun j hj => ?_, fun j hj => ?_, fun a b hab hbi => ?_⟩, s2⟩
 ·rw [ne j 2 (by omega) (by omega), ne j 3 (by omega) (by omega)]; exact h.sf j hj
 ·by_cases e : j = i
  ·subst e
   simp only [if_pos, hk, hm];refine ⟨?_, List.getElem?_set_self (by omega)⟩;rw [ne0 j, ← h.own.cellAt _ (by omega)];exact hc
  ·simp only [if_neg e]
   rw [ne0 j, ne j 1 (by omega) (by omega)];exact h.kv j (by omega)
 ·rw [ne n 2 (by omega) (by omega)]; exact h.last
 ·by_cases e : j = i
  ·subst e; simp only [if_pos]; exact ⟨kp h1, kp h2⟩
  ·simp only [if_neg e]; exact ⟨kp (h.ko j (by omega)).1, kp (h.ko j (by omega)).2⟩
 ·by_cases e : j = i
  ·subst e; simp only [if_pos]; exact ⟨hb, hlt⟩
  ·simp only [if_neg e]; exact h.lo j (by omega)
 ·have ea : a ≠ i := by omega
  simp only [if_neg ea]
  by_cases e : b = i
  ·subst e; simp only [if_pos]; exact hup a hab
  ·simp only [if_neg e]; exact h.up a b hab (by omega)
theorem It8.ne {w : World} {base A c n i : Nat} {gk gv : Nat → Nat × Nat} {xs : List Value} {L : List It} (h : It8 w base A c n i gk gv xs L) {a b : Nat} (ha : a < i) (hb : b < i) : (a ≠ b → (gk a).1 ≠ (gk b).1 ∧ (gv a).1 ≠ (gv b).1) ∧ (gk a).1 ≠ (gv b).1 := by
 have l1 := h.lo a ha;have l2 := h.lo b hb;rcases Nat.lt_trichotomy a b with e | rfl | e
 ·have := h.up a b e hb
  exact ⟨fun _ => ⟨by omega, by omega⟩, by omega⟩
 ·exact ⟨fun e => absurd rfl e, by omega⟩
 ·have := h.up b a e ha
  exact ⟨fun _ => ⟨by omega, by omega⟩, by omega⟩
theorem It8.setKey {w w' : World} {base A c n : Nat} {gk gv : Nat → Nat × Nat} {xs : List Value} {L : List It} (h : It8 w base A c n n gk gv xs L) (i : Nat) (hi : i < n) (key : List Int) (hk : key.length = (L.getD i it0).key.length) (hg : w.grownBy w' (some (gk i).1)) (ho : Ow w' (gk i).1 (gk i).2 (key ++ [201])) :
  It8 w' base A c n n gk gv xs (L.set i ⟨key, (L.getD i it0).val, (L.getD i it0).size, (L.getD i it0).first⟩) := by
 have hL : i < L.length := by rw [h.nl]; exact hi
 have same : (L.set i ⟨key, (L.getD i it0).val, (L.getD i it0).size, (L.getD i it0).first⟩).getD i it0 = ⟨key, (L.getD i it0).val, (L.getD i it0).size, (L.getD i it0).first⟩ := by simp only [List.getD, List.getElem?_set_self hL, Option.getD_some]
 have other : ∀ j, j ≠ i → (L.set i ⟨key, (L.getD i it0).val, (L.getD i it0).size, (L.getD i it0).first⟩).getD j it0 = L.getD j it0 := fun j hj => by simp only [List.getD]; rw [List.getElem?_set_ne (fun e => hj e.symm)]
 refine ⟨own_other8 h.own hg (fun e => ow_own8 h.own (by decide) (h.ko i hi).1 e.symm), by rw [List.length_set]; exact h.nl, Nat.le_refl _, fun j hj => ?_, fun j hj => ?_, h.last, fun j hj => ?_, h.lo, h.up⟩
 ·by_cases e : j = i
  ·subst e; rw [same]; exact h.sf j hj
  ·rw [other j e]; exact h.sf j hj
 ·by_cases e : j = i
  ·subst e; rw [same]; simp only; rw [hk]; exact h.kv j hj
  ·rw [other j e]; exact h.kv j hj
 ·by_cases e : j = i
  ·subst e; rw [same]
   exact ⟨ho, (h.ko j hj).2.kept hg (fun e => (h.ne hj hj).2 (Option.some.inj e).symm)⟩
  ·rw [other j e]
   exact ⟨(h.ko j hj).1.kept hg (fun e2 => ((h.ne hj hi).1 e).1 (Option.some.inj e2)), (h.ko j hj).2.kept hg (fun e2 => (h.ne hi hj).2 (Option.some.inj e2).symm)⟩
theorem It8.setVal {w w' : World} {base A c n : Nat} {gk gv : Nat → Nat × Nat} {xs : List Value} {L : List It} (h : It8 w base A c n n gk gv xs L) (i : Nat) (hi : i < n) (val : List Int) (hk : val.length = (L.getD i it0).val.length) (hg : w.grownBy w' (some (gv i).1)) (ho : Ow w' (gv i).1 (gv i).2 (val ++ [201])) :
  It8 w' base A c n n gk gv xs (L.set i ⟨(L.getD i it0).key, val, (L.getD i it0).size, (L.getD i it0).first⟩) := by
 have hL : i < L.length := by rw [h.nl]; exact hi
 have same : (L.set i ⟨(L.getD i it0).key, val, (L.getD i it0).size, (L.getD i it0).first⟩).getD i it0 = ⟨(L.getD i it0).key, val, (L.getD i it0).size, (L.getD i it0).first⟩ := by simp only [List.getD, List.getElem?_set_self hL, Option.getD_some]
 have other : ∀ j, j ≠ i → (L.set i ⟨(L.getD i it0).key, val, (L.getD i it0).size, (L.getD i it0).first⟩).getD j it0 = L.getD j it0 := fun j hj => by simp only [List.getD]; rw [List.getElem?_set_ne (fun e => hj e.symm)]
 refine ⟨own_other8 h.own hg (fun e => ow_own8 h.own (by decide) (h.ko i hi).2 e.symm), by rw [List.length_set]; exact h.nl, Nat.le_refl _, fun j hj => ?_, fun j hj => ?_, h.last, fun j hj => ?_, h.lo, h.up⟩
 ·by_cases e : j = i
  ·subst e; rw [same]; exact h.sf j hj
  ·rw [other j e]; exact h.sf j hj
 ·by_cases e : j = i
  ·subst e; rw [same]; simp only; rw [hk]; exact h.kv j hj
  ·rw [other j e]; exact h.kv j hj
 ·by_cases e : j = i
  ·subst e; rw [same]
   exact ⟨(h.ko j hj).1.kept hg (fun e => (h.ne hj hj).2 (Option.some.inj e)), ho⟩
  ·rw [other j e]
   exact ⟨(h.ko j hj).1.kept hg (fun e2 => (h.ne hj hi).2 (Option.some.inj e2)), (h.ko j hj).2.kept hg (fun e2 => ((h.ne hj hi).1 e).2 (Option.some.inj e2))⟩
structure Sp8 (w : World) (base A c n i h : Nat) (gs : Nat → Nat × Nat) (xs : List Value) (L : List (List Int)) : Prop where
 own : w.ownsRow base 25 1 (.slice (some ⟨A, 0, none⟩) (n + 1) c) (n + 1) xs
 nl : L.length = n
 ni : i ≤ n
 el : ∀ j, j < i → xs[j]? = some (.slice (some ⟨(gs j).1, 0, none⟩) (L.getD j []).length (gs j).2)
 last : xs[n]? = some (.slice (some ⟨h, 0, none⟩) 1 1)
 ho : Ow w h 1 [201]
 hb : base ≤ h
 ko : ∀ j, j < i → Ow w (gs j).1 (gs j).2 (L.getD j [] ++ [201])
 lo : ∀ j, j < i → h < (gs j).1
 up : ∀ a b, a < b → b < i → (gs a).1 < (gs b).1
theorem Sp8.kept {w w' : World} {base A c n i h : Nat} {gs : Nat → Nat × Nat} {xs : List Value} {L : List (List Int)} {row : Option Nat} (k : Sp8 w base A c n i h gs xs L) (hg : w.grownBy w' row) (hA : row ≠ some A) (hh : row ≠ some h) (hne : ∀ j, j < i → row ≠ some (gs j).1) : Sp8 w' base A c n i h gs xs L :=
 ⟨k.own.kept hg (.inr (fun e => hA e.symm)), k.nl, k.ni, k.el, k.last, k.ho.kept hg (fun e => hh e.symm), k.hb, fun j hj => (k.ko j hj).kept hg (fun e => hne j hj e.symm), k.lo, k.up⟩
theorem Sp8.keptN {w w' : World} {base A c n i h : Nat} {gs : Nat → Nat × Nat} {xs : List Value} {L : List (List Int)} (k : Sp8 w base A c n i h gs xs L) (hg : w.grownBy w' none) : Sp8 w' base A c n i h gs xs L := k.kept hg (by simp) (by simp) (fun _ _ => by simp)
theorem Sp8.other {w w' : World} {base A c n i h g : Nat} {gs : Nat → Nat × Nat} {xs : List Value} {L : List (List Int)} {cur : Array Value} {t : TypeId} (k : Sp8 w base A c n i h gs xs L) (hg : w.grownBy w' (some g)) (hc : w.heap[g]? = some (.cells cur t (0, 0))) (h1 : t ≠ 25) (h2 : t ≠ 5) : Sp8 w' base A c n i h gs xs L := by
 have u8 : ∀ {q cap : Nat} {zs : List Int}, Ow w q cap zs → some g ≠ some q := fun ho e => by
  obtain ⟨cur', hc'⟩ := ho.blk;rw [← Option.some.inj e, hc] at hc';injection hc' with hc'; injection hc' with _ hc' _; exact h2 hc'
 exact k.kept hg (fun e => own_ne k.own hc h1 e) (u8 k.ho) (fun j hj => u8 (k.ko j hj))
theorem Sp8.cell {w : World} {base A c n i h : Nat} {gs : Nat → Nat × Nat} {xs : List Value} {L : List (List Int)} (k : Sp8 w base A c n i h gs xs L) (j : Nat) (hj : j < i) : w.cell? ⟨A, j, none⟩ = some (.slice (some ⟨(gs j).1, 0, none⟩) (L.getD j []).length (gs j).2) := by
 have := k.ni;rw [k.own.cellAt _ (by omega)]; exact k.el j hj
theorem Sp8.lastc {w : World} {base A c n i h : Nat} {gs : Nat → Nat × Nat} {xs : List Value} {L : List (List Int)} (k : Sp8 w base A c n i h gs xs L) : w.cell? ⟨A, n, none⟩ = some (.slice (some ⟨h, 0, none⟩) 1 1) := by
 rw [k.own.cellAt _ (by omega)]; exact k.last
theorem Sp8.old {w : World} {base A c n i h : Nat} {gs : Nat → Nat × Nat} {xs : List Value} {L : List (List Int)} (k : Sp8 w base A c n i h gs xs L) (j : Nat) (hj : j < n) : ∃ v, w.cell? ⟨A, j, none⟩ = some v := by
 have hl := k.own.1;rw [k.own.cellAt _ (by omega), List.getElem?_eq_getElem (by omega)];exact ⟨_, rfl⟩
theorem Sp8.lz {w : World} {base A c n h : Nat} {gs : Nat → Nat × Nat} {xs : List Value} {L : List (List Int)} (k : Sp8 w base A c n n h gs xs L) : Lz w (some ⟨A, 0, none⟩) L := by
 refine ⟨fun j hj => ?_⟩;have hj' : j < n := by have := k.nl; omega
 have k1 := k.ko j hj';have l1 := k1.le;have m1 := k1.max;rw [List.length_append] at l1;exact ⟨A, 0, _, _, _, rfl, by rw [Nat.zero_add]; exact k.cell j hj', ow_byt k1 _ rfl, by omega, m1⟩
theorem Sp8.lay {w : World} {base A c n i h g1 c1 m : Nat} {gs : Nat → Nat × Nat} {xs : List Value} {L : List (List Int)} (k : Sp8 w base A c n i h gs xs L) (hi : i < n) (h1 : Ow w g1 c1 (L.getD i [] ++ [201])) (hm : (L.getD i []).length = m) (hb : h < g1) (hup : ∀ j, j < i → (gs j).1 < g1) :
  Sp8 (w.setCell ⟨A, i, none⟩ (.slice (some ⟨g1, 0, none⟩) m c1)) base A c n (i + 1) h (fun j => if j = i then (g1, c1) else gs j) (xs.set i (.slice (some ⟨g1, 0, none⟩) m c1)) L ∧ w.grownBy (w.setCell ⟨A, i, none⟩ (.slice (some ⟨g1, 0, none⟩) m c1)) (some A) := by
 obtain ⟨s1, s2⟩ := k.own.stored i (.slice (some ⟨g1, 0, none⟩) m c1);have hl := k.own.1;have hni := k.ni;have kp : ∀ {g cap : Nat} {zs : List Int}, Ow w g cap zs → Ow (w.setCell ⟨A, i, none⟩ (.slice (some ⟨g1, 0, none⟩) m c1)) g cap zs := fun ho => ho.kept s2 (fun e => ow_own8 k.own (by decide) ho (Option.some.inj e))
 have ne : ∀ j, j ≠ i → (xs.set i (.slice (some ⟨g1, 0, none⟩) m c1))[j]? = xs[j]? := fun j hj => List.getElem?_set_ne (fun e => hj e.symm)
 refine ⟨⟨s1, k.nl, by omega, fun j hj => ?_, ?_, kp k.ho, k.hb, fun j hj => ?_, fun j hj => ?_, fun a b hab hbi => ?_⟩, s2⟩
 ·by_cases e : j = i
  ·subst e
   simp only [if_pos, hm];exact List.getElem?_set_self (by omega)
  ·simp only [if_neg e]; rw [ne j e]; exact k.el j (by omega)
 ·rw [ne n (by omega)]; exact k.last
 ·by_cases e : j = i
  ·subst e; simp only [if_pos]; exact kp h1
  ·simp only [if_neg e]; exact kp (k.ko j (by omega))
 ·by_cases e : j = i
  ·subst e; simp only [if_pos]; exact hb
  ·simp only [if_neg e]; exact k.lo j (by omega)
 ·have ea : a ≠ i := by omega
  simp only [if_neg ea]
  by_cases e : b = i
  ·subst e; simp only [if_pos]; exact hup a hab
  ·simp only [if_neg e]; exact k.up a b hab (by omega)
theorem Sp8.set {w w' : World} {base A c n h : Nat} {gs : Nat → Nat × Nat} {xs : List Value} {L : List (List Int)} (k : Sp8 w base A c n n h gs xs L) (i : Nat) (hi : i < n) (key : List Int) (hk : key.length = (L.getD i []).length) (hg : w.grownBy w' (some (gs i).1)) (ho : Ow w' (gs i).1 (gs i).2 (key ++ [201])) :
  Sp8 w' base A c n n h gs xs (L.set i key) := by
 have hL : i < L.length := by rw [k.nl]; exact hi
 have same : (L.set i key).getD i [] = key := by simp only [List.getD, List.getElem?_set_self hL, Option.getD_some]
 have other : ∀ j, j ≠ i → (L.set i key).getD j [] = L.getD j [] := fun j hj => by simp only [List.getD]; rw [List.getElem?_set_ne (fun e => hj e.symm)]
 refine ⟨own_other8 k.own hg (fun e => ow_own8 k.own (by decide) (k.ko i hi) e.symm), by rw [List.length_set]; exact k.nl, Nat.le_refl _, fun j hj => ?_, k.last, k.ho.kept hg (fun e => by have := k.lo i hi; have := Option.some.inj e; omega), k.hb, fun j hj => ?_, k.lo, k.up⟩
 ·by_cases e : j = i
  ·subst e; rw [same, hk]; exact k.el j hj
  ·rw [other j e]; exact k.el j hj
 ·by_cases e : j = i
  ·subst e; rw [same]; exact ho
  ·rw [other j e]
   refine (k.ko j hj).kept hg (fun e2 => ?_);have e3 := Option.some.inj e2;rcases Nat.lt_or_gt_of_ne e with q | q
   ·have := k.up j i q hi; omega
   ·have := k.up i j q hj; omega
theorem own_base {w : World} {b b' sz n : Nat} {t : TypeId} {v : Value} {xs : List Value} (h : w.ownsRow b t sz v n xs) (hb : b' ≤ b) : w.ownsRow b' t sz v n xs := by
 refine ⟨h.1, ?_⟩;rcases h.2 with h1 | ⟨g, cap, cur, e, h2, h3⟩
 ·exact .inl h1
 ·exact .inr ⟨g, cap, cur, e, Nat.le_trans hb h2, h3⟩
structure Ls8 (w wr : World) (P U Q : Nat) (x y : Pv) : Prop where
 px : Px wr P x
 pu : Px wr U zV
 pq : Px wr Q y
 gr : w.grownBy wr none
 lt : w.heap.size ≤ P ∧ P < U ∧ U < Q
theorem Ls8.keptN {w wr w' : World} {P U Q : Nat} {x y : Pv} (h : Ls8 w wr P U Q x y) (hg : wr.grownBy w' none) : Ls8 w w' P U Q x y := ⟨h.px.keptN hg, h.pu.keptN hg, h.pq.keptN hg, gQ h.gr hg, h.lt⟩
theorem Ls8.set {w wr w' : World} {P U Q : Nat} {x y z : Pv} (h : Ls8 w wr P U Q x y) (hg : wr.grownBy w' (some Q)) (hz : Px w' Q z) : Ls8 w w' P U Q x z :=
 ⟨h.px.kept hg (fun e => by have := Option.some.inj e; have := h.lt; omega), h.pu.kept hg (fun e => by have := Option.some.inj e; have := h.lt; omega), hz, grown_new h.gr hg (by have := h.lt; omega), h.lt⟩
theorem Ls8.row {w wr w' : World} {P U Q : Nat} {x y : Pv} {b n sz : Nat} {t : TypeId} {v : Value} {xs : List Value} (h : Ls8 w wr P U Q x y) (ho : wr.ownsRow b t sz v n xs) (ht : 30 ≠ t) (hb : w.heap.size ≤ b) (hg : wr.grownBy w' v.ownBlock) : Ls8 w w' P U Q x y :=
 ⟨h.px.kept hg (own_ne ho h.px ht), h.pu.kept hg (own_ne ho h.pu ht), h.pq.kept hg (own_ne ho h.pq ht), grown_ownN h.gr hg (fun g e => Nat.le_trans hb (ho.lt g e).1), h.lt⟩
theorem It8.start {w w' : World} {b b2 A c n : Nat} {gk gv gk0 gv0 : Nat → Nat × Nat} {xs : List Value} {L : List It} (h : Lm w b [] [] gk0 gv0 xs L) (hn : L.length = n) (ho : w'.ownsRow b2 62 4 (.slice (some ⟨A, 0, none⟩) (n + 1) c) (n + 1) (xs ++ [.slice none 0 0, .slice none 0 0, .int .i64 201, .int .i64 0])) :
  It8 w' b2 A c n 0 gk gv (xs ++ [.slice none 0 0, .slice none 0 0, .int .i64 201, .int .i64 0]) L := by
 have hl := h.len;subst hn;refine ⟨ho, rfl, Nat.zero_le _, fun j hj => ?_, fun j hj => by omega, ?_, fun j hj => by omega, fun j hj => by omega, fun a b' _ hb' => by omega⟩
 ·obtain ⟨_, _, a3, a4⟩ := h.el j hj
  rw [List.getElem?_append_left (by omega), List.getElem?_append_left (by omega)];exact ⟨a3, a4⟩
 ·rw [List.getElem?_append_right (by omega), hl, Nat.add_sub_cancel_left]
  rfl
theorem Sp8.start {w : World} {b A c n h : Nat} {gs : Nat → Nat × Nat} {xs : List Value} {L : List (List Int)} (hl : xs.length = n) (hn : L.length = n) (ho : w.ownsRow b 25 1 (.slice (some ⟨A, 0, none⟩) (n + 1) c) (n + 1) (xs ++ [.slice (some ⟨h, 0, none⟩) 1 1])) (hw : Ow w h 1 [201]) (hb : b ≤ h) :
  Sp8 w b A c n 0 h gs (xs ++ [.slice (some ⟨h, 0, none⟩) 1 1]) L := by
 refine ⟨ho, hn, Nat.zero_le _, fun j hj => by omega, ?_, hw, hb, fun j hj => by omega, fun j hj => by omega, fun a b' _ hb' => by omega⟩;rw [List.getElem?_append_right (by omega), hl, Nat.sub_self]
 rfl
theorem lit201 (w : World) : Ow (w.alloc (.cells #[.int .u8 201] 5)) w.heap.size 1 [201] := ⟨⟨#[.int .u8 201], heap_alloc_new w _, rfl, fun j hj => by
 obtain rfl : j = 0 := by simp at hj; omega
 rfl⟩, by simp, by omega⟩
structure Bk8 where
 A : Nat
 c : Nat
 gk : Nat → Nat × Nat
 gv : Nat → Nat × Nat
 xs : List Value
 B : Nat
 d : Nat
 h : Nat
 gs : Nat → Nat × Nat
 ys : List Value
 K : Nat
 e : Nat
 D : Nat
 f : Nat
 T : Nat
 t : Nat
 m1 : Nat
 m2 : Nat
structure Lt8 (w : World) (base : Nat) (y : Pv) (p : Pg) (b : Bk8) : Prop where
 kind : y.k = p.kind
 level : y.l = p.level
 next : y.x = p.next
 head : y.h = p.head
 yi : y.i = ⟨some ⟨b.A, 0, none⟩, p.items.length, b.c⟩
 it : It8 w base b.A b.c p.items.length p.items.length b.gk b.gv b.xs p.items
 ib : Ib p.items
 im : ∀ j, j < p.items.length → (b.gv j).1 < b.m1
 ys : y.s = ⟨some ⟨b.B, 0, none⟩, p.seps.length, b.d⟩
 sp : Sp8 w b.m1 b.B b.d p.seps.length p.seps.length b.h b.gs b.ys p.seps
 sb : Lb p.seps
 bm : base ≤ b.m1
 sm : b.h < b.m2 ∧ ∀ j, j < p.seps.length → (b.gs j).1 < b.m2
 yd : y.d = ⟨some ⟨b.K, 0, none⟩, p.kids.length, b.e⟩
 kd : w.ownsRow base 67 2 (.slice (some ⟨b.K, 0, none⟩) (p.kids.length + 1) b.e) (p.kids.length + 1) (kc p.kids ++ [.int .i64 201, .int .i64 0])
 yb : y.b = ⟨some ⟨b.D, 0, none⟩, p.data.length, b.f⟩
 da : Ow w b.D b.f (p.data ++ [201])
 db : Bt p.data
 dm : b.m2 ≤ b.D
 mm : b.m1 ≤ b.m2
 yt : y.t = ⟨some ⟨b.T, 0, none⟩, p.list.length, b.t⟩
 li : w.ownsRow base 3 1 (.slice (some ⟨b.T, 0, none⟩) (p.list.length + 1) b.t) (p.list.length + 1) ((p.list ++ [201]).map (Value.int .i64))
theorem Lt8.keptN {w w' : World} {base : Nat} {y : Pv} {p : Pg} {b : Bk8} (h : Lt8 w base y p b) (hg : w.grownBy w' none) : Lt8 w' base y p b :=
 ⟨h.kind, h.level, h.next, h.head, h.yi, h.it.keptN hg, h.ib, h.im, h.ys, h.sp.keptN hg, h.sb, h.bm, h.sm, h.yd, own_kept5 h.kd hg, h.yb, h.da.keptN hg, h.db, h.dm, h.mm, h.yt, own_kept5 h.li hg⟩
theorem own_kl8 {w : World} {base K e : Nat} {L : List Kd} {ys : List Value} {N : Nat} (h : w.ownsRow base 67 2 (.slice (some ⟨K, 0, none⟩) N e) N (kc L ++ ys)) : Kl w (some ⟨K, 0, none⟩) L := by
 refine ⟨fun i hi => ?_⟩;have hl := h.1;have hk := kc_len L;rw [List.length_append, hk] at hl;obtain ⟨a1, a2⟩ := kc_get L i hi;refine ⟨K, 0, rfl, ?_, ?_⟩
 ·rw [Nat.zero_add, h.cellAt _ (by omega), List.getElem?_append_left (by omega)]; exact a1
 ·rw [Nat.zero_add, h.cellAt _ (by omega), List.getElem?_append_left (by omega)]; exact a2
theorem own_nt8 {w : World} {base T t : Nat} {L ys : List Int} {N : Nat} (h : w.ownsRow base 3 1 (.slice (some ⟨T, 0, none⟩) N t) N ((L ++ ys).map (Value.int .i64))) : Nt w (some ⟨T, 0, none⟩) L := by
 refine ⟨fun i hi => ?_⟩;have hl := h.1;rw [List.length_map, List.length_append] at hl;refine ⟨T, 0, rfl, ?_⟩;rw [Nat.zero_add, h.cellAt _ (by omega), List.getElem?_map, List.getElem?_append_left hi];simp [List.getD, List.getElem?_eq_getElem hi]
theorem Lt8.pm {w : World} {base : Nat} {y : Pv} {p : Pg} {b : Bk8} (h : Lt8 w base y p b) : Pm w y p ∧ Pr8 y := by
 have c1 := own_cap8 h.it.own;have c2 := own_cap8 h.sp.own;have c3 := own_cap8 h.kd;have c4 := h.da.le;have c4' := h.da.max;have c5 := own_cap8 h.li;rw [List.length_append] at c4;simp only [List.length_singleton] at c4
 refine ⟨⟨h.kind, h.level, h.next, h.head, by rw [h.yi]; exact h.it.il, h.ib, by rw [h.yi], by rw [h.yi]; show p.items.length ≤ _; omega, by rw [h.ys]; exact h.sp.lz, h.sb, by rw [h.ys], by rw [h.ys]; show p.seps.length ≤ _; omega,
  by rw [h.yd]; exact own_kl8 h.kd, by rw [h.yd], by rw [h.yd]; show p.kids.length ≤ _; omega, by rw [h.yb]; exact ow_part h.da _ rfl, h.db, by rw [h.yb]; show p.data.length ≤ _; omega, by rw [h.yt]; exact own_nt8 h.li, by rw [h.yt], by rw [h.yt]; show p.list.length ≤ _; omega⟩, ?_⟩
 refine ⟨?_, ?_, ?_, ?_, ?_⟩
 ·rw [h.yi]; exact ⟨by show p.items.length ≤ b.c; omega, by show b.c ≤ _; omega⟩
 ·rw [h.ys]; exact ⟨by show p.seps.length ≤ b.d; omega, by show b.d ≤ _; omega⟩
 ·rw [h.yd]; exact ⟨by show p.kids.length ≤ b.e; omega, by show b.e ≤ _; omega⟩
 ·rw [h.yb]; exact ⟨by show p.data.length ≤ b.f; omega, by show b.f ≤ _; omega⟩
 ·rw [h.yt]; exact ⟨by show p.list.length ≤ b.t; omega, by show b.t ≤ _; omega⟩
theorem It8.row {w w' : World} {base A c n i : Nat} {gk gv : Nat → Nat × Nat} {xs ys : List Value} {L : List It} {b m sz : Nat} {t : TypeId} {v : Value} (h : It8 w base A c n i gk gv xs L) (ho : w.ownsRow b t sz v m ys) (h1 : 62 ≠ t) (h2 : 5 ≠ t) (hg : w.grownBy w' v.ownBlock) : It8 w' base A c n i gk gv xs L := by
 obtain ⟨_, _, _, _, cur, hc⟩ := own_cap8 h.own;refine h.kept hg (fun e => own_ne ho hc h1 e.symm) (fun j hj => ⟨fun e => ?_, fun e => ?_⟩)
 ·obtain ⟨cur', hc'⟩ := (h.ko j hj).1.blk
  exact own_ne ho hc' h2 e.symm
 ·obtain ⟨cur', hc'⟩ := (h.ko j hj).2.blk
  exact own_ne ho hc' h2 e.symm
theorem Sp8.row {w w' : World} {base A c n i h : Nat} {gs : Nat → Nat × Nat} {xs ys : List Value} {L : List (List Int)} {b m sz : Nat} {t : TypeId} {v : Value} (k : Sp8 w base A c n i h gs xs L) (ho : w.ownsRow b t sz v m ys) (h1 : 25 ≠ t) (h2 : 5 ≠ t) (hg : w.grownBy w' v.ownBlock) : Sp8 w' base A c n i h gs xs L := by
 obtain ⟨_, _, _, _, cur, hc⟩ := own_cap8 k.own;refine k.kept hg (fun e => own_ne ho hc h1 e.symm) (fun e => ?_) (fun j hj e => ?_)
 ·obtain ⟨cur', hc'⟩ := k.ho.blk
  exact own_ne ho hc' h2 e.symm
 ·obtain ⟨cur', hc'⟩ := (k.ko j hj).blk
  exact own_ne ho hc' h2 e.symm
theorem Ow.row8 {w w' : World} {g cap b m sz : Nat} {zs : List Int} {ys : List Value} {t : TypeId} {v : Value} (h : Ow w g cap zs) (ho : w.ownsRow b t sz v m ys) (h2 : 5 ≠ t) (hg : w.grownBy w' v.ownBlock) : Ow w' g cap zs := by
 obtain ⟨cur, hc⟩ := h.blk;exact h.kept hg (own_ne ho hc h2)
theorem own_row8 {w w' : World} {base A c n sz b m sz2 : Nat} {t t2 : TypeId} {xs ys : List Value} {v : Value} (h : w.ownsRow base t sz (.slice (some ⟨A, 0, none⟩) n c) n xs) (ho : w.ownsRow b t2 sz2 v m ys) (ht : t ≠ t2) (hg : w.grownBy w' v.ownBlock) : w'.ownsRow base t sz (.slice (some ⟨A, 0, none⟩) n c) n xs := by
 obtain ⟨_, _, _, _, cur, hc⟩ := own_cap8 h;exact h.kept hg (.inr (own_ne ho hc ht))
theorem Ow.box8 {w w' : World} {g cap Q : Nat} {zs : List Int} {y : Pv} (h : Ow w g cap zs) (hx : Px w Q y) (hg : w.grownBy w' (some Q)) : Ow w' g cap zs := by
 obtain ⟨cur, hc⟩ := h.blk;exact h.kept hg (fun e => hx.other hc (by decide) (Option.some.inj e))
theorem own_box8 {w w' : World} {base A c n sz Q : Nat} {t : TypeId} {xs : List Value} {y : Pv} (h : w.ownsRow base t sz (.slice (some ⟨A, 0, none⟩) n c) n xs) (hx : Px w Q y) (ht : t ≠ 30) (hg : w.grownBy w' (some Q)) : w'.ownsRow base t sz (.slice (some ⟨A, 0, none⟩) n c) n xs := by
 obtain ⟨_, _, _, _, cur, hc⟩ := own_cap8 h;exact own_other8 h hg (hx.other hc ht)
def hasV (x : Pv) : Pv :=
 if x.k = 1 then ⟨x.k, x.i, 0, nS, nS, 0, nS, nS, zH⟩ else if x.k = 2 then ⟨x.k, nS, x.l, x.s, x.d, 0, nS, nS, zH⟩
 else if x.k = 3 then ⟨x.k, nS, 0, nS, nS, x.x, x.b, nS, zH⟩ else if x.k = 4 then ⟨x.k, nS, 0, nS, nS, x.x, nS, x.t, zH⟩ else ⟨x.k, nS, 0, nS, nS, 0, nS, nS, x.h⟩
theorem lb_nil : Lb [] := fun s hs => by cases hs
theorem ib_nil : Ib [] := fun s hs => by cases hs
theorem Pm.has {w : World} {x : Pv} {p : Pg} (h : Pm w x p) : Pm w (hasV x) (hasP p) := by
 have hk := h.kind;unfold hasV hasP;rw [← hk]
 by_cases h1 : x.k = 1
 ·rw [if_pos h1, if_pos h1]
  exact ⟨rfl, rfl, rfl, rfl, h.items, h.ib, h.il, h.ic, Lz.zero _ _, lb_nil, rfl, (by show 0 ≤ _; omega), Kl.zero _ _, rfl, (by show 0 ≤ _; omega), Byt.empty _, Bt.nil, (by show 0 ≤ _; omega), Nt.zero _ _, rfl, (by show 0 ≤ _; omega)⟩
 ·rw [if_neg h1, if_neg h1]
  by_cases h2 : x.k = 2
  ·rw [if_pos h2, if_pos h2]
   exact ⟨rfl, h.level, rfl, rfl, Il.zero _ _, ib_nil, rfl, (by show 0 ≤ _; omega), h.seps, h.sb, h.sl, h.sc, h.kids, h.kl, h.kc, Byt.empty _, Bt.nil, (by show 0 ≤ _; omega), Nt.zero _ _, rfl, (by show 0 ≤ _; omega)⟩
  ·rw [if_neg h2, if_neg h2]
   by_cases h3 : x.k = 3
   ·rw [if_pos h3, if_pos h3]
    exact ⟨rfl, rfl, h.next, rfl, Il.zero _ _, ib_nil, rfl, (by show 0 ≤ _; omega), Lz.zero _ _, lb_nil, rfl, (by show 0 ≤ _; omega), Kl.zero _ _, rfl, (by show 0 ≤ _; omega), h.data, h.db, h.dc, Nt.zero _ _, rfl, (by show 0 ≤ _; omega)⟩
   ·rw [if_neg h3, if_neg h3]
    by_cases h4 : x.k = 4
    ·rw [if_pos h4, if_pos h4]
     exact ⟨rfl, rfl, h.next, rfl, Il.zero _ _, ib_nil, rfl, (by show 0 ≤ _; omega), Lz.zero _ _, lb_nil, rfl, (by show 0 ≤ _; omega), Kl.zero _ _, rfl, (by show 0 ≤ _; omega), Byt.empty _, Bt.nil, (by show 0 ≤ _; omega), h.list, h.tl, h.tc⟩
    ·rw [if_neg h4, if_neg h4]
     exact ⟨rfl, rfl, rfl, h.head, Il.zero _ _, ib_nil, rfl, (by show 0 ≤ _; omega), Lz.zero _ _, lb_nil, rfl, (by show 0 ≤ _; omega), Kl.zero _ _, rfl, (by show 0 ≤ _; omega), Byt.empty _, Bt.nil, (by show 0 ≤ _; omega), Nt.zero _ _, rfl, (by show 0 ≤ _; omega)⟩
theorem has_any (x : Pv) (w : World) : Calls Tryz.prog 37 #[.agg #[.int .i64 x.k, .slice x.i.a x.i.n x.i.c, .int .i64 x.l, .slice x.s.a x.s.n x.s.c, .slice x.d.a x.d.n x.d.c, .int .i64 x.x, .slice x.b.a x.b.n x.b.c, .slice x.t.a x.t.n x.t.c, .int .i64 x.h.v, .int .i64 x.h.c, .int .i64 x.h.r, .int .i64 x.h.h, .int .i64 x.h.k, .int .i64 x.h.f, .int .i64 x.h.n]] w fun en w' => (∃ y, en = .returned (.agg #[.int .i64 y.k, .slice y.i.a y.i.n y.i.c, .int .i64 y.l, .slice y.s.a y.s.n y.s.c, .slice y.d.a y.d.n y.d.c, .int .i64 y.x, .slice y.b.a y.b.n y.b.c, .slice y.t.a y.t.n y.t.c, .int .i64 y.h.v, .int .i64 y.h.c, .int .i64 y.h.r, .int .i64 y.h.h, .int .i64 y.h.k, .int .i64 y.h.f, .int .i64 y.h.n]) ∧ y = hasV x) ∧ w.grownBy w' none := by
 by_cases h1 : x.k = 1
 ·have e : Hid (hasV x = ⟨x.k, x.i, 0, nS, nS, 0, nS, nS, zH⟩) := by show _ = _; unfold hasV; rw [if_pos h1]
  have k1 : (x.k == 1) = true := by simp [h1]
  clear h1;go_enter Tryz.func37, Tryz.ntmps37;go_wp2;refine bodyPost_ret (ret_page rfl _ _ (w.heap.size + 1) ⟨x.k, x.i, 0, nS, nS, 0, nS, nS, zH⟩ rfl (heap_alloc2_new w _ _)) rfl ?_;exact ⟨⟨_, rfl, e.out.symm⟩, grown_two w _ _⟩
 ·have k1 : (x.k == 1) = false := by simp [h1]
  by_cases h2 : x.k = 2
  ·have e : Hid (hasV x = ⟨x.k, nS, x.l, x.s, x.d, 0, nS, nS, zH⟩) := by show _ = _; unfold hasV; rw [if_neg h1, if_pos h2]
   have k2 : (x.k == 2) = true := by simp [h2]
   clear h1 h2;go_enter Tryz.func37, Tryz.ntmps37;go_wp2;refine bodyPost_ret (ret_page rfl _ _ (w.heap.size + 1) ⟨x.k, nS, x.l, x.s, x.d, 0, nS, nS, zH⟩ rfl (heap_alloc2_new w _ _)) rfl ?_;exact ⟨⟨_, rfl, e.out.symm⟩, grown_two w _ _⟩
  ·have k2 : (x.k == 2) = false := by simp [h2]
   by_cases h3 : x.k = 3
   ·have e : Hid (hasV x = ⟨x.k, nS, 0, nS, nS, x.x, x.b, nS, zH⟩) := by show _ = _; unfold hasV; rw [if_neg h1, if_neg h2, if_pos h3]
    have k3 : (x.k == 3) = true := by simp [h3]
    clear h1 h2 h3;go_enter Tryz.func37, Tryz.ntmps37;go_wp2;refine bodyPost_ret (ret_page rfl _ _ (w.heap.size + 1) ⟨x.k, nS, 0, nS, nS, x.x, x.b, nS, zH⟩ rfl (heap_alloc2_new w _ _)) rfl ?_;exact ⟨⟨_, rfl, e.out.symm⟩, grown_two w _ _⟩
   ·have k3 : (x.k == 3) = false := by simp [h3]
    by_cases h4 : x.k = 4
    ·have e : Hid (hasV x = ⟨x.k, nS, 0, nS, nS, x.x, nS, x.t, zH⟩) := by show _ = _; unfold hasV; rw [if_neg h1, if_neg h2, if_neg h3, if_pos h4]
     have k4 : (x.k == 4) = true := by simp [h4]
     clear h1 h2 h3 h4;go_enter Tryz.func37, Tryz.ntmps37;go_wp2;refine bodyPost_ret (ret_page rfl _ _ (w.heap.size + 1) ⟨x.k, nS, 0, nS, nS, x.x, nS, x.t, zH⟩ rfl (heap_alloc2_new w _ _)) rfl ?_;exact ⟨⟨_, rfl, e.out.symm⟩, grown_two w _ _⟩
    ·have e : Hid (hasV x = ⟨x.k, nS, 0, nS, nS, 0, nS, nS, x.h⟩) := by show _ = _; unfold hasV; rw [if_neg h1, if_neg h2, if_neg h3, if_neg h4]
     have k4 : (x.k == 4) = false := by simp [h4]
     clear h1 h2 h3 h4;go_enter Tryz.func37, Tryz.ntmps37;go_wp2;refine bodyPost_ret (ret_page rfl _ _ (w.heap.size + 1) ⟨x.k, nS, 0, nS, nS, 0, nS, nS, x.h⟩ rfl (heap_alloc2_new w _ _)) rfl ?_;exact ⟨⟨_, rfl, e.out.symm⟩, grown_two w _ _⟩
structure Fits (p : Pg) : Prop where
 items : p.items.length ≤ 2000
 seps : p.seps.length ≤ 2000
 kids : p.kids.length ≤ 2000
 data : p.data.length ≤ 65536
 list : p.list.length ≤ 2000
 each : ∀ x ∈ p.items, x.key.length ≤ 65536 ∧ x.val.length ≤ 65536
 sep : ∀ s ∈ p.seps, s.length ≤ 65536
theorem refBody_any (x : Pv) (p : Pg) (w : World) (hp : Pm w x p) (hf : Fits p) (hk : okK p.kind = true) :
  Calls Tryz.prog 38 #[.agg #[.int .i64 x.k, .slice x.i.a x.i.n x.i.c, .int .i64 x.l, .slice x.s.a x.s.n x.s.c, .slice x.d.a x.d.n x.d.c, .int .i64 x.x, .slice x.b.a x.b.n x.b.c, .slice x.t.a x.t.n x.t.c, .int .i64 x.h.v, .int .i64 x.h.c, .int .i64 x.h.r, .int .i64 x.h.h, .int .i64 x.h.k, .int .i64 x.h.f, .int .i64 x.h.n]] w fun en w' => (∃ ao n c b e, en = .returned (.tuple #[.slice ao n c, .int .i64 e]) ∧ BodyR p b e ∧ Byt w' ao n c b) ∧ w.grownBy w' none := by
 have HP := hJ hp;have HF := hJ hf;have hkd := okK_iff.1 hk;have hkk := hp.kind;clear hp hf hk
 by_cases h1 : x.k = 1
 ·have k1 : (x.k == 1) = true := by simp [h1]
  have HQ : Hid (p.kind = 1) := by rw [← hkk]; exact h1
  clear h1 hkk hkd;go_enter Tryz.func38, Tryz.ntmps38;go_upto_region 1 with fail
  have X1 := hJ (Px.new w x);have G1 := hJ (gP w x);generalize w.alloc (.cells #[.int .i64 x.k, .slice x.i.a x.i.n x.i.c, .int .i64 x.l, .slice x.s.a x.s.n x.s.c, .slice x.d.a x.d.n x.d.c, .int .i64 x.x, .slice x.b.a x.b.n x.b.c, .slice x.t.a x.t.n x.t.c, .int .i64 x.h.v, .int .i64 x.h.c, .int .i64 x.h.r, .int .i64 x.h.h, .int .i64 x.h.k, .int .i64 x.h.f, .int .i64 x.h.n] 30) = w1 at *;obtain ⟨c0, c1, c2, c3, c4, c5, c6, c7, c8, c9, c10, c11, c12, c13, c14⟩ := X1.out.cells
  go_wp2_with fail
  refine (refEncode_any x.i.a x.i.n x.i.c p.items _ (HP.out.items.keptN G1.out) HP.out.ib HP.out.il (by have := HF.out.items; have := HP.out.il; omega)).mono ?_;rintro en w2 ⟨⟨ao, j, c, rfl, hb2, _⟩, hg2⟩;have B2 := hJ hb2;have G2 := hJ (gQ G1.out hg2);clear hb2 hg2 c0 c1 c2 c3 c4 c5 c6 c7 c8 c9 c10 c11 c12 c13 c14;go_wp2
  go_ret2
  exact ⟨⟨_, _, _, _, _, rfl, .inl ⟨HQ.out, rfl, rfl⟩, B2.out⟩, G2.out⟩
 ·have k1 : (x.k == 1) = false := by simp [h1]
  by_cases h2 : x.k = 2
  ·have k2 : (x.k == 2) = true := by simp [h2]
   have HQ : Hid (p.kind = 2) := by rw [← hkk]; exact h2
   clear h1 h2 hkk hkd;go_enter Tryz.func38, Tryz.ntmps38;go_upto_region 1 with fail
   have X1 := hJ (Px.new w x);have G1 := hJ (gP w x);generalize w.alloc (.cells #[.int .i64 x.k, .slice x.i.a x.i.n x.i.c, .int .i64 x.l, .slice x.s.a x.s.n x.s.c, .slice x.d.a x.d.n x.d.c, .int .i64 x.x, .slice x.b.a x.b.n x.b.c, .slice x.t.a x.t.n x.t.c, .int .i64 x.h.v, .int .i64 x.h.c, .int .i64 x.h.r, .int .i64 x.h.h, .int .i64 x.h.k, .int .i64 x.h.f, .int .i64 x.h.n] 30) = w1 at *;obtain ⟨c0, c1, c2, c3, c4, c5, c6, c7, c8, c9, c10, c11, c12, c13, c14⟩ := X1.out.cells
   go_wp2_with fail
   refine (refEncode5_any x.l x.s.a x.s.n x.s.c p.seps x.d.a x.d.n x.d.c p.kids _ (HP.out.seps.keptN G1.out) HP.out.sb HP.out.sl (by have := HF.out.seps; have := HP.out.sl; omega) (HP.out.kids.keptN G1.out) HP.out.kl (by have := HF.out.kids; have := HP.out.kl; omega)).mono ?_;rintro en w2 ⟨⟨ao, j, c, e, zs, rfl, hb2, he2, _, _, _⟩, hg2⟩;have B2 := hJ hb2;have E2 := hJ he2;have G2 := hJ (gQ G1.out hg2);clear hb2 hg2 he2 c0 c1 c2 c3 c4 c5 c6 c7 c8 c9 c10 c11 c12 c13 c14;go_wp2
   go_ret2
   exact ⟨⟨_, _, _, _, _, rfl, .inr (.inl ⟨HQ.out, by rw [← HP.out.level]; exact E2.out⟩), B2.out⟩, G2.out⟩
  ·have k2 : (x.k == 2) = false := by simp [h2]
   by_cases h3 : x.k = 3
   ·have k3 : (x.k == 3) = true := by simp [h3]
    have HQ : Hid (p.kind = 3) := by rw [← hkk]; exact h3
    clear h1 h2 h3 hkk hkd;go_enter Tryz.func38, Tryz.ntmps38;go_upto_region 1 with fail
    have X1 := hJ (Px.new w x);have G1 := hJ (gP w x);generalize w.alloc (.cells #[.int .i64 x.k, .slice x.i.a x.i.n x.i.c, .int .i64 x.l, .slice x.s.a x.s.n x.s.c, .slice x.d.a x.d.n x.d.c, .int .i64 x.x, .slice x.b.a x.b.n x.b.c, .slice x.t.a x.t.n x.t.c, .int .i64 x.h.v, .int .i64 x.h.c, .int .i64 x.h.r, .int .i64 x.h.h, .int .i64 x.h.k, .int .i64 x.h.f, .int .i64 x.h.n] 30) = w1 at *;obtain ⟨c0, c1, c2, c3, c4, c5, c6, c7, c8, c9, c10, c11, c12, c13, c14⟩ := X1.out.cells
    go_wp2_with fail
    refine (refEncodeData_any x.x x.b.a x.b.n x.b.c p.data _ (HP.out.data.keptN G1.out) (by have := HP.out.dc; omega)).mono ?_;rintro en w2 ⟨ao, j, c, rfl, hb2, hg2⟩;have B2 := hJ hb2;have G2 := hJ (gQ G1.out hg2);clear hb2 hg2 c0 c1 c2 c3 c4 c5 c6 c7 c8 c9 c10 c11 c12 c13 c14;go_wp2
    go_ret2
    exact ⟨⟨_, _, _, _, _, rfl, .inr (.inr (.inl ⟨HQ.out, by rw [← HP.out.next], by rw [← HP.out.next, HP.out.data.len]⟩)), B2.out⟩, G2.out⟩
   ·have k3 : (x.k == 3) = false := by simp [h3]
    by_cases h4 : x.k = 4
    ·have k4 : (x.k == 4) = true := by simp [h4]
     have HQ : Hid (p.kind = 4) := by rw [← hkk]; exact h4
     clear h1 h2 h3 h4 hkk hkd;go_enter Tryz.func38, Tryz.ntmps38;go_upto_region 1 with fail
     have X1 := hJ (Px.new w x);have G1 := hJ (gP w x);generalize w.alloc (.cells #[.int .i64 x.k, .slice x.i.a x.i.n x.i.c, .int .i64 x.l, .slice x.s.a x.s.n x.s.c, .slice x.d.a x.d.n x.d.c, .int .i64 x.x, .slice x.b.a x.b.n x.b.c, .slice x.t.a x.t.n x.t.c, .int .i64 x.h.v, .int .i64 x.h.c, .int .i64 x.h.r, .int .i64 x.h.h, .int .i64 x.h.k, .int .i64 x.h.f, .int .i64 x.h.n] 30) = w1 at *;obtain ⟨c0, c1, c2, c3, c4, c5, c6, c7, c8, c9, c10, c11, c12, c13, c14⟩ := X1.out.cells
     go_wp2_with fail
     refine (refEncodeList_any x.x x.t.a x.t.n x.t.c p.list _ (HP.out.list.keptN G1.out) HP.out.tl (by have := HF.out.list; have := HP.out.tl; omega)).mono ?_;rintro en w2 ⟨ao, j, c, rfl, hb2, hg2⟩;have B2 := hJ hb2;have G2 := hJ (gQ G1.out hg2);clear hb2 hg2 c0 c1 c2 c3 c4 c5 c6 c7 c8 c9 c10 c11 c12 c13 c14;go_wp2
     go_ret2
     exact ⟨⟨_, _, _, _, _, rfl, .inr (.inr (.inr (.inl ⟨HQ.out, by rw [← HP.out.next], by rw [← HP.out.next]⟩))), B2.out⟩, G2.out⟩
    ·have k4 : (x.k == 4) = false := by simp [h4]
     have HQ : Hid (p.kind = 5) := by show _ = _; omega
     clear h1 h2 h3 h4 hkk hkd;go_enter Tryz.func38, Tryz.ntmps38;go_upto_region 1 with fail
     have X1 := hJ (Px.new w x);have G1 := hJ (gP w x);generalize w.alloc (.cells #[.int .i64 x.k, .slice x.i.a x.i.n x.i.c, .int .i64 x.l, .slice x.s.a x.s.n x.s.c, .slice x.d.a x.d.n x.d.c, .int .i64 x.x, .slice x.b.a x.b.n x.b.c, .slice x.t.a x.t.n x.t.c, .int .i64 x.h.v, .int .i64 x.h.c, .int .i64 x.h.r, .int .i64 x.h.h, .int .i64 x.h.k, .int .i64 x.h.f, .int .i64 x.h.n] 30) = w1 at *;obtain ⟨c0, c1, c2, c3, c4, c5, c6, c7, c8, c9, c10, c11, c12, c13, c14⟩ := X1.out.cells
     go_wp2_with fail
     refine (refEncode7_any x.h.v x.h.c x.h.r x.h.h x.h.k x.h.f x.h.n _).mono ?_;rintro en w2 ⟨ao, j, c, rfl, hb2, hg2⟩;have B2 := hJ hb2;have G2 := hJ (gQ G1.out hg2);clear hb2 hg2 c0 c1 c2 c3 c4 c5 c6 c7 c8 c9 c10 c11 c12 c13 c14;go_wp2
     go_ret2
     exact ⟨⟨_, _, _, _, _, rfl, .inr (.inr (.inr (.inr ⟨HQ.out, by rw [← HP.out.head], by rw [← HP.out.head]⟩))), B2.out⟩, G2.out⟩
theorem back_data8 {x : Int} {zs : List Int} (h : eD x zs.length = 0) : vN (oD x zs) = x ∧ vD (oD x zs) = zs ∧ vE (oD x zs) = 0 := by
 obtain ⟨k, rfl, hk⟩ := nOk_nat (eD_zero h).1;obtain ⟨h1, h2, h3⟩ := dD_dB h;rw [oD_yes h, Int.toNat_natCast];obtain ⟨e1, e2, e3⟩ := v_yes h1;exact ⟨by rw [e1, h2], by rw [e2, h3], e3⟩
theorem back_list8 {x : Int} {xs : List Int} (h : eL x xs = 0) : uN (oL x xs) = x ∧ uL (oL x xs) = xs ∧ uE (oL x xs) = 0 := by
 obtain ⟨k, rfl, hk⟩ := nOk_nat (eL_zero h).1;obtain ⟨h1, h2, h3, h4⟩ := dL_lB h;rw [oL_yes h, Int.toNat_natCast];obtain ⟨e1, e2, e3⟩ := u_yes h1;exact ⟨by rw [e1, h2], by rw [e2, h3, h4], e3⟩
theorem enc_good8 {L : List It} (h : (enc L).2 = 0) : Good (enc L).1 L ∧ (enc L).1.length = 4092 := by
 unfold enc at *
 by_cases hw : wrong L = 0
 ·rw [if_pos hw] at *
  by_cases hs : size L ≤ 4092
  ·rw [if_pos hs] at *
   exact ⟨⟨hw, hs, rfl⟩, body_len hw hs⟩
  ·rw [if_neg hs] at h; exact absurd h (by decide)
 ·rw [if_neg hw] at h; exact absurd h hw
theorem good_enc {zs : List Int} {L : List It} (h : Good zs L) : enc L = (zs, 0) := by
 unfold enc;rw [if_pos h.1, if_pos h.2.1, h.2.2]
theorem body_kind {zs : List Int} {L : List It} (h : Good zs L) : zs.getD 0 0 = 1 := by rw [← h.2.2]; rfl
theorem bbody_kind {zs : List Int} {lv : Int} {k : Kd} {M : List Sk} (h : BGood zs lv k M) : zs.getD 0 0 = 2 := by rw [← h.2]; rfl
theorem fits_seal {b : List Int} (h : b.length = 4092) : fits (b ++ low4 (upd 0 b)) := by
 refine ⟨by rw [List.length_append, h]; rfl, ?_⟩;rw [List.drop_left' h, List.take_left' h]
theorem open_seal {b : List Int} (h : b.length = 4092) : openE (b ++ low4 (upd 0 b)) = 0 ∧ openL (b ++ low4 (upd 0 b)) = b := by
 unfold openE openL;rw [if_pos (fits_seal h), if_pos (fits_seal h)];exact ⟨rfl, List.take_left' h⟩
theorem open_fits {zs : List Int} (h : openE zs = 0) : fits zs ∧ openL zs = zs.take 4092 := by
 by_cases hf : fits zs
 ·exact ⟨hf, by unfold openL; rw [if_pos hf]⟩
 ·unfold openE at h; rw [if_neg hf] at h; split at h <;> exact absurd h (by decide)
theorem BodyR.back {p : Pg} {b : List Int} (h : BodyR p b 0) (hp : p = hasP p) : DecR p.kind b p 0 ∧ b.getD 0 0 = p.kind ∧ b.length = 4092 := by
 obtain ⟨kd, it, lv, se, ki, nx, da, li, hd⟩ := p;rcases h with ⟨h0, h1, h2⟩ | ⟨h0, h1⟩ | ⟨h0, h1, h2⟩ | ⟨h0, h1, h2⟩ | ⟨h0, h1, h2⟩
 ·have h0' : kd = 1 := h0
  subst h0';obtain ⟨g, gl⟩ := enc_good8 h2.symm;have h1' : b = (enc it).1 := h1;subst h1';exact ⟨.inl ⟨rfl, it, .inl ⟨rfl, g, gl⟩, fun _ => hp⟩, body_kind g, gl⟩
 ·have h0' : kd = 2 := h0
  subst h0';have hl := h1.len rfl;obtain ⟨k, M, e1, e2, g⟩ := h1.good rfl;have e1' : se = seps M := e1;have e2' : ki = kids k M := e2;subst e1' e2';exact ⟨.inr (.inl ⟨rfl, lv, _, _, ⟨.inl rfl, fun _ => ⟨hl, k, M, rfl, rfl, g⟩, fun h => absurd rfl h⟩, fun _ => hp⟩), bbody_kind g, hl⟩
 ·have h0' : kd = 3 := h0
  subst h0';have h1' : b = oD nx da := h1;subst h1';have h2' : eD nx da.length = 0 := h2.symm;obtain ⟨e1, e2, e3⟩ := back_data8 h2';refine ⟨.inr (.inr (.inl ⟨rfl, e3.symm, fun _ => ?_⟩)), ?_, ?_⟩
  ·rw [e1, e2]; exact hp
  ·rw [oD_yes h2']; rfl
  ·rw [oD_yes h2']; exact dB_len (eD_zero h2').2.2.1
 ·have h0' : kd = 4 := h0
  subst h0';have h1' : b = oL nx li := h1;subst h1';have h2' : eL nx li = 0 := h2.symm;obtain ⟨e1, e2, e3⟩ := back_list8 h2';refine ⟨.inr (.inr (.inr (.inl ⟨rfl, e3.symm, fun _ => ?_⟩))), ?_, ?_⟩
  ·rw [e1, e2]; exact hp
  ·rw [oL_yes h2']; rfl
  ·rw [oL_yes h2']; exact lB_len (eL_zero h2').2.1
 ·have h0' : kd = 5 := h0
  subst h0';have h1' : b = oM hd := h1;subst h1';have h2' : eM hd = 0 := h2.symm;cases hm : may hd with
  | false => rw [(o_no hm).2] at h2'; exact absurd h2' (by decide)
  | true =>
   obtain ⟨e1, e2⟩ := o_yes hm;obtain ⟨a1, a2⟩ := a_yes (dM_mB hm);rw [e1];refine ⟨.inr (.inr (.inr (.inr ⟨rfl, a2.symm, fun _ => ?_⟩))), rfl, mB_len hd⟩;rw [a1, rH_mB hm];exact hp
theorem PEnc.back {p : Pg} {zs : List Int} (h : PEnc p zs 0) : PDec zs p 0 ∧ fits zs ∧ openE zs = 0 ∧ (openL zs).length = 4092 ∧ (openL zs).getD 0 0 = p.kind ∧ okK p.kind = true ∧ p = hasP p := by
 rcases h with ⟨_, h5, _⟩ | ⟨_, _, h5, _⟩ | ⟨h0, h1, b, f, h2, h3⟩
 ·exact absurd h5 (by decide)
 ·exact absurd h5 (by decide)
 ·rcases h3 with ⟨a1, a2, _⟩ | ⟨a1, a2, a3⟩
  ·exact absurd a2.symm a1
  ·subst a1
   obtain ⟨d1, d2, d3⟩ := h2.back h1;have hz : zs = b ++ low4 (upd 0 b) := by rw [a3]; unfold sealL; rw [if_pos d3]
   subst hz;obtain ⟨o1, o2⟩ := open_seal d3;refine ⟨⟨fun h => absurd rfl h, .inr (.inr ⟨o1, by rw [o2, d2]; exact d1⟩)⟩, fits_seal d3, o1, by rw [o2]; exact d3, by rw [o2]; exact d2, h0, h1⟩
theorem PDec.sum {p : Pg} {zs : List Int} {e : Int} (h : PDec zs p e) (hl : zs.length = 4096) : e = 22 ↔ ¬ fits zs := by
 obtain ⟨_, h | h | h⟩ := h
 ·obtain ⟨h0, rfl⟩ := h
  unfold openE at *
  by_cases hf : fits zs
  ·rw [if_pos hf] at h0; exact absurd rfl h0
  ·rw [if_neg hf, if_pos hl]; exact ⟨fun _ => hf, fun _ => rfl⟩
 ·obtain ⟨h0, _, rfl⟩ := h
  exact ⟨fun h => absurd h (by decide), fun h => absurd (open_fits h0).1 h⟩
 ·obtain ⟨h0, h⟩ := h
  refine ⟨fun he => ?_, fun hn => absurd (open_fits h0).1 hn⟩;subst he;rcases h with ⟨_, L, h1, h2⟩ | ⟨_, lv, L, K, h1, h2⟩ | ⟨_, h1, h2⟩ | ⟨_, h1, h2⟩ | ⟨_, h1, h2⟩
  ·rcases h1 with ⟨g, _⟩ | ⟨g, _⟩ <;> exact absurd g (by decide)
  ·rcases h1.code with g | g <;> exact absurd g (by decide)
  ·unfold vE at h1; split at h1 <;> exact absurd h1 (by decide)
  ·unfold uE at h1; split at h1 <;> exact absurd h1 (by decide)
  ·unfold aE at h1; split at h1 <;> exact absurd h1 (by decide)
end Go.Proofs.YtkiopabcnemgnaaGreatDoor
