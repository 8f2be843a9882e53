import Derived.Test.YtkiopabcnemgnaaGreatDoorK50
import Derived.Test.YtkiopabcnemgnaaGreatDoorK35
set_option maxRecDepth 100000
set_option maxHeartbeats 1000000
namespace Go.Proofs.YtkiopabcnemgnaaGreatDoor
open Go.ChangeShapes Go.WideShapes Go.ChangeAt Go.WideMaps Go.WideElems Go.RowKit Go.Deep
theorem struct9 {H : Type} {enc : TypeId × Value → H} {P : Program} {w : World} {base : Nat} {spare : Nat → Bool} {held : Bool} {t : TypeId} {f0 f1 f2 f3 f4 f5 f6 f7 f8 : Field} {fuel : Nat} {cs : List Value} {x : DataW H × List MemPlace} (ht : P.underlying t = some (.struct #[f0, f1, f2, f3, f4, f5, f6, f7, f8])) (h : DataW.trod enc P w base spare held fuel t cs = some x) :
  ∃ n, cs.length = P.cellsOf t ∧ ∀ f ∈ [f0, f1, f2, f3, f4, f5, f6, f7, f8], ∃ y, DataW.trod enc P w base spare held n f.type ((cs.drop f.offset).take (P.cellsOf f.type)) = some y := by
 obtain ⟨xs, n, _, rfl, hl, hlen, hf⟩ := DataW.trod_struct ht h;refine ⟨n, hl, fun f hm => ?_⟩
 match xs, hlen with
 | [y0, y1, y2, y3, y4, y5, y6, y7, y8], _ =>
  simp only [List.mem_cons, List.not_mem_nil, or_false] at hm;rcases hm with rfl | rfl | rfl | rfl | rfl | rfl | rfl | rfl | rfl
  ·exact ⟨y0, by simpa using hf 0 _ rfl⟩
  ·exact ⟨y1, by simpa using hf 1 _ rfl⟩
  ·exact ⟨y2, by simpa using hf 2 _ rfl⟩
  ·exact ⟨y3, by simpa using hf 3 _ rfl⟩
  ·exact ⟨y4, by simpa using hf 4 _ rfl⟩
  ·exact ⟨y5, by simpa using hf 5 _ rfl⟩
  ·exact ⟨y6, by simpa using hf 6 _ rfl⟩
  ·exact ⟨y7, by simpa using hf 7 _ rfl⟩
  ·exact ⟨y8, by simpa using hf 8 _ rfl⟩
theorem slice_form {H : Type} {enc : TypeId × Value → H} {w : World} {base : Nat} {sp : Nat → Bool} {held : Bool} {fuel : Nat} {t e : TypeId} {cs : List Value} {x : DataW H × List MemPlace} (ht : Tryz.prog.underlying t = some (.slice e)) (h : DataW.trod enc Tryz.prog w base sp held fuel t cs = some x) : ∃ a l c, cs = [.slice a l c] := by
 rcases open_slice ht h with ⟨hcs, _⟩ | ⟨ad, l, c, m, n, D, Pc, hcs, _⟩
 ·exact ⟨_, _, _, hcs⟩
 ·exact ⟨_, _, _, hcs⟩
theorem cells_items : Tryz.prog.cellsOf 22 = 1 := by kernel_rfl
theorem cells_rows : Tryz.prog.cellsOf 23 = 1 := by kernel_rfl
theorem cells_kids : Tryz.prog.cellsOf 24 = 1 := by kernel_rfl
theorem cells_ints : Tryz.prog.cellsOf 26 = 1 := by kernel_rfl
theorem cells_page : Tryz.prog.cellsOf 30 = 15 := by kernel_rfl
theorem head_cells {H : Type} {enc : TypeId × Value → H} {w : World} {base : Nat} {sp : Nat → Bool} {held : Bool} {fuel : Nat} {cs : List Value} {x : DataW H × List MemPlace} (h : DataW.trod enc Tryz.prog w base sp held fuel 28 cs = some x) :
  ∃ H : Hd, cs = [.int .i64 H.v, .int .i64 H.c, .int .i64 H.r, .int .i64 H.h, .int .i64 H.k, .int .i64 H.f, .int .i64 H.n] := by
 obtain ⟨y0, y1, y2, y3, y4, y5, y6, n, hl, h0, h1, h2, h3, h4, h5, h6⟩ := struct7 Tryz.underlying28 h;obtain ⟨x0, e0, _, _⟩ := DataW.trod_int Tryz.underlying3 h0;obtain ⟨x1, e1, _, _⟩ := DataW.trod_int Tryz.underlying3 h1;obtain ⟨x2, e2, _, _⟩ := DataW.trod_int Tryz.underlying3 h2;obtain ⟨x3, e3, _, _⟩ := DataW.trod_int Tryz.underlying3 h3;obtain ⟨x4, e4, _, _⟩ := DataW.trod_int Tryz.underlying3 h4;obtain ⟨x5, e5, _, _⟩ := DataW.trod_int Tryz.underlying3 h5;obtain ⟨x6, e6, _, _⟩ := DataW.trod_int Tryz.underlying3 h6;simp only [cells_int] at e0 e1 e2 e3 e4 e5 e6;rw [cells_head] at hl
 match cs, hl with
 | [a0, a1, a2, a3, a4, a5, a6], _ =>
  simp at e0 e1 e2 e3 e4 e5 e6;exact ⟨⟨x0, x1, x2, x3, x4, x5, x6⟩, by rw [e0, e1, e2, e3, e4, e5, e6]⟩
theorem ints_open8 {H : Type} {enc : TypeId × Value → H} {w : World} {base : Nat} {held : Bool} {fuel : Nat} {a : Option Addr} {len cap : Nat} {x : DataW H × List MemPlace}
  (h : DataW.trod enc Tryz.prog w base (fun _ => true) held fuel 26 [.slice a len cap] = some x) : ∃ L, Nt w a L ∧ L.length = len ∧ len ≤ cap ∧ cap ≤ 9223372036854775807 := by
 rcases open_ints Tryz.underlying26 Tryz.underlying3 (by kernel_rfl) h with ⟨hcs, _⟩ | ⟨x, l, c, zs, hcs, _, hl, hm, hz, hx, hcell, hwz⟩
 ·simp at hcs
  obtain ⟨rfl, rfl, rfl⟩ := hcs;exact ⟨[], Nt.zero w _, rfl, Nat.le_refl _, by omega⟩
 ·simp at hcs
  obtain ⟨rfl, rfl, rfl⟩ := hcs;have hz' : zs.length = cap := by simpa using hz
  exact ⟨_, nt_of_row hl hz' hcell, by rw [List.length_take]; omega, hl, by unfold maxLen at hm; omega⟩
theorem page_open {H : Type} {enc : TypeId × Value → H} {w : World} {base : Nat} {held : Bool} {r : Reach} {b0 : Nat} {v : Value} {d : DataW H} {ps : List MemPlace} (hval : Value.okWide Tryz.prog w r b0 30 v) (hd : DataW.Trod enc Tryz.prog w base (fun _ => true) held 30 v d ps) :
  ∃ (x : Pv) (p : Pg), v = .agg #[.int .i64 x.k, .slice x.i.a x.i.n x.i.c, .int .i64 x.l, .slice x.s.a x.s.n x.s.c, .slice x.d.a x.d.n x.d.c, .int .i64 x.x, .slice x.b.a x.b.n x.b.c, .slice x.t.a x.t.n x.t.c, .int .i64 x.h.v, .int .i64 x.h.c, .int .i64 x.h.r, .int .i64 x.h.h, .int .i64 x.h.k, .int .i64 x.h.f, .int .i64 x.h.n] ∧ Pm w x p ∧ Pr8 x := by
 obtain ⟨cs, rfl, hsz⟩ := okWide_struct Tryz.underlying30 hval;obtain ⟨fuel, h⟩ := hd;obtain ⟨n, hl, hf⟩ := struct9 Tryz.underlying30 h;clear h;obtain ⟨y0, h0⟩ := hf _ (List.mem_cons_self);obtain ⟨y1, h1⟩ := hf _ (List.mem_cons_of_mem _ List.mem_cons_self);obtain ⟨y2, h2⟩ := hf _ (List.mem_cons_of_mem _ (List.mem_cons_of_mem _ List.mem_cons_self));obtain ⟨y3, h3⟩ := hf _ (List.mem_cons_of_mem _ (List.mem_cons_of_mem _ (List.mem_cons_of_mem _ List.mem_cons_self)));obtain ⟨y4, h4⟩ := hf _ (List.mem_cons_of_mem _ (List.mem_cons_of_mem _ (List.mem_cons_of_mem _ (List.mem_cons_of_mem _ List.mem_cons_self))));obtain ⟨y5, h5⟩ := hf _ (List.mem_cons_of_mem _ (List.mem_cons_of_mem _ (List.mem_cons_of_mem _ (List.mem_cons_of_mem _ (List.mem_cons_of_mem _ List.mem_cons_self)))));obtain ⟨y6, h6⟩ := hf _ (List.mem_cons_of_mem _ (List.mem_cons_of_mem _ (List.mem_cons_of_mem _ (List.mem_cons_of_mem _ (List.mem_cons_of_mem _ (List.mem_cons_of_mem _ List.mem_cons_self))))));obtain ⟨y7, h7⟩ := hf _ (List.mem_cons_of_mem _ (List.mem_cons_of_mem _ (List.mem_cons_of_mem _ (List.mem_cons_of_mem _ (List.mem_cons_of_mem _ (List.mem_cons_of_mem _ (List.mem_cons_of_mem _ List.mem_cons_self)))))));obtain ⟨y8, h8⟩ := hf _ (List.mem_cons_of_mem _ (List.mem_cons_of_mem _ (List.mem_cons_of_mem _ (List.mem_cons_of_mem _ (List.mem_cons_of_mem _ (List.mem_cons_of_mem _ (List.mem_cons_of_mem _ (List.mem_cons_of_mem _ List.mem_cons_self))))))));clear hf;obtain ⟨k0, e0, _, _⟩ := DataW.trod_int Tryz.underlying3 h0;obtain ⟨k2, e2, _, _⟩ := DataW.trod_int Tryz.underlying3 h2;obtain ⟨k5, e5, _, _⟩ := DataW.trod_int Tryz.underlying3 h5;obtain ⟨a1, n1, c1, e1⟩ := slice_form Tryz.underlying22 h1;obtain ⟨a3, n3, c3, e3⟩ := slice_form Tryz.underlying23 h3;obtain ⟨a4, n4, c4, e4⟩ := slice_form Tryz.underlying24 h4;obtain ⟨a7, n7, c7, e7⟩ := slice_form Tryz.underlying26 h7;obtain ⟨a6, n6, c6, z6, e6, b6, t6, l6, m6⟩ := bytes_open h6;obtain ⟨Hh, e8⟩ := head_cells h8;rw [e1] at h1;rw [e3] at h3;rw [e4] at h4;rw [e7] at h7;obtain ⟨L1, i1, i2, i3, i4, i5⟩ := items_open h1;obtain ⟨L3, s1, s2, s3, s4, s5⟩ := rows_open5 h3;obtain ⟨L4, d1, d2, d3, d4, d5⟩ := kids_open h4;obtain ⟨L7, t1, t2, t3, t4⟩ := ints_open8 h7;simp only [cells_int, cells_items, cells_rows, cells_kids, cells_bytes, cells_ints, cells_head, Value.cells] at e0 e1 e2 e3 e4 e5 e6 e7 e8;obtain ⟨l⟩ := cs;rw [cells_page] at hsz
 match l, hsz with
 | [q0, q1, q2, q3, q4, q5, q6, q7, q8, q9, q10, q11, q12, q13, q14], _ =>
  simp at e0 e1 e2 e3 e4 e5 e6 e7 e8;obtain ⟨f0, f1, f2, f3, f4, f5, f6⟩ := e8;refine ⟨⟨k0, ⟨a1, n1, c1⟩, k2, ⟨a3, n3, c3⟩, ⟨a4, n4, c4⟩, k5, ⟨a6, n6, c6⟩, ⟨a7, n7, c7⟩, Hh⟩, ⟨k0, L1, k2, L3, L4, k5, z6, L7, Hh⟩, ?_, ?_, ?_⟩
  ·rw [e0, e1, e2, e3, e4, e5, e6, e7, f0, f1, f2, f3, f4, f5, f6]
  ·exact ⟨rfl, rfl, rfl, rfl, i1, i2, i3, by show n1 ≤ _; omega, s1, s2, s3, by show n3 ≤ _; omega, d1, d3, by show n4 ≤ _; omega, b6, t6, by show n6 ≤ _; omega, t1, t2, by show n7 ≤ _; omega⟩
  ·exact ⟨⟨i4, i5⟩, ⟨s4, s5⟩, ⟨d4, d5⟩, ⟨l6, m6⟩, ⟨t3, t4⟩⟩
end Go.Proofs.YtkiopabcnemgnaaGreatDoor
