import Derived.Test.YtkiopabcnemgnaaGreatDoorQ23
import Derived.Test.YtkiopabcnemgnaaGreatDoorQ46
import Derived.ChangeSame
namespace Go.Proofs.YtkiopabcnemgnaaGreatDoor
open Go.ChangeShapes Go.WideShapes Go.ChangeAt Go.WideMaps Go.WideElems Go.RowKit
theorem struct7 {H : Type} {enc : TypeId × Value → H} {P : Program} {w : World} {base : Nat} {spare : Nat → Bool} {held : Bool} {t : TypeId} {f0 f1 f2 f3 f4 f5 f6 : Field} {fuel : Nat} {cs : List Value} {x : DataW H × List MemPlace} (ht : P.underlying t = some (.struct #[f0, f1, f2, f3, f4, f5, f6])) (h : DataW.trod enc P w base spare held fuel t cs = some x) :
  ∃ y0 y1 y2 y3 y4 y5 y6 n, cs.length = P.cellsOf t ∧ DataW.trod enc P w base spare held n f0.type ((cs.drop f0.offset).take (P.cellsOf f0.type)) = some y0 ∧ DataW.trod enc P w base spare held n f1.type ((cs.drop f1.offset).take (P.cellsOf f1.type)) = some y1 ∧
   DataW.trod enc P w base spare held n f2.type ((cs.drop f2.offset).take (P.cellsOf f2.type)) = some y2 ∧ DataW.trod enc P w base spare held n f3.type ((cs.drop f3.offset).take (P.cellsOf f3.type)) = some y3 ∧ DataW.trod enc P w base spare held n f4.type ((cs.drop f4.offset).take (P.cellsOf f4.type)) = some y4 ∧
   DataW.trod enc P w base spare held n f5.type ((cs.drop f5.offset).take (P.cellsOf f5.type)) = some y5 ∧ DataW.trod enc P w base spare held n f6.type ((cs.drop f6.offset).take (P.cellsOf f6.type)) = some y6 := by
 obtain ⟨xs, n, _, rfl, hl, hlen, hf⟩ := DataW.trod_struct ht h
 match xs, hlen with
 | [y0, y1, y2, y3, y4, y5, y6], _ => exact ⟨y0, y1, y2, y3, y4, y5, y6, n, hl, by simpa using hf 0 f0 rfl, by simpa using hf 1 f1 rfl, by simpa using hf 2 f2 rfl, by simpa using hf 3 f3 rfl, by simpa using hf 4 f4 rfl, by simpa using hf 5 f5 rfl, by simpa using hf 6 f6 rfl⟩
theorem cells_head : Tryz.prog.cellsOf 28 = 7 := by kernel_rfl
set_option maxRecDepth 100000 in
theorem head_open {H : Type} {enc : TypeId × Value → H} {w : World} {base : Nat} {sp : Nat → Bool} {held : Bool} {r : Reach} {b0 : Nat} {v : Value} {d : DataW H} {ps : List MemPlace} (hval : Value.okWide Tryz.prog w r b0 28 v) (hd : DataW.Trod enc Tryz.prog w base sp held 28 v d ps) :
  ∃ v0 v1 v2 v3 v4 v5 v6, v = .agg #[.int .i64 v0, .int .i64 v1, .int .i64 v2, .int .i64 v3, .int .i64 v4, .int .i64 v5, .int .i64 v6] := by
 obtain ⟨cs, rfl, hsz⟩ := okWide_struct Tryz.underlying28 hval
 obtain ⟨fuel, h⟩ := hd
 obtain ⟨y0, y1, y2, y3, y4, y5, y6, n, hl, h0, h1, h2, h3, h4, h5, h6⟩ := struct7 Tryz.underlying28 h
 obtain ⟨x0, e0, _, _⟩ := DataW.trod_int Tryz.underlying3 h0
 obtain ⟨x1, e1, _, _⟩ := DataW.trod_int Tryz.underlying3 h1
 obtain ⟨x2, e2, _, _⟩ := DataW.trod_int Tryz.underlying3 h2
 obtain ⟨x3, e3, _, _⟩ := DataW.trod_int Tryz.underlying3 h3
 obtain ⟨x4, e4, _, _⟩ := DataW.trod_int Tryz.underlying3 h4
 obtain ⟨x5, e5, _, _⟩ := DataW.trod_int Tryz.underlying3 h5
 obtain ⟨x6, e6, _, _⟩ := DataW.trod_int Tryz.underlying3 h6
 simp only [cells_int, Value.cells] at e0 e1 e2 e3 e4 e5 e6
 obtain ⟨l⟩ := cs
 rw [cells_head] at hsz
 match l, hsz with
 | [a0, a1, a2, a3, a4, a5, a6], _ =>
  simp at e0 e1 e2 e3 e4 e5 e6
  exact ⟨x0, x1, x2, x3, x4, x5, x6, by rw [e0, e1, e2, e3, e4, e5, e6]⟩
end Go.Proofs.YtkiopabcnemgnaaGreatDoor
