import Derived.Test.YtcjgmiilfjjbcaaGreatDoorGrpZ
import Derived.Test.YtcjgmiilfjjbcaaGreatDoorDuIn
import Derived.Deep.Strs
namespace Go.Proofs.YtcjgmiilfjjbcaaGreatDoor
open Go.ChangeShapes Go.WideShapes Go.ChangeAt Go.WideMaps Go.WideElems Go.RowKit Go.Deep

theorem cells_fate23 : Tryz.prog.cellsOf 43 = 2 := by kernel_rfl
theorem cells_fates23 : Tryz.prog.cellsOf 33 = 1 := by kernel_rfl
theorem cells_aop23 : Tryz.prog.cellsOf 35 = 8 := by kernel_rfl
theorem cells_aops23 : Tryz.prog.cellsOf 22 = 1 := by kernel_rfl
theorem cells_scr23 : Tryz.prog.cellsOf 24 = 2 := by kernel_rfl
theorem cells_i23 : Tryz.prog.cellsOf 3 = 1 := by kernel_rfl
theorem struct8s {H : Type} {enc : TypeId × Value → H} {P : Program} {w : World} {base : Nat} {spare : Nat → Bool} {held : Bool} {t : TypeId} {f0 f1 f2 f3 f4 f5 f6 f7 : Field} {fuel : Nat} {cs : List Value} {x : DataW H × List MemPlace} (ht : P.underlying t = some (.struct #[f0, f1, f2, f3, f4, f5, f6, f7])) (h : DataW.trod enc P w base spare held fuel t cs = some x) :
    ∃ y0 y1 y2 y3 y4 y5 y6 y7 n, cs.length = P.cellsOf t ∧ DataW.trod enc P w base spare held n f0.type ((cs.drop f0.offset).take (P.cellsOf f0.type)) = some y0 ∧ DataW.trod enc P w base spare held n f1.type ((cs.drop f1.offset).take (P.cellsOf f1.type)) = some y1 ∧
      DataW.trod enc P w base spare held n f2.type ((cs.drop f2.offset).take (P.cellsOf f2.type)) = some y2 ∧ DataW.trod enc P w base spare held n f3.type ((cs.drop f3.offset).take (P.cellsOf f3.type)) = some y3 ∧ DataW.trod enc P w base spare held n f4.type ((cs.drop f4.offset).take (P.cellsOf f4.type)) = some y4 ∧
      DataW.trod enc P w base spare held n f5.type ((cs.drop f5.offset).take (P.cellsOf f5.type)) = some y5 ∧ DataW.trod enc P w base spare held n f6.type ((cs.drop f6.offset).take (P.cellsOf f6.type)) = some y6 ∧ DataW.trod enc P w base spare held n f7.type ((cs.drop f7.offset).take (P.cellsOf f7.type)) = some y7 := by
  obtain ⟨xs, n, _, rfl, hl, hlen, hf⟩ := DataW.trod_struct ht h
  match xs, hlen with
  | [y0, y1, y2, y3, y4, y5, y6, y7], _ => exact ⟨y0, y1, y2, y3, y4, y5, y6, y7, n, hl, by simpa using hf 0 f0 rfl, by simpa using hf 1 f1 rfl, by simpa using hf 2 f2 rfl, by simpa using hf 3 f3 rfl, by simpa using hf 4 f4 rfl, by simpa using hf 5 f5 rfl, by simpa using hf 6 f6 rfl, by simpa using hf 7 f7 rfl⟩
set_option maxRecDepth 100000 in
theorem fate_open23 {H : Type} {enc : TypeId × Value → H} {w : World} {base : Nat} {held : Bool} {fuel : Nat} {cs : List Value} {x : DataW H × List MemPlace}
    (h : DataW.trod enc Tryz.prog w base (fun _ => true) held fuel 43 cs = some x) : ∃ (a b : Int), cs = [.int .i64 a, .int .i64 b] := by
  obtain ⟨y0, y1, n', rfl, hl, h0, h1⟩ := trod_struct2 Tryz.underlying43 h
  rw [cells_fate23] at hl
  obtain ⟨k, e0, _, _⟩ := DataW.trod_int Tryz.underlying3 h0
  obtain ⟨m, e1, _, _⟩ := DataW.trod_int Tryz.underlying3 h1
  simp only [cells_i23] at e0 e1
  match cs, hl with
  | [c0, c1], _ =>
    simp at e0 e1
    exact ⟨k, m, by rw [e0, e1]⟩
set_option maxRecDepth 100000 in
/-- A list of fates that came in. -/
theorem fates_open23 {H : Type} {enc : TypeId × Value → H} {w : World} {base : Nat} {held : Bool} {fuel : Nat} {cs : List Value} {x : DataW H × List MemPlace}
    (h : DataW.trod enc Tryz.prog w base (fun _ => true) held fuel 33 cs = some x) : ∃ a len cap l, cs = [.slice a len cap] ∧ FtR w a l ∧ l.length = len := by
  rcases open_slice Tryz.underlying33 h with ⟨hcs, _⟩ | ⟨ad, l, c, m, n, D, Pc, hcs, _, hl, hm, hmm, _, hel⟩
  · exact ⟨none, 0, 0, [], hcs, fun i e he => by simp at he, rfl⟩
  · have hlm : l ≤ m := by rw [hmm]; split <;> omega
    have each : ∀ i, i < l → ∃ e : Int × Int, w.cell? ((ad.add (i * 2)).add 0) = some (.int .i64 e.1) ∧ w.cell? ((ad.add (i * 2)).add 1) = some (.int .i64 e.2) := by
      intro i hi
      obtain ⟨cs', h1, h2⟩ := hel i (by omega)
      rw [cells_fate23] at h1
      obtain ⟨k, n2, rfl⟩ := fate_open23 h2
      obtain ⟨_, _, hc⟩ := World.cells?_some h1
      exact ⟨(k, n2), by simpa using hc 0 (by omega), by simpa using hc 1 (by omega)⟩
    clear hel
    have each2 : ∀ i, i < l → ∃ e : Int × Int, ∃ b off, ad = ⟨b, off, none⟩ ∧ w.cell? ⟨b, off + i * 2, none⟩ = some (.int .i64 e.1) ∧ w.cell? ⟨b, off + i * 2 + 1, none⟩ = some (.int .i64 e.2) := by
      intro i hi
      obtain ⟨b, off, e⟩ : ∃ b off, ad = ⟨b, off, none⟩ := by
        obtain ⟨_, h6, _⟩ := each 0 (by omega)
        have e' : (ad.add (0 * 2)).add 0 = ad := by simp [Addr.add]
        rw [e'] at h6
        exact cell_plainD h6
      subst e
      obtain ⟨q, h3, h4⟩ := each i hi
      simp only [Addr.add_lit, Nat.add_zero] at h3 h4
      exact ⟨q, b, off, rfl, h3, h4⟩
    obtain ⟨L, hL, hP⟩ := list_ofD (0, 0) l each2
    refine ⟨_, _, _, L, hcs, fun i p hp => ?_, hL⟩
    obtain ⟨hi, e⟩ := List.getElem?_eq_some_iff.1 hp
    obtain ⟨b, off, h1, h2⟩ := hP i (by omega)
    have e2 : L.getD i (0, 0) = p := by simp [List.getD, hp]
    rw [e2] at h2
    exact ⟨b, off, by rw [h1], h2⟩
set_option maxRecDepth 100000 in
theorem op_open23 {H : Type} {enc : TypeId × Value → H} {w : World} {base : Nat} {held : Bool} {fuel : Nat} {cs : List Value} {x : DataW H × List MemPlace}
    (h : DataW.trod enc Tryz.prog w base (fun _ => true) held fuel 35 cs = some x) : ∃ o : Opq, ∃ ka kc va vc ha hc fa fc, cs = [.int .i64 o.k, .int .i64 o.a, .int .i64 o.b, .int .i64 o.c, .slice ka o.key.length kc, .slice va o.val.length vc, .slice ha o.hi.length hc, .slice fa o.f.length fc] ∧ OpR w o ka kc va vc ha hc fa fc := by
  obtain ⟨y0, y1, y2, y3, y4, y5, y6, y7, n', hl, h0, h1, h2, h3, h4, h5, h6, h7⟩ := struct8s Tryz.underlying35 h
  rw [cells_aop23] at hl
  obtain ⟨a0, e0, _, _⟩ := DataW.trod_int Tryz.underlying3 h0
  obtain ⟨a1, e1, _, _⟩ := DataW.trod_int Tryz.underlying3 h1
  obtain ⟨a2, e2, _, _⟩ := DataW.trod_int Tryz.underlying3 h2
  obtain ⟨a3, e3, _, _⟩ := DataW.trod_int Tryz.underlying3 h3
  obtain ⟨ka, kn, kc, zk, e4, b4, t4⟩ := bytes_openD h4
  obtain ⟨va, vn, vc, zv, e5, b5, t5⟩ := bytes_openD h5
  obtain ⟨ha, hn, hc, zh, e6, b6, t6⟩ := bytes_openD h6
  obtain ⟨fa, fn, fc, fl, e7, b7, l7⟩ := fates_open23 h7
  simp only [cells_i23, cells_bytesD, cells_fates23] at e0 e1 e2 e3 e4 e5 e6 e7
  match cs, hl with
  | [c0, c1, c2, c3, c4, c5, c6, c7], _ =>
    simp at e0 e1 e2 e3 e4 e5 e6 e7
    have l4 := b4.len
    have l5 := b5.len
    have l6 := b6.len
    subst l4 l5 l6 l7
    exact ⟨⟨a0, a1, a2, a3, zk, zv, zh, fl⟩, ka, kc, va, vc, ha, hc, fa, fc, by rw [e0, e1, e2, e3, e4, e5, e6, e7], b4, b5, b6, b7, t4, t5, t6⟩
set_option maxRecDepth 100000 in
/-- A list of steps that came in. -/
theorem ops_open23 {H : Type} {enc : TypeId × Value → H} {w : World} {base : Nat} {held : Bool} {fuel : Nat} {cs : List Value} {x : DataW H × List MemPlace}
    (h : DataW.trod enc Tryz.prog w base (fun _ => true) held fuel 22 cs = some x) : ∃ a len cap l, cs = [.slice a len cap] ∧ OpsR w a l ∧ l.length = len := by
  rcases open_slice Tryz.underlying22 h with ⟨hcs, _⟩ | ⟨ad, l, c, m, n, D, Pc, hcs, _, hl, hm, hmm, _, hel⟩
  · exact ⟨none, 0, 0, [], hcs, fun i e he => by simp at he, rfl⟩
  · have hlm : l ≤ m := by rw [hmm]; split <;> omega
    have each : ∀ i, i < l → ∃ o : Opq, ∃ ka kc va vc ha hc fa fc, (∀ j u, ([.int .i64 o.k, .int .i64 o.a, .int .i64 o.b, .int .i64 o.c, .slice ka o.key.length kc, .slice va o.val.length vc, .slice ha o.hi.length hc, .slice fa o.f.length fc] : List Value)[j]? = some u → w.cell? ((ad.add (i * 8)).add j) = some u) ∧ OpR w o ka kc va vc ha hc fa fc := by
      intro i hi
      obtain ⟨cs', h1, h2⟩ := hel i (by omega)
      rw [cells_aop23] at h1
      obtain ⟨o, ka, kc, va, vc, ha, hc, fa, fc, rfl, hop⟩ := op_open23 h2
      obtain ⟨_, _, hcc⟩ := World.cells?_some h1
      refine ⟨o, ka, kc, va, vc, ha, hc, fa, fc, fun j u hu => ?_, hop⟩
      have hj := (List.getElem?_eq_some_iff.1 hu).1
      rw [hcc j (by simpa using hj)]
      exact hu
    clear hel
    have each2 : ∀ i, i < l → ∃ o : Opq, ∃ g off ka kc va vc ha hc fa fc, ad = ⟨g, off, none⟩ ∧ (∀ j u, ([.int .i64 o.k, .int .i64 o.a, .int .i64 o.b, .int .i64 o.c, .slice ka o.key.length kc, .slice va o.val.length vc, .slice ha o.hi.length hc, .slice fa o.f.length fc] : List Value)[j]? = some u → w.cell? ⟨g, off + i * 8 + j, none⟩ = some u) ∧ OpR w o ka kc va vc ha hc fa fc := by
      intro i hi
      obtain ⟨g, off, e⟩ : ∃ b off, ad = ⟨b, off, none⟩ := by
        obtain ⟨_, _, _, _, _, _, _, _, _, h6, _⟩ := each 0 (by omega)
        have h7 := h6 0 _ rfl
        have e' : (ad.add (0 * 8)).add 0 = ad := by simp [Addr.add]
        rw [e'] at h7
        exact cell_plainD h7
      subst e
      obtain ⟨o, ka, kc, va, vc, ha, hc, fa, fc, h3, h4⟩ := each i hi
      refine ⟨o, g, off, ka, kc, va, vc, ha, hc, fa, fc, rfl, fun j u hu => ?_, h4⟩
      have := h3 j u hu
      simpa only [Addr.add_lit] using this
    obtain ⟨L, hL, hP⟩ := list_ofD (Opq.zero 0) l each2
    refine ⟨_, _, _, L, hcs, fun i o ho => ?_, hL⟩
    obtain ⟨hi, e⟩ := List.getElem?_eq_some_iff.1 ho
    obtain ⟨g, off, ka, kc, va, vc, ha, hc, fa, fc, h1, h2, h3⟩ := hP i (by omega)
    have e2 : L.getD i (Opq.zero 0) = o := by simp [List.getD, ho]
    rw [e2] at h2 h3
    exact ⟨g, off, ka, kc, va, vc, ha, hc, fa, fc, by rw [h1], h2, h3⟩
set_option maxRecDepth 100000 in
/-- A script that came in. -/
theorem script_open23 {H : Type} {enc : TypeId × Value → H} {w : World} {base : Nat} {held : Bool} {r : Reach} {b0 : Nat} {v : Value} {d : DataW H} {ps : List MemPlace} (hval : Value.okWide Tryz.prog w r b0 24 v) (hd : DataW.Trod enc Tryz.prog w base (fun _ => true) held 24 v d ps) :
    ∃ x a len cap l, v = .agg #[.int .i64 x, .slice a len cap] ∧ OpsR w a l ∧ l.length = len := by
  obtain ⟨cs, rfl, hsz⟩ := okWide_struct Tryz.underlying24 hval
  obtain ⟨fuel, h⟩ := hd
  obtain ⟨y0, y1, n', _, hl, h0, h1⟩ := trod_struct2 Tryz.underlying24 h
  obtain ⟨x, e0, _, _⟩ := DataW.trod_int Tryz.underlying3 h0
  obtain ⟨a, len, cap, l, e1, hR, hlen⟩ := ops_open23 h1
  simp only [cells_i23, cells_aops23, Value.cells] at e0 e1
  obtain ⟨cl⟩ := cs
  rw [cells_scr23] at hsz
  match cl, hsz with
  | [c0, c1], _ =>
    simp at e0 e1
    exact ⟨x, a, len, cap, l, by rw [e0, e1], hR, hlen⟩
end Go.Proofs.YtcjgmiilfjjbcaaGreatDoor
