import Derived.Test.YtcfmkpgfeodhaaaGreatDoorQ20
import Derived.ProofKit
import Derived.OpenShut
import Derived.Deep.Slices
import Derived.ChangeSame
namespace Go.Proofs.YtcfmkpgfeodhaaaGreatDoor
open Go.ChangeShapes Go.WideShapes Go.ChangeAt Go.WideMaps Go.WideElems Go.RowKit Go.Deep
theorem cells_int17 : Tryz.prog.cellsOf 3 = 1 := by kernel_rfl
theorem cells_bool17 : Tryz.prog.cellsOf 4 = 1 := by kernel_rfl
theorem cells_ints17 : Tryz.prog.cellsOf 22 = 1 := by kernel_rfl
theorem cells_op17 : Tryz.prog.cellsOf 48 = 5 := by kernel_rfl
theorem cell_plain17 {w : World} {a : Addr} {v : Value} (h : w.cell? a = some v) : ∃ b off, a = ⟨b, off, none⟩ := by
 obtain ⟨b, off, spot⟩ := a
 have : spot = none := World.cell?_spot h
 exact ⟨b, off, by rw [this]⟩
theorem list_of17 {T : Type} (d : T) {P : Nat → T → Prop} : ∀ (n : Nat), (∀ i, i < n → ∃ x, P i x) → ∃ L : List T, L.length = n ∧ ∀ i, i < n → P i (L.getD i d)
 | 0, _ => ⟨[], rfl, fun i hi => by omega⟩
 | n + 1, h => by
  obtain ⟨L, hl, hL⟩ := list_of17 d n (fun i hi => h i (by omega))
  obtain ⟨z, hz⟩ := h n (by omega)
  refine ⟨L ++ [z], by simp [hl], fun i hi => ?_⟩
  by_cases hin : i < n
  ·have e : (L ++ [z]).getD i d = L.getD i d := by simp [List.getD, List.getElem?_append_left (show i < L.length by omega)]
   rw [e]; exact hL i hin
  ·have : i = n := by omega
   subst this
   have e : (L ++ [z]).getD i d = z := by subst hl; simp [List.getD]
   rw [e]; exact hz
theorem struct517 {H : Type} {enc : TypeId × Value → H} {P : Program} {w : World} {base : Nat} {spare : Nat → Bool} {held : Bool} {t : TypeId} {f0 f1 f2 f3 f4 : Field} {fuel : Nat} {cs : List Value} {x : DataW H × List MemPlace} (ht : P.underlying t = some (.struct #[f0, f1, f2, f3, f4])) (h : DataW.trod enc P w base spare held fuel t cs = some x) :
  ∃ y0 y1 y2 y3 y4 n, cs.length = P.cellsOf t ∧ DataW.trod enc P w base spare held n f0.type ((cs.drop f0.offset).take (P.cellsOf f0.type)) = some y0 ∧ DataW.trod enc P w base spare held n f1.type ((cs.drop f1.offset).take (P.cellsOf f1.type)) = some y1 ∧
   DataW.trod enc P w base spare held n f2.type ((cs.drop f2.offset).take (P.cellsOf f2.type)) = some y2 ∧ DataW.trod enc P w base spare held n f3.type ((cs.drop f3.offset).take (P.cellsOf f3.type)) = some y3 ∧ DataW.trod enc P w base spare held n f4.type ((cs.drop f4.offset).take (P.cellsOf f4.type)) = some y4 := by
 obtain ⟨xs, n, _, rfl, hl, hlen, hf⟩ := DataW.trod_struct ht h
 match xs, hlen with
 | [y0, y1, y2, y3, y4], _ => exact ⟨y0, y1, y2, y3, y4, n, hl, by simpa using hf 0 f0 rfl, by simpa using hf 1 f1 rfl, by simpa using hf 2 f2 rfl, by simpa using hf 3 f3 rfl, by simpa using hf 4 f4 rfl⟩
set_option maxRecDepth 100000 in
theorem ints_open17 {H : Type} {enc : TypeId × Value → H} {w : World} {base : Nat} {held : Bool} {fuel : Nat} {cs : List Value} {x : DataW H × List MemPlace}
  (h : DataW.trod enc Tryz.prog w base (fun _ => true) held fuel 22 cs = some x) : ∃ a len cap L, cs = [.slice a len cap] ∧ Nt w a L ∧ L.length = len ∧ Wf L := by
 rcases open_ints Tryz.underlying22 Tryz.underlying3 (by kernel_rfl) h with ⟨hcs, _⟩ | ⟨x, l, c, zs, hcs, _, hl, hm, hz, hx, hcell, hwz⟩
 ·exact ⟨_, _, _, [], hcs, Nt.zero w _, rfl, Wf.nil⟩
 ·have hz' : zs.length = c := by simpa using hz
  exact ⟨_, _, _, _, hcs, nt_of_row hl hz' hcell, by rw [List.length_take]; omega, fun z hz => of_wf64 (hwz z (List.mem_of_mem_take hz))⟩
set_option maxRecDepth 100000 in
theorem op_open17 {H : Type} {enc : TypeId × Value → H} {w : World} {base : Nat} {held : Bool} {fuel : Nat} {cs : List Value} {x : DataW H × List MemPlace}
  (h : DataW.trod enc Tryz.prog w base (fun _ => true) held fuel 48 cs = some x) : ∃ o : Opq, cs = [.int .i64 o.k, .int .i64 o.a, .int .i64 o.b, .slice o.ao o.n o.c, .bool o.sec] ∧ Opm w o := by
 obtain ⟨y0, y1, y2, y3, y4, n', hl, h0, h1, h2, h3, h4⟩ := struct517 Tryz.underlying48 h
 rw [cells_op17] at hl
 obtain ⟨a0, e0, _, w0⟩ := DataW.trod_int Tryz.underlying3 h0
 obtain ⟨a1, e1, _, w1⟩ := DataW.trod_int Tryz.underlying3 h1
 obtain ⟨a2, e2, _, w2⟩ := DataW.trod_int Tryz.underlying3 h2
 obtain ⟨ao, n, c, L, e3, b3, t3, f3⟩ := ints_open17 h3
 obtain ⟨s, e4, _⟩ := DataW.trod_bool Tryz.underlying4 h4
 match cs, hl with
 | [c0, c1, c2, c3, c4], _ =>
  simp only [cells_ints17, cells_bool17, cells_int17] at e0 e1 e2 e3 e4
  simp at e0 e1 e2 e3 e4
  refine ⟨⟨a0, a1, a2, ao, n, c, L, s⟩, by rw [e0, e1, e2, e3, e4], ⟨b3, t3, f3, of_wf64 w1, of_wf64 w2, fun ad ead h0 => ?_⟩⟩
  have h0n : 0 < n := h0
  obtain ⟨b, off, eao, hb⟩ := b3.where (by omega)
  simp only at ead
  rw [eao] at ead
  rw [← Option.some.inj ead]
  exact hb
set_option maxRecDepth 100000 in
theorem ops_open {H : Type} {enc : TypeId × Value → H} {w : World} {base : Nat} {held : Bool} {fuel : Nat} {a : Option Addr} {len cap : Nat} {x : DataW H × List MemPlace}
  (h : DataW.trod enc Tryz.prog w base (fun _ => true) held fuel 23 [.slice a len cap] = some x) : ∃ L, Opl w a L ∧ L.length = len ∧ len ≤ cap ∧ cap ≤ 9223372036854775807 := by
 rcases open_slice Tryz.underlying23 h with ⟨hcs, _⟩ | ⟨ad, l, c, m, n, D, Pc, hcs, _, hl, hm, hmm, hx, hel⟩
 ·simp at hcs
  obtain ⟨rfl, rfl, rfl⟩ := hcs
  exact ⟨[], ⟨fun j o hj => by simp at hj⟩, rfl, Nat.le_refl _, by omega⟩
 ·simp at hcs
  obtain ⟨rfl, rfl, rfl⟩ := hcs
  have hlm : len ≤ m := by rw [hmm]; split <;> omega
  have each : ∀ i, i < len → ∃ o : Opq, Opm w o ∧ ∀ j u, [Value.int .i64 o.k, .int .i64 o.a, .int .i64 o.b, .slice o.ao o.n o.c, .bool o.sec][j]? = some u → w.cell? ((ad.add (i * 5)).add j) = some u := by
   intro i hi
   obtain ⟨cs', h1, h2⟩ := hel i (by omega)
   rw [cells_op17] at h1
   obtain ⟨o, rfl, ho⟩ := op_open17 h2
   obtain ⟨_, _, hc⟩ := World.cells?_some h1
   refine ⟨o, ho, fun j u hu => ?_⟩
   have hj := (List.getElem?_eq_some_iff.1 hu).1
   rw [hc j (by simpa using hj)]
   exact hu
  by_cases h0 : len = 0
  ·subst h0
   exact ⟨[], ⟨fun j o hj => by simp at hj⟩, rfl, hl, by unfold maxLen at hm; omega⟩
  obtain ⟨b, off, rfl⟩ : ∃ b off, ad = ⟨b, off, none⟩ := by
   obtain ⟨_, _, h6⟩ := each 0 (by omega)
   have h7 := h6 0 _ rfl
   have e' : (ad.add (0 * 5)).add 0 = ad := by simp [Addr.add]
   rw [e'] at h7
   exact cell_plain17 h7
  obtain ⟨L, hL, hP⟩ := list_of17 (⟨0, 0, 0, none, 0, 0, [], false⟩ : Opq) len each
  refine ⟨L, ⟨fun i o ho => ?_⟩, hL, hl, by unfold maxLen at hm; omega⟩
  have hi : i < len := by rw [← hL]; exact (List.getElem?_eq_some_iff.1 ho).1
  obtain ⟨h3, h4⟩ := hP i hi
  have e : L.getD i ⟨0, 0, 0, none, 0, 0, [], false⟩ = o := by simp [List.getD, ho]
  rw [e] at h3 h4
  have k0 := h4 0 _ rfl
  have k1 := h4 1 _ rfl
  have k2 := h4 2 _ rfl
  have k3 := h4 3 _ rfl
  have k4 := h4 4 _ rfl
  simp only [Addr.add_lit, Nat.add_zero] at k0 k1 k2 k3 k4
  exact ⟨h3, b, off, rfl, k0, k1, k2, k3, k4⟩
end Go.Proofs.YtcfmkpgfeodhaaaGreatDoor
