import Derived.Test.YtkiopabcnemgnaaGreatDoorQ24
import Derived.Test.YtkiopabcnemgnaaGreatDoorQ49
import Derived.Test.YtkiopabcnemgnaaGreatDoorQ48
namespace Go.Proofs.YtkiopabcnemgnaaGreatDoor
open Go.ChangeShapes Go.WideShapes Go.ChangeAt Go.WideMaps Go.WideElems Go.RowKit Go.Deep
structure El8 (w : World) (a : Option Addr) (m : Nat) : Prop where
 row : ∀ i, i < m → ∃ b off x y s, a = some ⟨b, off, none⟩ ∧ w.cell? ⟨b, off + i * 3, none⟩ = some (.int .i64 x) ∧ w.cell? ⟨b, off + i * 3 + 1, none⟩ = some (.int .u8 y) ∧ w.cell? ⟨b, off + i * 3 + 2, none⟩ = some (.bool s) ∧ 0 ≤ y ∧ y ≤ 255
theorem El8.keptN {w w' : World} {a : Option Addr} {m : Nat} (h : El8 w a m) (hg : w.grownBy w' none) : El8 w' a m := by
 refine ⟨fun i hi => ?_⟩
 obtain ⟨b, off, x, y, s, h1, h2, h3, h4, h5⟩ := h.row i hi
 exact ⟨b, off, x, y, s, h1, hg.cell h2 (by simp), hg.cell h3 (by simp), hg.cell h4 (by simp), h5⟩
theorem cells_bool8 : Tryz.prog.cellsOf 4 = 1 := by kernel_rfl
theorem cells_edit8 : Tryz.prog.cellsOf 95 = 3 := by kernel_rfl
theorem struct3 {H : Type} {enc : TypeId × Value → H} {P : Program} {w : World} {base : Nat} {spare : Nat → Bool} {held : Bool} {t : TypeId} {f0 f1 f2 : Field} {fuel : Nat} {cs : List Value} {x : DataW H × List MemPlace} (ht : P.underlying t = some (.struct #[f0, f1, f2])) (h : DataW.trod enc P w base spare held fuel t cs = some x) :
  ∃ y0 y1 y2 n, cs.length = P.cellsOf t ∧ DataW.trod enc P w base spare held n f0.type ((cs.drop f0.offset).take (P.cellsOf f0.type)) = some y0 ∧ DataW.trod enc P w base spare held n f1.type ((cs.drop f1.offset).take (P.cellsOf f1.type)) = some y1 ∧
   DataW.trod enc P w base spare held n f2.type ((cs.drop f2.offset).take (P.cellsOf f2.type)) = some y2 := by
 obtain ⟨xs, n, _, rfl, hl, hlen, hf⟩ := DataW.trod_struct ht h
 match xs, hlen with
 | [y0, y1, y2], _ => exact ⟨y0, y1, y2, n, hl, by simpa using hf 0 f0 rfl, by simpa using hf 1 f1 rfl, by simpa using hf 2 f2 rfl⟩
set_option maxRecDepth 100000 in
theorem edits_open8 {H : Type} {enc : TypeId × Value → H} {w : World} {base : Nat} {held : Bool} {fuel : Nat} {a : Option Addr} {len cap : Nat} {x : DataW H × List MemPlace}
  (h : DataW.trod enc Tryz.prog w base (fun _ => true) held fuel 49 [.slice a len cap] = some x) : El8 w a len ∧ len ≤ cap ∧ cap ≤ 9223372036854775807 := by
 rcases open_slice Tryz.underlying49 h with ⟨hcs, _⟩ | ⟨ad, l, c, m, n, D, Pc, hcs, _, hl, hm, hmm, _, hel⟩
 ·simp at hcs
  obtain ⟨rfl, rfl, rfl⟩ := hcs
  exact ⟨⟨fun i hi => by omega⟩, Nat.le_refl _, by omega⟩
 ·simp at hcs
  obtain ⟨rfl, rfl, rfl⟩ := hcs
  have hlm : len ≤ m := by rw [hmm]; split <;> omega
  have each : ∀ i, i < len → ∃ (x y : Int) (s : Bool), w.cell? ((ad.add (i * 3)).add 0) = some (.int .i64 x) ∧ w.cell? ((ad.add (i * 3)).add 1) = some (.int .u8 y) ∧ w.cell? ((ad.add (i * 3)).add 2) = some (.bool s) ∧ 0 ≤ y ∧ y ≤ 255 := by
   intro i hi
   obtain ⟨cs', h1, h2⟩ := hel i (by omega)
   rw [cells_edit8] at h1
   obtain ⟨y0, y1, y2, n', hl', h3, h4, h5⟩ := struct3 Tryz.underlying95 h2
   rw [cells_edit8] at hl'
   obtain ⟨s, e2, _, ws⟩ := DataW.trod_int Tryz.underlying3 h3
   obtain ⟨f, e3, _, wf⟩ := DataW.trod_int Tryz.underlying5 h4
   obtain ⟨b, e4, _⟩ := DataW.trod_bool Tryz.underlying4 h5
   simp only [cells_int] at e2
   simp only [cells_u8] at e3
   simp only [cells_bool8] at e4
   have hf := bounds_u8 wf
   match cs', hl', h1 with
   | [c0, c1, c2], _, h1 =>
    simp at e2 e3 e4
    obtain ⟨_, _, hc⟩ := World.cells?_some h1
    exact ⟨s, f, b, by rw [← e2]; simpa using hc 0 (by omega), by rw [← e3]; simpa using hc 1 (by omega), by rw [← e4]; simpa using hc 2 (by omega), hf⟩
  clear hel
  refine ⟨⟨fun i hi => ?_⟩, hl, by unfold maxLen at hm; omega⟩
  obtain ⟨b, off, rfl⟩ : ∃ b off, ad = ⟨b, off, none⟩ := by
   obtain ⟨_, _, _, h6, _⟩ := each 0 (by omega)
   have e' : (ad.add (0 * 3)).add 0 = ad := by simp [Addr.add]
   rw [e'] at h6
   exact cell_plain h6
  obtain ⟨x, y, s, h3, h4, h5, h6⟩ := each i hi
  simp only [Addr.add_lit, Nat.add_zero] at h3 h4 h5
  exact ⟨b, off, x, y, s, rfl, h3, h4, h5, h6⟩
set_option maxHeartbeats 1000000 in
theorem refSeal8_new (ao : Option Addr) (cap : Nat) (zs : List Int) (w : World) (hb : Byt w ao 4092 cap zs) (bt : Bt zs) :
  Calls Tryz.prog 24 #[.slice ao 4092 cap] w fun e w' => ∃ g c, e = .returned (.tuple #[.slice (some ⟨g, 0, none⟩) 4096 c, .int .i64 0]) ∧ Ow w' g c (zs ++ low4 (upd 0 zs)) ∧ w.heap.size ≤ g ∧ w.grownBy w' none := by
 have HB := hid_intro hb
 clear hb
 go_enter Tryz.func24, Tryz.ntmps24
 go_wp2_with fail
 refine (refBytes_any ao 4092 cap zs w HB.out (by omega)).mono ?_
 rintro e w1 ⟨rfl, hown1, hg1, hs1⟩
 have G1 := hid_intro hg1
 clear hg1
 go_wp2_with fail
 refine (refSum_any ao 4092 cap zs w1 (HB.out.keptN G1.out) bt (by omega)).mono ?_
 rintro e w2 ⟨rfl, rfl⟩
 have hl := upd_lt 0 zs
 generalize hs : upd 0 zs = s at *
 have HS := hid_intro hs
 clear hs
 go_wp2_with fail
 refine (low_any s w2 hl).mono ?_
 rintro e w3 ⟨rfl, hb3, hg3⟩
 have hown3 := hown1.kept hg3 (by simp [Value.ownBlock])
 have G3 := hid_intro (grown_trans G1.out hg3)
 have HB3 := hid_intro hb3
 clear hown1 hg3 G1 hb3
 go_wp2_with (at_builtin; refine wpList_append_byt rfl _ _ rfl w.heap.size _ 4092 zs rfl hown3 _ 4 4 (low4 s) rfl HB3.out (by omega) (by have := G3.out.size; omega) ?_)
 intro v w4 hown4 hg4
 have G4 := hid_intro (grown_own1 G3.out hown3 (Nat.le_refl _) hg4)
 have hown4 : w4.ownsRow w.heap.size 5 1 v (4092 + 4) ((zs ++ low4 s).map (Value.int .u8)) := by rw [List.map_append]; exact hown4
 obtain ⟨g, c, rfl, hbg, hlt, hnc⟩ := owns_shape hown4 (by omega)
 have B4 := hid_intro (Ow.of_owns hown4).1
 clear hown3 hown4 hg4 G3 HB3
 go_wp2
 go_ret2
 rw [HS.out]
 exact ⟨g, c, rfl, B4.out, hbg, G4.out⟩
set_option maxHeartbeats 2000000 in
set_option maxRecDepth 100000 in
theorem edited8_any (ao : Option Addr) (c : Nat) (zs : List Int) (a : Option Addr) (m cap : Nat) (w : World) (hb : Byt w ao 4096 c zs) (hbt : Bt zs) (hel : El8 w a m) :
  Calls Tryz.prog 25 #[.slice ao 4096 c, .slice a m cap] w fun en w' => (∃ g d, en = .returned (.slice (some ⟨g, 0, none⟩) 4096 d) ∧ ∃ ys, Byt w' (some ⟨g, 0, none⟩) 4096 d ys ∧ Bt ys ∧ 4096 ≤ d) ∧ w.grownBy w' none := by
 have HB := hid_intro hb
 have HE := hid_intro hel
 have hl := hb.len
 clear hb hel
 go_enter Tryz.func25, Tryz.ntmps25
 go_wp2_with fail
 refine (refBytes_any ao 4096 c zs _ HB.out (by omega)).mono ?_
 rintro en w2 ⟨rfl, hown2, hg2, hs2⟩
 have R2 := hid_intro (Ow.of_owns hown2).1
 have G2 := hid_intro hg2
 clear hown2 hg2
 go_wp2
 go_loopw [5, 6] (fun sc si wr => ∃ (i : Nat) (g d : Nat) (ys : List Int), i ≤ 20 ∧ si = .int .i64 i ∧ sc = .slice (some ⟨g, 0, none⟩) 4096 d ∧ w.heap.size ≤ g ∧ Ow wr g d ys ∧ ys.length = 4096 ∧ Bt ys ∧ w.grownBy wr none) (fun _ si _ => 20 - (intOf si).toNat)
 case atStart => exact ⟨0, w.heap.size, 4096, zs, by omega, rfl, rfl, Nat.le_refl _, R2.out, hl, hbt, G2.out⟩
 case round =>
  obtain ⟨i, g, d, ys, hi, rfl, rfl, hgb, hr, hyl, hyb, hg⟩ := hrel
  have HR := hid_intro hr
  have HG := hid_intro hg
  have HYB := hid_intro hyb
  have hdl := hr.le
  have hdm := hr.max
  rw [hyl] at hdl
  clear hr hg hyb R2 G2
  by_cases h1 : i < m
  ·have h1' : (i : Int) < (m : Int) := by omega
   by_cases h2 : i < 20
   ·have h2' : (i : Int) < 20 := by omega
    obtain ⟨b, off, x, y, s, rfl, q1, q2, q3, hy0, hy1⟩ := HE.out.row i h1
    have c0 := HG.out.cell q1 (by simp)
    have c1 := HG.out.cell q2 (by simp)
    have c2 := HG.out.cell q3 (by simp)
    have HC2 := hid_intro q3
    obtain ⟨j, z, hj, hz, hz1, hz2, hj2⟩ := placeN x 4096 (by omega)
    have cb := HR.out.cell (j := j) (by omega)
    have cf := HR.out.frozen j
    have hby := HYB.out.getD j
    have hxy := xor_byte5 hby ⟨hy0, hy1⟩
    have HR1 := hid_intro (HR.out.set j (bits .xor .u8 (ys.getD j 0) y) (by omega))
    have HB1 : Hid (Bt (ys.set j (bits .xor .u8 (ys.getD j 0) y))) := HYB.out.set5 j _ hxy
    have HL1 : Hid ((ys.set j (bits .xor .u8 (ys.getD j 0) y)).length = 4096) := by show _ = _; rw [List.length_set]; exact hyl
    have HG1 := hid_intro (grown_new HG.out (grown_cell wr g j (.int .u8 (bits .xor .u8 (ys.getD j 0) y))) (by omega))
    generalize ys.set j (bits .xor .u8 (ys.getD j 0) y) = ys' at *
    generalize ys.getD j 0 = by0 at *
    have g5 : (0 : Int) ≤ (j : Int) := by omega
    have g6 : (j : Int) < 4096 := by omega
    have g7 : (0 : Int) ≤ (i : Int) := by omega
    have hz' : Int.tmod x 4096 = z := hz
    have hj2' : Int.tmod (z + 4096) 4096 = (j : Int) := hj2
    have hw1 : IntKind.i64.wrap (z + 4096) = z + 4096 := by simp [IntKind.wrap, IntKind.bits, IntKind.signed]; omega
    clear hz hj2 q1 q2 q3
    go_wp2_with fail
    go_region
    all_goals
     have gd := (Qt.refl (wr.setCell ⟨g, j, none⟩ (.int .u8 (bits .xor .u8 by0 y)))).drew.grown none
     have HR2 := hid_intro (HR1.out.keptN gd)
     have HG2 := hid_intro (grown_trans HG1.out gd)
     clear gd c0 c1 c2 cb cf HR1 HG1 HR HG
     first
     | generalize (wr.setCell ⟨g, j, none⟩ (.int .u8 (bits .xor .u8 by0 y))).drew = w5 at *
     | generalize wr.drew.setCell ⟨g, j, none⟩ (.int .u8 (bits .xor .u8 by0 y)) = w5 at *
     have c2 := HG2.out.cell HC2.out (by simp)
     cases s with
     | false =>
      go_wp2
      go_roundw
      case rel => exact ⟨i + 1, g, d, ys', by omega, by go_num, rfl, hgb, HR2.out, HL1.out, HB1.out, HG2.out⟩
      case measure => simp [intOf]; omega
     | true =>
      have B5 : Hid (Byt w5 (some ⟨g, 0, none⟩) 4092 d (ys'.take 4092)) := (HR2.out.byt 4096 HL1.out.symm).take 4092 d (by omega) (by intro e; cases e)
      have g8 : (4092 : Int) ≤ (d : Int) := by omega
      go_wp2_with fail
      refine (refSeal8_new _ d (ys'.take 4092) _ B5.out (HB1.out.take _)).mono ?_
      rintro en w6 ⟨g2, d2, rfl, ho6, hb6, hg6⟩
      have O6 := hid_intro ho6
      have G6 := hid_intro (grown_trans HG2.out hg6)
      have hs6 := HG2.out.size
      have HB6 : Hid (Bt (ys'.take 4092 ++ low4 (upd 0 (ys'.take 4092)))) := (HB1.out.take _).app (fun z hz => low4_bts _ z hz)
      have HL6 : Hid ((ys'.take 4092 ++ low4 (upd 0 (ys'.take 4092))).length = 4096) := by show _ = _; rw [List.length_append, List.length_take, HL1.out]; rfl
      clear ho6 hg6 HR2 HG2 B5
      go_wp2
      go_roundw
      case rel => exact ⟨i + 1, g2, d2, _, by omega, by go_num, rfl, by omega, O6.out, HL6.out, HB6.out, G6.out⟩
      case measure => simp [intOf]; omega
   ·have h2' : ¬ (i : Int) < 20 := by omega
    go_wp2
    go_ret
    exact ⟨⟨g, d, rfl, ys, HR.out.byt 4096 hyl.symm, HYB.out, hdl⟩, HG.out⟩
  ·have h1' : ¬ (i : Int) < (m : Int) := by omega
   go_wp2
   go_ret
   exact ⟨⟨g, d, rfl, ys, HR.out.byt 4096 hyl.symm, HYB.out, hdl⟩, HG.out⟩
end Go.Proofs.YtkiopabcnemgnaaGreatDoor
