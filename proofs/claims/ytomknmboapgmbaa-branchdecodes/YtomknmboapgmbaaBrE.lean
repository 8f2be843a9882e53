import Derived.Test.YtomknmboapgmbaaBrR4
namespace Go.Proofs.Ytomknmboapgmbaa
open Go.ChangeShapes Go.WideShapes Go.ChangeAt Go.WideMaps Go.WideElems Go.RowKit Go.Deep

/-- A list of edits. -/
structure El (w : World) (a : Option Addr) (m : Nat) : Prop where
  row : ∀ i, i < m → ∃ b off x y, a = some ⟨b, off, none⟩ ∧ w.cell? ⟨b, off + i * 2, none⟩ = some (.int .i64 x) ∧ w.cell? ⟨b, off + i * 2 + 1, none⟩ = some (.int .u8 y) ∧ 0 ≤ y ∧ y ≤ 255
theorem El.keptN {w w' : World} {a : Option Addr} {m : Nat} (h : El w a m) (hg : w.grownBy w' none) : El w' a m := by
  refine ⟨fun i hi => ?_⟩
  obtain ⟨b, off, x, y, h1, h2, h3, h4⟩ := h.row i hi
  exact ⟨b, off, x, y, h1, hg.cell h2 (by simp), hg.cell h3 (by simp), h4⟩
theorem cells_u8 : Try.prog.cellsOf 5 = 1 := by kernel_rfl
theorem cells_edit : Try.prog.cellsOf 64 = 2 := by kernel_rfl

set_option maxRecDepth 100000 in
theorem edits_open {H : Type} {enc : TypeId × Value → H} {w : World} {base : Nat} {held : Bool} {fuel : Nat} {a : Option Addr} {len cap : Nat} {x : DataW H × List MemPlace}
    (h : DataW.trod enc Try.prog w base (fun _ => true) held fuel 43 [.slice a len cap] = some x) : El w a len ∧ len ≤ cap ∧ cap ≤ 9223372036854775807 := by
  rcases open_slice Try.underlying43 h with ⟨hcs, _⟩ | ⟨ad, l, c, m, n, D, Pc, hcs, _, hl, hm, hmm, _, hel⟩
  · simp at hcs
    obtain ⟨rfl, rfl, rfl⟩ := hcs
    exact ⟨⟨fun i hi => by omega⟩, Nat.le_refl _, by omega⟩
  · simp at hcs
    obtain ⟨rfl, rfl, rfl⟩ := hcs
    have hlm : len ≤ m := by rw [hmm]; split <;> omega
    have each : ∀ i, i < len → ∃ x y : Int, w.cell? ((ad.add (i * 2)).add 0) = some (.int .i64 x) ∧ w.cell? ((ad.add (i * 2)).add 1) = some (.int .u8 y) ∧ 0 ≤ y ∧ y ≤ 255 := by
      intro i hi
      obtain ⟨cs', h1, h2⟩ := hel i (by omega)
      rw [cells_edit] at h1
      obtain ⟨y0, y1, n', hl', h3, h4⟩ := struct2 Try.underlying64 h2
      rw [cells_edit] at hl'
      obtain ⟨s, e2, _, ws⟩ := DataW.trod_int Try.underlying3 h3
      obtain ⟨f, e3, _, wf⟩ := DataW.trod_int Try.underlying5 h4
      simp only [cells_int] at e2
      simp only [cells_u8] at e3
      have hf := bounds_u8 wf
      match cs', hl', h1 with
      | [c0, c1], _, h1 =>
        simp at e2 e3
        obtain ⟨_, _, hc⟩ := World.cells?_some h1
        exact ⟨s, f, by rw [← e2]; simpa using hc 0 (by omega), by rw [← e3]; simpa using hc 1 (by omega), hf⟩
    clear hel
    refine ⟨⟨fun i hi => ?_⟩, hl, by unfold maxLen at hm; omega⟩
    obtain ⟨b, off, rfl⟩ : ∃ b off, ad = ⟨b, off, none⟩ := by
      obtain ⟨_, _, h6, _⟩ := each 0 (by omega)
      have e' : (ad.add (0 * 2)).add 0 = ad := by simp [Addr.add]
      rw [e'] at h6
      exact cell_plain h6
    obtain ⟨x, y, h3, h4, h5⟩ := each i hi
    simp only [Addr.add_lit, Nat.add_zero] at h3 h4
    exact ⟨b, off, x, y, rfl, h3, h4, h5⟩

theorem Rw.set6 {w : World} {g : Nat} {zs : List Int} (h : Rw w g zs) (j : Nat) (z : Int) : Rw (w.setCell ⟨g, j, none⟩ (.int .u8 z)) g (zs.set j z) := by
  unfold Rw
  rw [heap_setCell_same w g j _ _ (.int .u8 z) h]
  simp [List.map_set]

set_option maxHeartbeats 2000000 in
set_option maxRecDepth 100000 in
theorem edited_any (ao : Option Addr) (c : Nat) (zs : List Int) (a : Option Addr) (m cap : Nat) (w : World) (hb : Byt w ao 4092 c zs) (hbt : Bt zs) (hel : El w a m) :
    Calls Try.prog 24 #[.slice ao 4092 c, .slice a m cap] w fun en w' => (∃ g, en = .returned (.slice (some ⟨g, 0, none⟩) 4092 4092) ∧ ∃ ys, Byt w' (some ⟨g, 0, none⟩) 4092 4092 ys ∧ Bt ys) ∧ w.grownBy w' none := by
  have HB := hid_intro hb
  have HE := hid_intro hel
  have hl := hb.len
  clear hb hel
  go_enter Try.func24, Try.ntmps24
  go_wp2_with fail
  refine (refBytes_any ao 4092 c zs _ HB.out (by omega)).mono ?_
  rintro en w2 ⟨rfl, hown2, hg2, hs2⟩
  have R2 := hid_intro (Rw.of_owns hown2)
  have G2 := hid_intro hg2
  clear hown2 hg2
  generalize hgg : w.heap.size = g at *
  go_wp2
  go_loopw [6] (fun si wr => ∃ (i : Nat) (ys : List Int), i ≤ 20 ∧ si = .int .i64 i ∧ Rw wr g ys ∧ ys.length = 4092 ∧ Bt ys ∧ w.grownBy wr none) (fun si _ => 20 - (intOf si).toNat)
  case atStart => exact ⟨0, zs, by omega, rfl, R2.out, hl, hbt, G2.out⟩
  case round =>
    obtain ⟨i, ys, hi, rfl, hr, hyl, hyb, hg⟩ := hrel
    have HR := hid_intro hr
    have HG := hid_intro hg
    have HYB := hid_intro hyb
    clear hr hg hyb R2 G2
    by_cases h1 : i < m
    · have h1' : (i : Int) < (m : Int) := by omega
      by_cases h2 : i < 20
      · have h2' : (i : Int) < 20 := by omega
        obtain ⟨b, off, x, y, rfl, q1, q2, hy0, hy1⟩ := HE.out.row i h1
        have c0 := HG.out.cell q1 (by simp)
        have c1 := HG.out.cell q2 (by simp)
        obtain ⟨j, z, hj, hz, hz1, hz2, hj2⟩ := placeN x 4092 (by omega)
        have cb := HR.out.cell j (by omega)
        have cf := frozen_of_row wr g j _ _ HR.out
        have hby := HYB.out.getD j
        have hxy := xor_byte5 hby ⟨hy0, hy1⟩
        have HR1 := hid_intro (HR.out.set6 j (bits .xor .u8 (ys.getD j 0) y))
        have HB1 : Hid (Bt (ys.set j (bits .xor .u8 (ys.getD j 0) y))) := HYB.out.set5 j _ hxy
        have HL1 : Hid ((ys.set j (bits .xor .u8 (ys.getD j 0) y)).length = 4092) := by show _ = _; rw [List.length_set]; exact hyl
        have HG1 := hid_intro (grown_new HG.out (grown_cell wr g j (.int .u8 (bits .xor .u8 (ys.getD j 0) y))) (by omega))
        generalize ys.set j (bits .xor .u8 (ys.getD j 0) y) = ys' at *
        generalize ys.getD j 0 = by0 at *
        have g5 : (0 : Int) ≤ (j : Int) := by omega
        have g6 : (j : Int) < 4092 := by omega
        have g7 : (0 : Int) ≤ (i : Int) := by omega
        have hz' : Int.tmod x 4092 = z := hz
        have hj2' : Int.tmod (z + 4092) 4092 = (j : Int) := hj2
        have hw1 : IntKind.i64.wrap (z + 4092) = z + 4092 := by simp [IntKind.wrap, IntKind.bits, IntKind.signed]; omega
        clear hz hj2 q1 q2
        go_wp2_with fail
        go_region
        all_goals
          go_wp2
          go_roundw
          case rel => exact ⟨i + 1, ys', by omega, by go_num, HR1.out, HL1.out, HB1.out, grown_trans HG1.out ((Qt.refl _).drew.grown none)⟩
          case measure => simp [intOf]; omega
      · have h2' : ¬ (i : Int) < 20 := by omega
        go_wp2
        go_ret
        exact ⟨⟨g, rfl, ys, HR.out.all 4092 4092 hyl.symm, HYB.out⟩, HG.out⟩
    · have h1' : ¬ (i : Int) < (m : Int) := by omega
      go_wp2
      go_ret
      exact ⟨⟨g, rfl, ys, HR.out.all 4092 4092 hyl.symm, HYB.out⟩, HG.out⟩
end Go.Proofs.Ytomknmboapgmbaa
