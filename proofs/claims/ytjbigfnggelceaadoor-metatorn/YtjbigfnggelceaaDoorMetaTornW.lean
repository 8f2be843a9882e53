import Derived.Test.YtjbigfnggelceaaDoorMeF
import Derived.Test.YtjbigfnggelceaaDoorMeY
namespace Go.Proofs.YtjbigfnggelceaaDoor
open Go.RowKit

theorem place92 (x : Int) : ∃ (k : Nat) (y : Int), k < 4092 ∧ Int.tmod x 4092 = y ∧ -4092 < y ∧ y < 4092 ∧ Int.tmod (y + 4092) 4092 = (k : Int) := by
  have h1 := Int.tmod_lt_of_pos x (show (0 : Int) < 4092 by omega)
  have h2 := Int.lt_tmod_of_pos x (show (0 : Int) < 4092 by omega)
  have h3 := Int.emod_nonneg (Int.tmod x 4092 + 4092) (show (4092 : Int) ≠ 0 by omega)
  have h4 := Int.emod_lt_of_pos (Int.tmod x 4092 + 4092) (show (0 : Int) < 4092 by omega)
  refine ⟨((Int.tmod x 4092 + 4092) % 4092).toNat, _, by omega, rfl, h2, h1, ?_⟩
  rw [Int.tmod_eq_emod_of_nonneg (by omega)]
  omega
theorem Rw.set {w : World} {g : Nat} {zs : List Int} (h : Rw w g zs) (i : Nat) (x : Int) : Rw (w.setCell ⟨g, i, none⟩ (.int .u8 x)) g (zs.set i x) := by
  have e := heap_setCell_same w g i _ _ (.int .u8 x) h
  unfold Rw
  rw [e, List.map_set]
  simp
theorem Rw.frozen {w : World} {g : Nat} {zs : List Int} (h : Rw w g zs) (j : Nat) : w.frozen? ⟨g, j, none⟩ = false := frozen_of_row w g j _ _ h
theorem getD_set_eq {zs : List Int} {i q : Nat} {x : Int} (hi : i < zs.length) : (zs.set i x).getD q 0 = if q = i then x else zs.getD q 0 := by
  by_cases h : q = i
  · subst h; rw [if_pos rfl]; simp [List.getD, hi]
  · rw [if_neg h]; simp [List.getD, List.getElem?_set_ne (Ne.symm h)]
theorem torn_get (H : Hd) (j q : Nat) (hq : q < 4092) : (torn H j).getD q 0 = if q < j then (mB H).getD q 0 else 0 := by
  unfold torn
  have hl := mB_len H
  by_cases h : q < j
  · rw [if_pos h, List.getD_eq_getElem?_getD, List.getElem?_append_left (by rw [List.length_take]; omega), List.getElem?_take, if_pos h]; rfl
  · rw [if_neg h, List.getD_eq_getElem?_getD, List.getElem?_append_right (by rw [List.length_take]; omega), List.getElem?_replicate]
    split <;> rfl
theorem list_eq {A B : List Int} (h : A.length = B.length) (hq : ∀ q, q < A.length → A.getD q 0 = B.getD q 0) : A = B := by
  refine List.ext_getElem h fun i h1 h2 => ?_
  have := hq i h1
  simpa [List.getD, List.getElem?_eq_getElem h1, List.getElem?_eq_getElem h2] using this

set_option maxHeartbeats 4000000 in
set_option maxRecDepth 100000 in
theorem metaTorn_walk (v c r t k f n x : Int) (w : World) (hk : Mk w) :
    Calls Tryd.prog 8 #[.agg #[.int .i64 v, .int .i64 c, .int .i64 r, .int .i64 t, .int .i64 k, .int .i64 f, .int .i64 n], .int .i64 x] w fun en w' => en = .returned (.bool true) ∧ w.grownBy w' none := by
  have HK := hid_intro hk
  clear hk
  go_enter Tryd.func8, Tryd.ntmps8
  go_upto_region 1 with fail
  have X1 := hid_intro (Hx.new w v c r t k f n)
  have G1 := hid_intro (World.grownBy_alloc w (.cells #[.int .i64 v, .int .i64 c, .int .i64 r, .int .i64 t, .int .i64 k, .int .i64 f, .int .i64 n] 23) none)
  generalize w.alloc (.cells #[.int .i64 v, .int .i64 c, .int .i64 r, .int .i64 t, .int .i64 k, .int .i64 f, .int .i64 n] 23) = w1 at *
  go_wp2_with fail
  refine (first7_any _ (HK.out.keptN G1.out)).mono ?_
  rintro en w2 ⟨rfl, hg2⟩
  have X2 := hid_intro (X1.out.keptN hg2)
  have G2 := hid_intro (grown_trans G1.out hg2)
  clear hg2 X1 G1
  obtain ⟨c0, c1, c2, c3, c4, c5, c6⟩ := X2.out.cells
  go_wp2_with fail
  refine (refMay_any v c r t k f n _).mono ?_
  rintro en w3 ⟨rfl, hg3⟩
  have X3 := hid_intro (X2.out.keptN hg3)
  have G3 := hid_intro (grown_trans G2.out hg3)
  clear hg3 X2 G2 c0 c1 c2 c3 c4 c5 c6
  cases hm : may ⟨v, c, r, t, k, f, n⟩ with
  | false =>
    clear hm
    go_wp2
    go_ret
    exact ⟨rfl, G3.out⟩
  | true =>
    have HM := hid_intro hm
    clear hm
    obtain ⟨c0, c1, c2, c3, c4, c5, c6⟩ := X3.out.cells
    go_wp2_with fail
    refine (encode_ok v c r t k f n _ HM.out (HK.out.keptN G3.out)).mono ?_
    rintro en w4 ⟨g, rfl, hr4, hs4, hg4⟩
    have R4 := hid_intro hr4
    have G4 := hid_intro (grown_trans G3.out hg4)
    have S4 := hid_intro (Nat.le_trans G3.out.size hs4)
    clear hg4 hr4 hs4 X3 G3 c0 c1 c2 c3 c4 c5 c6
    have HTL := hid_intro (fun j h => torn_len ⟨v, c, r, t, k, f, n⟩ j h)
    have HTG := hid_intro (fun j q h => torn_get ⟨v, c, r, t, k, f, n⟩ j q h)
    have HTB := hid_intro (fun j => torn_bt ⟨v, c, r, t, k, f, n⟩ j)
    have HTN := hid_intro (fun j h => torn_no ⟨v, c, r, t, k, f, n⟩ j h)
    have HML := hid_intro (mB_len ⟨v, c, r, t, k, f, n⟩)
    generalize mB ⟨v, c, r, t, k, f, n⟩ = M at *
    generalize torn ⟨v, c, r, t, k, f, n⟩ = tn at *
    go_wp2_with fail
    refine (num7_any _ _).mono ?_
    rintro en w4 ⟨rfl, rfl⟩
    obtain ⟨j, z, hj, hz, hz1, hz2, hj2⟩ := place92 x
    have hw9 : IntKind.i64.wrap (z + 4092) = z + 4092 := by simp [IntKind.wrap, IntKind.bits, IntKind.signed]; omega
    go_wp2
    go_loopw [9] (fun si wr => ∃ (i : Nat) (ys : List Int), j ≤ i ∧ i ≤ 4092 ∧ si = .int .i64 i ∧ ys.length = 4092 ∧ (∀ q, ys.getD q 0 = if j ≤ q ∧ q < i then 0 else M.getD q 0) ∧ Rw wr g ys ∧ w.grownBy wr none) (fun si _ => 4092 - (intOf si).toNat)
    case atStart => exact ⟨j, M, Nat.le_refl _, by omega, rfl, HML.out, fun q => by rw [if_neg (by omega)], R4.out, G4.out⟩
    case round =>
      obtain ⟨i, ys, hi1, hi2, rfl, hyl, hyg, hr, hg⟩ := hrel
      have HYG := hid_intro hyg
      have HR := hid_intro hr
      have HG := hid_intro hg
      clear hyg hr hg
      by_cases hlt : i < 4092
      · have cb := HR.out.cell i (by omega)
        have cf := HR.out.frozen i
        have g1 : (i : Int) < 4092 := by omega
        have g0 : (0 : Int) ≤ (i : Int) := by omega
        have R5 := hid_intro (HR.out.set i 0)
        have G5 := hid_intro (grown_new HG.out (grown_cell wr g i (.int .u8 0)) S4.out)
        have HY5 : Hid (∀ q, (ys.set i 0).getD q 0 = if j ≤ q ∧ q < i + 1 then 0 else M.getD q 0) := by
          intro q
          rw [getD_set_eq (by omega), HYG.out q]
          by_cases h : q = i
          · rw [if_pos h, if_pos (by omega)]
          · rw [if_neg h]
            by_cases h2 : j ≤ q ∧ q < i
            · rw [if_pos h2, if_pos (by omega)]
            · rw [if_neg h2, if_neg (by omega)]
        have HL5 : Hid ((ys.set i 0).length = 4092) := by show _ = _; rw [List.length_set]; exact hyl
        generalize ys.getD i 0 = y0 at *
        go_wp2
        go_roundw
        case rel => exact ⟨i + 1, ys.set i 0, by omega, by omega, by go_num, HL5.out, HY5.out, R5.out, G5.out⟩
        case measure => simp [intOf]; omega
      · obtain rfl : i = 4092 := by omega
        have HE : Hid (ys = tn j) := by
          refine list_eq (by rw [hyl, HTL.out j (by omega)]) fun q hq => ?_
          rw [HYG.out q, HTG.out j q (by omega)]
          by_cases h : q < j
          · rw [if_neg (by omega), if_pos h]
          · rw [if_pos (by omega), if_neg h]
        have B5 : Hid (Byt wr (some ⟨g, 0, none⟩) 4092 4092 (tn j)) := by
          show Byt _ _ _ _ _
          rw [← HE.out]
          exact HR.out.all 4092 4092 hyl.symm
        have HNO := hid_intro (HTN.out j hj)
        clear hi1 hi2 hlt hyl
        go_wp2_with fail
        refine (decode_any _ 4092 4092 (tn j) _ B5.out (HTB.out j) (HK.out.keptN HG.out)).mono ?_
        rw [(a_no HNO.out).1, (a_no HNO.out).2]
        simp only [zH]
        rintro en w6 ⟨rfl, hg6⟩
        have G6 := hid_intro (grown_trans HG.out hg6)
        clear hg6 HG
        go_upto_region 13 with fail
        have Y7 := hid_intro (Hx.new w6 0 0 0 0 0 0 0)
        have gg := World.grownBy_alloc w6 (.cells #[.int .i64 0, .int .i64 0, .int .i64 0, .int .i64 0, .int .i64 0, .int .i64 0, .int .i64 0] 23) none
        have G7 := hid_intro (grown_trans G6.out gg)
        clear gg G6
        generalize w6.alloc (.cells #[.int .i64 0, .int .i64 0, .int .i64 0, .int .i64 0, .int .i64 0, .int .i64 0, .int .i64 0] 23) = w7 at *
        generalize w6.heap.size = T7 at *
        obtain ⟨d0, d1, d2, d3, d4, d5, d6⟩ := Y7.out.cells
        go_wp2_with fail
        refine (sameHead_yes 0 0 0 0 0 0 0 _).mono ?_
        rintro en w8 ⟨rfl, hg8⟩
        have G8 := hid_intro (grown_trans G7.out hg8)
        clear hg8 d0 d1 d2 d3 d4 d5 d6
        go_wp2_with fail
        refine (num7_any _ _).mono ?_
        rintro en w8 ⟨rfl, rfl⟩
        go_wp2
        go_ret
        exact ⟨rfl, G8.out⟩
end Go.Proofs.YtjbigfnggelceaaDoor
