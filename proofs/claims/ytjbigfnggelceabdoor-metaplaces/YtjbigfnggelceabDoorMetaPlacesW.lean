import Derived.Test.YtjbigfnggelceabDoorMeF
import Derived.Test.YtjbigfnggelceabDoorMeY
namespace Go.Proofs.YtjbigfnggelceabDoor
open Go.RowKit

theorem Rw.set {w : World} {g : Nat} {zs : List Int} (h : Rw w g zs) (i : Nat) (x : Int) : Rw (w.setCell ⟨g, i, none⟩ (.int .u8 x)) g (zs.set i x) := by
  have e := heap_setCell_same w g i _ _ (.int .u8 x) h
  unfold Rw
  rw [e, List.map_set]
  simp
theorem Rw.frozen {w : World} {g : Nat} {zs : List Int} (h : Rw w g zs) (j : Nat) : w.frozen? ⟨g, j, none⟩ = false := frozen_of_row w g j _ _ h
theorem getD_set_eq {zs : List Int} {i q : Nat} {x : Int} (hi : i < zs.length) : (zs.set i x).getD q 0 = if q = i then x else zs.getD q 0 := by
  by_cases h : q = i
  · subst h; rw [if_pos rfl]; simp [List.getD, hi]
  · rw [if_neg h]; simp [List.getD, List.getElem?_set_ne (Ne.symm h)]
theorem list_eq {A B : List Int} (h : A.length = B.length) (hq : ∀ q, q < A.length → A.getD q 0 = B.getD q 0) : A = B := by
  refine List.ext_getElem h fun i h1 h2 => ?_
  have := hq i h1
  simpa [List.getD, List.getElem?_eq_getElem h1, List.getElem?_eq_getElem h2] using this
theorem le_rev {zs : List Int} {p k : Nat} (h : p < zs.length) : le (k + 1) (zs.drop p) = (zs.getD p 0).toNat + 256 * le k (zs.drop (p + 1)) := by
  rw [List.drop_eq_getElem_cons h, le]
  simp [List.getD, List.getElem?_eq_getElem h]

/-- Where the numbers begin. -/
def pq (i : Nat) : Nat := ([4, 12, 16, 20, 21, 29, 33, 37] : List Nat).getD i 37
/-- What stands at the place i. -/
structure Pl (M : List Int) (i a d T : Nat) (x y z : Int) : Prop where
  ea : x = (a : Int)
  ed : y = (d : Int)
  ew : z = (T : Int)
  h0 : pq i = a
  h1 : pq (i + 1) = a + d
  h2 : 4 ≤ a
  h3 : 1 ≤ d
  h4 : a + d ≤ 37
  h5 : le d (M.drop a) = T
  h6 : T ≤ 4611686018427387904
theorem places_at {v c r t k f n : Int} (hm : may ⟨v, c, r, t, k, f, n⟩ = true) : ∀ i, i < 7 → ∃ a d T, Pl (mB ⟨v, c, r, t, k, f, n⟩) i a d T (([4, 12, 16, 20, 21, 29, 33] : List Int).getD i 0) (([8, 4, 4, 1, 8, 4, 4] : List Int).getD i 0) (([v, c, r, t, k, f, n] : List Int).getD i 0) := by
  have b := may_bounds hm
  simp only at b
  obtain ⟨t1, t2, t3, t4, t5, t6, t7, e1, e2, e3, e4, e5, e6, e7, e8⟩ := mB_places ⟨v, c, r, t, k, f, n⟩
  simp only at e1 e2 e3 e4 e5 e6 e7
  intro i hi
  match i, hi with
  | 0, _ => exact ⟨4, 8, v.toNat, rfl, rfl, by show v = _; omega, rfl, rfl, by decide, by decide, by decide, by rw [e1, le_lb]; exact Nat.mod_eq_of_lt (by omega), by omega⟩
  | 1, _ => exact ⟨12, 4, c.toNat, rfl, rfl, by show c = _; omega, rfl, rfl, by decide, by decide, by decide, by rw [e2, le_lb]; exact Nat.mod_eq_of_lt (by omega), by omega⟩
  | 2, _ => exact ⟨16, 4, r.toNat, rfl, rfl, by show r = _; omega, rfl, rfl, by decide, by decide, by decide, by rw [e3, le_lb]; exact Nat.mod_eq_of_lt (by omega), by omega⟩
  | 3, _ => exact ⟨20, 1, t.toNat, rfl, rfl, by show t = _; omega, rfl, rfl, by decide, by decide, by decide, by rw [e4, le_lb]; exact Nat.mod_eq_of_lt (by omega), by omega⟩
  | 4, _ => exact ⟨21, 8, k.toNat, rfl, rfl, by show k = _; omega, rfl, rfl, by decide, by decide, by decide, by rw [e5, le_lb]; exact Nat.mod_eq_of_lt (by omega), by omega⟩
  | 5, _ => exact ⟨29, 4, f.toNat, rfl, rfl, by show f = _; omega, rfl, rfl, by decide, by decide, by decide, by rw [e6, le_lb]; exact Nat.mod_eq_of_lt (by omega), by omega⟩
  | 6, _ => exact ⟨33, 4, n.toNat, rfl, rfl, by show n = _; omega, rfl, rfl, by decide, by decide, by decide, by rw [e7, le_lb]; exact Nat.mod_eq_of_lt (by omega), by omega⟩
/-- A row of seven numbers. -/
def R7 (w : World) (A : Nat) (xs : List Int) : Prop := w.heap[A]? = some (.cells (xs.map (Value.int .i64)).toArray 3 (0, 0))
theorem R7.cell {w : World} {A : Nat} {xs : List Int} (h : R7 w A xs) (i : Nat) (hi : i < xs.length) : w.cell? ⟨A, i, none⟩ = some (.int .i64 (xs.getD i 0)) := by
  rw [cell_of_row w A i _ _ _ h]
  simp [List.getD, List.getElem?_eq_getElem hi]
theorem R7.lt {w : World} {A : Nat} {xs : List Int} (h : R7 w A xs) : A < w.heap.size := (Array.getElem?_eq_some_iff.1 h).1
theorem R7.kept {w w' : World} {A : Nat} {xs : List Int} {row : Option Nat} (h : R7 w A xs) (hg : w.grownBy w' row) (hne : some A ≠ row) : R7 w' A xs := (hg.block A h.lt hne).trans h
theorem R7.keptN {w w' : World} {A : Nat} {xs : List Int} (h : R7 w A xs) (hg : w.grownBy w' none) : R7 w' A xs := h.kept hg (by simp)
theorem mB_mid (H : Hd) (q : Nat) (h1 : 37 ≤ q) (h2 : q < 4088) : (mB H).getD q 0 = 0 := by
  have hz := mB_zero H
  have e : (zr).getD (q - 37) 0 = 0 := by
    unfold zr
    rw [List.getD_eq_getElem?_getD, List.getElem?_replicate]
    split <;> rfl
  rw [← hz, List.getD_eq_getElem?_getD, List.getElem?_take, if_pos (by omega), List.getElem?_drop, show 37 + (q - 37) = q by omega] at e
  rw [List.getD_eq_getElem?_getD]
  exact e

theorem le_down (M : List Int) (a d T : Nat) : ∀ e, le d (M.drop a) = T → T ≤ 4611686018427387904 → e ≤ d → a + d ≤ M.length → le (d - e) (M.drop (a + e)) ≤ 4611686018427387904
  | 0, h1, h2, _, _ => by show le d (M.drop a) ≤ _; omega
  | e + 1, h1, h2, h3, h4 => by
    have ih := le_down M a d T e h1 h2 (by omega) h4
    have h := le_rev (zs := M) (p := a + e) (k := d - (e + 1)) (by omega)
    rw [show d - (e + 1) + 1 = d - e by omega] at h
    rw [show a + (e + 1) = a + e + 1 by omega]
    omega

set_option maxHeartbeats 8000000 in
set_option maxRecDepth 100000 in
theorem metaPlaces_walk (v c r t k f n : Int) (w : World) (hk : Mk w) :
    Calls Tryd.prog 3 #[.agg #[.int .i64 v, .int .i64 c, .int .i64 r, .int .i64 t, .int .i64 k, .int .i64 f, .int .i64 n]] w fun en w' => en = .returned (.bool true) ∧ w.grownBy w' none := by
  have HK := hid_intro hk
  clear hk
  go_enter Tryd.func3, Tryd.ntmps3
  go_upto_region 1 with fail
  have X1 := hid_intro (Hx.new w v c r t k f n)
  have G1 := hid_intro (World.grownBy_alloc w (.cells #[.int .i64 v, .int .i64 c, .int .i64 r, .int .i64 t, .int .i64 k, .int .i64 f, .int .i64 n] 23) none)
  generalize w.alloc (.cells #[.int .i64 v, .int .i64 c, .int .i64 r, .int .i64 t, .int .i64 k, .int .i64 f, .int .i64 n] 23) = w1 at *
  go_wp2_with fail
  refine (first7_any _ (HK.out.keptN G1.out)).mono ?_
  rintro en w2 ⟨rfl, hg2⟩
  have X2 := hid_intro (X1.out.keptN hg2)
  have G2 := hid_intro (grown_trans G1.out hg2)
  clear hg2 X1 G1
  obtain ⟨c0, c1, c2, c3, c4, c5, c6⟩ := X2.out.cells
  go_wp2_with fail
  refine (refMay_any v c r t k f n _).mono ?_
  rintro en w3 ⟨rfl, hg3⟩
  have X3 := hid_intro (X2.out.keptN hg3)
  have G3 := hid_intro (grown_trans G2.out hg3)
  clear hg3 X2 G2 c0 c1 c2 c3 c4 c5 c6
  cases hm : may ⟨v, c, r, t, k, f, n⟩ with
  | false =>
    clear hm
    go_wp2
    go_ret
    exact ⟨rfl, G3.out⟩
  | true =>
    have HM := hid_intro hm
    clear hm
    obtain ⟨c0, c1, c2, c3, c4, c5, c6⟩ := X3.out.cells
    go_wp2_with fail
    refine (encode_ok v c r t k f n _ HM.out (HK.out.keptN G3.out)).mono ?_
    rintro en w4 ⟨g, rfl, hr4, hs4, hg4⟩
    have R4 := hid_intro hr4
    have X4 := hid_intro (X3.out.keptN hg4)
    have G4 := hid_intro (grown_trans G3.out hg4)
    have S4 := hid_intro (Nat.le_trans G3.out.size hs4)
    clear hg4 hr4 hs4 X3 G3 c0 c1 c2 c3 c4 c5 c6
    have HPL := hid_intro (places_at HM.out)
    have HML := hid_intro (mB_len ⟨v, c, r, t, k, f, n⟩)
    have HMB := hid_intro (mB_bt ⟨v, c, r, t, k, f, n⟩)
    have HMZ := hid_intro (mB_mid ⟨v, c, r, t, k, f, n⟩)
    have HMT : Hid ((mB ⟨v, c, r, t, k, f, n⟩).take 4 = [5, 99, 111, 112]) := rfl
    have HME := hid_intro (mB_end ⟨v, c, r, t, k, f, n⟩)
    generalize mB ⟨v, c, r, t, k, f, n⟩ = M at *
    go_wp2_with fail
    refine (num7_any _ _).mono ?_
    rintro en w4 ⟨rfl, rfl⟩
    go_upto_region 10 with fail
    have RA : Hid (R7 ((w4.alloc (.cells #[.int .i64 4, .int .i64 12, .int .i64 16, .int .i64 20, .int .i64 21, .int .i64 29, .int .i64 33] 3)).alloc (.cells #[.int .i64 8, .int .i64 4, .int .i64 4, .int .i64 1, .int .i64 8, .int .i64 4, .int .i64 4] 3)) w4.heap.size [4, 12, 16, 20, 21, 29, 33]) := (show R7 (w4.alloc (.cells #[.int .i64 4, .int .i64 12, .int .i64 16, .int .i64 20, .int .i64 21, .int .i64 29, .int .i64 33] 3)) w4.heap.size [4, 12, 16, 20, 21, 29, 33] from heap_alloc_new w4 _).keptN (World.grownBy_alloc _ _ none)
    have RD : Hid (R7 ((w4.alloc (.cells #[.int .i64 4, .int .i64 12, .int .i64 16, .int .i64 20, .int .i64 21, .int .i64 29, .int .i64 33] 3)).alloc (.cells #[.int .i64 8, .int .i64 4, .int .i64 4, .int .i64 1, .int .i64 8, .int .i64 4, .int .i64 4] 3)) (w4.heap.size + 1) [8, 4, 4, 1, 8, 4, 4]) := heap_alloc2_new w4 _ _
    have gg := grown_two w4 (.cells #[.int .i64 4, .int .i64 12, .int .i64 16, .int .i64 20, .int .i64 21, .int .i64 29, .int .i64 33] 3) (.cells #[.int .i64 8, .int .i64 4, .int .i64 4, .int .i64 1, .int .i64 8, .int .i64 4, .int .i64 4] 3)
    have R5 := hid_intro (R4.out.keptN gg)
    have G5 := hid_intro (grown_trans G4.out gg)
    have X5 := hid_intro (X4.out.keptN gg)
    have L4 := hid_intro R4.out.lt
    clear gg R4 G4 X4
    generalize (w4.alloc (.cells #[.int .i64 4, .int .i64 12, .int .i64 16, .int .i64 20, .int .i64 21, .int .i64 29, .int .i64 33] 3)).alloc (.cells #[.int .i64 8, .int .i64 4, .int .i64 4, .int .i64 1, .int .i64 8, .int .i64 4, .int .i64 4] 3) = wx at *
    obtain ⟨A1, hA1⟩ : ∃ A, A = w4.heap.size := ⟨_, rfl⟩
    obtain ⟨A2, hA2⟩ : ∃ A, A = w4.heap.size + 1 := ⟨_, rfl⟩
    rw [← hA1] at RA
    rw [← hA2] at RD
    rw [← hA2, ← hA1]
    have L5 := hid_intro R5.out.lt
    obtain ⟨c0, c1, c2, c3, c4, c5, c6⟩ := X5.out.cells
    go_upto_region 11 with fail
    have gg := World.grownBy_alloc wx (.cells #[.int .i64 v, .int .i64 c, .int .i64 r, .int .i64 t, .int .i64 k, .int .i64 f, .int .i64 n] 3) none
    have RW : Hid (R7 (wx.alloc (.cells #[.int .i64 v, .int .i64 c, .int .i64 r, .int .i64 t, .int .i64 k, .int .i64 f, .int .i64 n] 3)) wx.heap.size [v, c, r, t, k, f, n]) := heap_alloc_new wx _
    have RA := hid_intro (RA.out.keptN gg)
    have RD := hid_intro (RD.out.keptN gg)
    have R5 := hid_intro (R5.out.keptN gg)
    have G5 := hid_intro (grown_trans G5.out gg)
    clear gg X5 c0 c1 c2 c3 c4 c5 c6
    generalize wx.alloc (.cells #[.int .i64 v, .int .i64 c, .int .i64 r, .int .i64 t, .int .i64 k, .int .i64 f, .int .i64 n] 3) = w5 at *
    obtain ⟨A3, hA3⟩ : ∃ A, A = wx.heap.size := ⟨_, rfl⟩
    have HNE : Hid (A1 ≠ g ∧ A2 ≠ g ∧ A3 ≠ g) := by have := L4.out; have := L5.out; exact ⟨by omega, by omega, by omega⟩
    rw [← hA3] at RW ⊢
    clear hA1 hA2 hA3 L4 L5
    go_wp2
    go_loopw [10] (fun si wr => ∃ (i : Nat) (ys : List Int), i ≤ 7 ∧ si = .int .i64 i ∧ ys.length = 4092 ∧ (∀ q, ys.getD q 0 = if 4 ≤ q ∧ q < pq i then 0 else M.getD q 0) ∧ Rw wr g ys ∧ w5.grownBy wr (some g)) (fun si _ => 7 - (intOf si).toNat)
    case atStart => exact ⟨0, M, by omega, rfl, HML.out, fun q => by rw [if_neg (by show ¬ (4 ≤ q ∧ q < 4); omega)], R5.out, World.grownBy.refl _ _⟩
    case round =>
      obtain ⟨i, ys, hi7, rfl, hyl, hyg, hr, hg⟩ := hrel
      have HYG := hid_intro hyg
      have HR := hid_intro hr
      have HG := hid_intro hg
      clear hyg hr hg
      by_cases hlt : i < 7
      · obtain ⟨a, d, T, hp⟩ := HPL.out i hlt
        have HP := hid_intro hp
        have h2 := hp.h2
        have h3 := hp.h3
        have h4 := hp.h4
        have g1 : (i : Int) < 7 := by omega
        have g0 : (0 : Int) ≤ (i : Int) := by omega
        have cD := (RD.out.kept HG.out (fun e => HNE.out.2.1 (Option.some.inj e))).cell i hlt
        rw [hp.ed] at cD
        have qd : IntKind.i64.wrap ((d : Int) - 1) = (d : Int) - 1 := by simp [IntKind.wrap, IntKind.bits, IntKind.signed]; omega
        clear hp hlt
        go_wp2
        go_loopw [11, 12] (fun sx sk wq => ∃ (j : Nat) (zs : List Int), j ≤ d ∧ sk = .int .i64 ((j : Int) - 1) ∧ sx = .int .i64 ((le (d - j) (M.drop (a + j)) : Nat) : Int) ∧ zs.length = 4092 ∧ (∀ q, zs.getD q 0 = if (4 ≤ q ∧ q < a) ∨ (a + j ≤ q ∧ q < a + d) then 0 else M.getD q 0) ∧ Rw wq g zs ∧ w5.grownBy wq (some g)) (fun _ sk _ => (intOf sk + 1).toNat)
        case atStart =>
          refine ⟨d, ys, Nat.le_refl _, by go_num, by rw [Nat.sub_self]; rfl, hyl, fun q => ?_, HR.out, HG.out⟩
          rw [HYG.out q, HP.out.h0]
          by_cases h : 4 ≤ q ∧ q < a
          · rw [if_pos h, if_pos (.inl h)]
          · rw [if_neg h, if_neg (by omega)]
        case round =>
          obtain ⟨j, zs, hj, rfl, rfl, hzl, hzg, hzr, hzG⟩ := hrel
          have HZG := hid_intro hzg
          have HZR := hid_intro hzr
          have HZ := hid_intro hzG
          clear hzg hzr hzG
          by_cases hj0 : j = 0
          · subst hj0
            have eT : Hid (le (d - 0) (M.drop (a + 0)) = T) := HP.out.h5
            rw [eT.out]
            have cW := (RW.out.kept HZ.out (fun e => HNE.out.2.2 (Option.some.inj e))).cell i (by show i < 7; omega)
            rw [HP.out.ew] at cW
            have q0 : ((0 : Nat) : Int) - 1 < 0 := by omega
            clear cD
            go_wp2
            go_roundw
            case rel =>
              refine ⟨i + 1, zs, by omega, by go_num, hzl, fun q => ?_, HZR.out, HZ.out⟩
              rw [HZG.out q, HP.out.h1]
              by_cases h : 4 ≤ q ∧ q < a + d
              · rw [if_pos h, if_pos (by omega)]
              · rw [if_neg h, if_neg (by omega)]
            case measure => simp [intOf]; omega
          · obtain ⟨e, rfl⟩ : ∃ e, j = e + 1 := ⟨j - 1, by omega⟩
            have cA := (RA.out.kept HZ.out (fun e => HNE.out.1 (Option.some.inj e))).cell i (by show i < 7; omega)
            rw [HP.out.ea] at cA
            obtain ⟨P, hP⟩ : ∃ P, P = a + e := ⟨_, rfl⟩
            have hPl : P < 4092 := by omega
            have cb := HZR.out.cell P (by omega)
            have cf := HZR.out.frozen P
            have hzP : zs.getD P 0 = M.getD P 0 := by rw [HZG.out P, if_neg (by omega)]
            rw [hzP] at cb
            have hbb := HMB.out.getD P
            obtain ⟨bN, hbN⟩ : ∃ bN : Nat, M.getD P 0 = (bN : Int) := ⟨(M.getD P 0).toNat, by omega⟩
            rw [hbN] at cb
            have hb255 : bN ≤ 255 := by omega
            obtain ⟨X, hX⟩ : ∃ X, X = le (d - (e + 1)) (M.drop (a + (e + 1))) := ⟨_, rfl⟩
            obtain ⟨Y, hY⟩ : ∃ Y, Y = le (d - e) (M.drop (a + e)) := ⟨_, rfl⟩
            have hXY : Y = bN + 256 * X := by
              have h := le_rev (zs := M) (p := a + e) (k := d - (e + 1)) (by rw [HML.out]; omega)
              rw [show d - (e + 1) + 1 = d - e by omega, ← hP, hbN] at h
              rw [hX, hY, ← hP, h, hP]
              rfl
            have hYb : Y ≤ 4611686018427387904 := by rw [hY]; exact le_down M a d T e HP.out.h5 HP.out.h6 (by omega) (by rw [HML.out]; omega)
            rw [← hX]
            have HYE := hid_intro hY
            have HPE := hid_intro hP
            have R6 := hid_intro (HZR.out.set P 0)
            have G6 := hid_intro (grown_trans HZ.out (grown_cell wr g P (.int .u8 0)))
            have k1 : ((((e + 1 : Nat) : Int)) - 1) = (e : Int) := by omega
            have k2 : (a : Int) + (e : Int) = (P : Int) := by omega
            have k3 : IntKind.i64.wrap ((a : Int) + (e : Int)) = (P : Int) := by simp [IntKind.wrap, IntKind.bits, IntKind.signed]; omega
            have k4 : (X : Int) * 256 + (bN : Int) = (Y : Int) := by omega
            have k5 : IntKind.i64.wrap ((X : Int) * 256 + (bN : Int)) = (Y : Int) := by simp [IntKind.wrap, IntKind.bits, IntKind.signed]; omega
            have k6 : IntKind.i64.wrap ((X : Int) * 256) = (X : Int) * 256 := by simp [IntKind.wrap, IntKind.bits, IntKind.signed]; omega
            have k7 : IntKind.i64.wrap (bN : Int) = (bN : Int) := by simp [IntKind.wrap, IntKind.bits, IntKind.signed]; omega
            have k8 : wrap64 (Y : Int) = (Y : Int) := by unfold wrap64; omega
            have p0 : (0 : Int) ≤ (P : Int) := by omega
            have p1 : (P : Int) < 4092 := by omega
            have p2 : (0 : Int) ≤ (e : Int) := by omega
            rw [k1]
            clear hX hY hP hXY hbN hbb hzP cD hYb
            go_wp2
            go_roundw
            case rel =>
              refine ⟨e, zs.set P 0, by omega, by go_num, by rw [← HYE.out, k8], by rw [List.length_set]; exact hzl, fun q => ?_, R6.out, G6.out⟩
              rw [getD_set_eq (by omega), HZG.out q]
              have hPE := HPE.out
              by_cases h : q = P
              · rw [if_pos h, if_pos (by omega)]
              · rw [if_neg h]
                by_cases h2 : (4 ≤ q ∧ q < a) ∨ (a + (e + 1) ≤ q ∧ q < a + d)
                · rw [if_pos h2, if_pos (by omega)]
                · rw [if_neg h2, if_neg (by omega)]
            case measure => simp [intOf]
      · obtain rfl : i = 7 := by omega
        have HZ0 : Hid (∀ q, 4 ≤ q → q < 4088 → ys.getD q 0 = 0) := by
          intro q h1 h2
          rw [HYG.out q]
          by_cases h : q < 37
          · rw [if_pos (by show 4 ≤ q ∧ q < 37; omega)]
          · rw [if_neg (by show ¬ (4 ≤ q ∧ q < 37); omega)]
            exact HMZ.out q (by omega) h2
        have HT4 : Hid (ys.take 4 = [5, 99, 111, 112]) := by
          show _ = _
          rw [← HMT.out]
          refine list_eq (by rw [List.length_take, List.length_take, hyl, HML.out]) fun q hq => ?_
          rw [List.length_take] at hq
          rw [List.getD_eq_getElem?_getD, List.getD_eq_getElem?_getD, List.getElem?_take, List.getElem?_take, if_pos (by omega), if_pos (by omega)]
          have := HYG.out q
          rw [if_neg (by omega), List.getD_eq_getElem?_getD, List.getD_eq_getElem?_getD] at this
          exact this
        have HE4 : Hid (ys.drop 4088 = [101, 110, 100, 46]) := by
          show _ = _
          have e4 : en4 = [101, 110, 100, 46] := rfl
          rw [← e4, ← HME.out]
          refine list_eq (by rw [List.length_drop, List.length_drop, hyl, HML.out]) fun q hq => ?_
          rw [List.getD_eq_getElem?_getD, List.getD_eq_getElem?_getD, List.getElem?_drop, List.getElem?_drop]
          have := HYG.out (4088 + q)
          rw [if_neg (by show ¬ (4 ≤ 4088 + q ∧ 4088 + q < 37); omega), List.getD_eq_getElem?_getD, List.getD_eq_getElem?_getD] at this
          exact this
        have GW := hid_intro (grown_new G5.out HG.out S4.out)
        clear hlt hi7 HYG HG
        go_wp2
        go_loopw [13, 14] (fun ss si wq => ∃ (q : Nat), 4 ≤ q ∧ q ≤ 4088 ∧ si = .int .i64 q ∧ ss = .int .i64 0 ∧ wq = wr) (fun _ si _ => 4088 - (intOf si).toNat)
        case atStart => exact ⟨4, by omega, by omega, rfl, rfl, rfl⟩
        case round =>
          obtain ⟨q, hq4, hq8, rfl, rfl, rfl⟩ := hrel
          by_cases hlt : q < 4088
          · have cb := HR.out.cell q (by omega)
            rw [HZ0.out q hq4 hlt] at cb
            have g1 : (q : Int) < 4088 := by omega
            have g2 : (q : Int) < 4092 := by omega
            have g0 : (0 : Int) ≤ (q : Int) := by omega
            go_wp2
            go_roundw
            case rel => exact ⟨q + 1, by omega, by omega, by go_num, rfl, by trivial⟩
            case measure => simp [intOf]; omega
          · obtain rfl : q = 4088 := by omega
            clear hlt hq4 hq8
            go_wp2_with fail
            have B6 := hid_intro (Byt.lit wr 5 #[.int .u8 5, .int .u8 99, .int .u8 111, .int .u8 112] [5, 99, 111, 112] 4 rfl rfl)
            have gg := World.grownBy_alloc wr (.cells #[.int .u8 5, .int .u8 99, .int .u8 111, .int .u8 112] 5) none
            have R6 := hid_intro (HR.out.keptN gg)
            have G6 := hid_intro (grown_trans GW.out gg)
            clear gg
            generalize wr.alloc (.cells #[.int .u8 5, .int .u8 99, .int .u8 111, .int .u8 112] 5) = w6 at *
            have P6 : Hid (Byt w6 (some ⟨g, 0, none⟩) 4 4092 [5, 99, 111, 112]) := by
              have := R6.out.byt 0 4 4092 (by omega)
              rw [List.drop_zero, HT4.out] at this
              exact this
            refine (same_yes _ _ 4 4 4092 4 _ _ _ P6.out B6.out rfl).mono ?_
            rintro en w6 ⟨rfl, rfl⟩
            clear P6 B6
            go_wp2_with fail
            have B7 := hid_intro (Byt.lit w6 5 #[.int .u8 101, .int .u8 110, .int .u8 100, .int .u8 46] [101, 110, 100, 46] 4 rfl rfl)
            have gg := World.grownBy_alloc w6 (.cells #[.int .u8 101, .int .u8 110, .int .u8 100, .int .u8 46] 5) none
            have R7' := hid_intro (R6.out.keptN gg)
            have G7 := hid_intro (grown_trans G6.out gg)
            clear gg R6 G6
            generalize w6.alloc (.cells #[.int .u8 101, .int .u8 110, .int .u8 100, .int .u8 46] 5) = w7 at *
            have P7 : Hid (Byt w7 (some ⟨g, 4088, none⟩) 4 4 [101, 110, 100, 46]) := by
              have := R7'.out.byt 4088 4 4 (by omega)
              rw [HE4.out] at this
              exact this
            refine (same_yes _ _ 4 4 4 4 _ _ _ P7.out B7.out rfl).mono ?_
            rintro en w7 ⟨rfl, rfl⟩
            clear P7 B7
            go_wp2
            go_ret
            exact ⟨rfl, G7.out⟩
end Go.Proofs.YtjbigfnggelceabDoor
