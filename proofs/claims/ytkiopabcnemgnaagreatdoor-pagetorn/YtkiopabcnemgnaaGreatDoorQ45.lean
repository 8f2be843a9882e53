import Derived.Test.YtkiopabcnemgnaaGreatDoorQ44
namespace Go.Proofs.YtkiopabcnemgnaaGreatDoor
open Go.RowKit
theorem place96 (x : Int) : ∃ (k : Nat) (y : Int), k < 4096 ∧ Int.tmod x 4096 = y ∧ -4096 < y ∧ y < 4096 ∧ Int.tmod (y + 4096) 4096 = (k : Int) := by
 have h1 := Int.tmod_lt_of_pos x (show (0 : Int) < 4096 by omega)
 have h2 := Int.lt_tmod_of_pos x (show (0 : Int) < 4096 by omega)
 have h3 := Int.emod_nonneg (Int.tmod x 4096 + 4096) (show (4096 : Int) ≠ 0 by omega)
 have h4 := Int.emod_lt_of_pos (Int.tmod x 4096 + 4096) (show (0 : Int) < 4096 by omega)
 refine ⟨((Int.tmod x 4096 + 4096) % 4096).toNat, _, by omega, rfl, h2, h1, ?_⟩
 rw [Int.tmod_eq_emod_of_nonneg (by omega)]
 omega
theorem getD_set8 {zs : List Int} {i q : Nat} {x : Int} (hi : i < zs.length) : (zs.set i x).getD q 0 = if q = i then x else zs.getD q 0 := by
 by_cases h : q = i
 ·subst h; rw [if_pos rfl]; simp [List.getD, hi]
 ·rw [if_neg h]; simp [List.getD, List.getElem?_set_ne (Ne.symm h)]
theorem Rw.set8 {w : World} {g : Nat} {zs : List Int} (h : Rw w g zs) (i : Nat) (x : Int) : Rw (w.setCell ⟨g, i, none⟩ (.int .u8 x)) g (zs.set i x) := by
 have e := heap_setCell_same w g i _ _ (.int .u8 x) h
 unfold Rw
 rw [e, List.map_set]
 simp
theorem Rw.frozen8 {w : World} {g : Nat} {zs : List Int} (h : Rw w g zs) (j : Nat) : w.frozen? ⟨g, j, none⟩ = false := frozen_of_row w g j _ _ h
theorem tornP_get (H : Hd) (j q : Nat) (_hq : q < 4096) : (tornP H j).getD q 0 = if q < j then (pageOf H).getD q 0 else 0 := by
 unfold tornP
 have hl := pageOf_len H
 by_cases h : q < j
 ·rw [if_pos h, List.getD_eq_getElem?_getD, List.getElem?_append_left (by rw [List.length_take]; omega), List.getElem?_take, if_pos h]; rfl
 ·rw [if_neg h, List.getD_eq_getElem?_getD, List.getElem?_append_right (by rw [List.length_take]; omega), List.getElem?_replicate]
  split <;> rfl
theorem list_eq8 {A B : List Int} (h : A.length = B.length) (hq : ∀ q, q < A.length → A.getD q 0 = B.getD q 0) : A = B := by
 refine List.ext_getElem h fun i h1 h2 => ?_
 have := hq i h1
 simpa [List.getD, List.getElem?_eq_getElem h1, List.getElem?_eq_getElem h2] using this
theorem head_page {H : Hd} {zs : List Int} {e : Int} (h : PEnc ⟨5, [], 0, [], [], 0, [], [], H⟩ zs e) : (e = 0 ∧ zs = pageOf H ∧ may H = true) ∨ (e = 71 ∧ zs = []) := by
 rcases h with ⟨h0, _⟩ | ⟨_, h1, _⟩ | ⟨_, _, b, f, h2, h3⟩
 ·exact absurd h0 (show ¬ okK 5 = false by decide)
 ·exact absurd rfl h1
 ·rcases h2 with ⟨h0, _⟩ | ⟨h0, _⟩ | ⟨h0, _⟩ | ⟨h0, _⟩ | ⟨_, hb, hf⟩
  ·exact absurd h0 (show ¬ (5 : Int) = 1 by decide)
  ·exact absurd h0 (show ¬ (5 : Int) = 2 by decide)
  ·exact absurd h0 (show ¬ (5 : Int) = 3 by decide)
  ·exact absurd h0 (show ¬ (5 : Int) = 4 by decide)
  ·simp only at hb hf
   cases hm : may H with
   | false =>
    rw [(o_no hm).2] at hf
    rcases h3 with ⟨a1, a2, a3⟩ | ⟨a1, _⟩
    ·exact .inr ⟨a2.trans hf, a3⟩
    ·rw [a1] at hf; exact absurd hf (by decide)
   | true =>
    rw [(o_yes hm).2] at hf
    rw [(o_yes hm).1] at hb
    rcases h3 with ⟨a1, _⟩ | ⟨a1, a2, a3⟩
    ·exact absurd hf a1
    ·refine .inl ⟨?_, ?_, rfl⟩
     ·rw [a2, hb]; exact if_pos (mB_len H)
     ·rw [a3, hb]; exact if_pos (mB_len H)
theorem pageOf_bt (H : Hd) : Bt (pageOf H) := (mB_bt H).app (fun z hz => low4_bts _ z hz)
theorem head_back {H : Hd} {p : Pg} {e : Int} (hm : may H = true) (h : PDec (pageOf H) p e) : e = 0 ∧ p.head = H := by
 have hp : PEnc ⟨5, [], 0, [], [], 0, [], [], H⟩ (pageOf H) 0 := by
  refine .inr (.inr ⟨rfl, rfl, mB H, 0, .inr (.inr (.inr (.inr ⟨rfl, ?_, ?_⟩))), .inr ⟨rfl, ?_, ?_⟩⟩)
  ·exact (o_yes hm).1.symm
  ·exact (o_yes hm).2.symm
  ·exact (if_pos (mB_len H)).symm
  ·exact (if_pos (mB_len H)).symm
 obtain ⟨h1, h2⟩ := h.uniq hp.back.1
 exact ⟨h2, by rw [h1]⟩
set_option maxHeartbeats 4000000 in
set_option maxRecDepth 100000 in
theorem pageTorn_walk (v c r t k f n x : Int) (w : World) (ht : Tab w) (hk : Mk w) :
  Calls Tryz.prog 8 #[.agg #[.int .i64 v, .int .i64 c, .int .i64 r, .int .i64 t, .int .i64 k, .int .i64 f, .int .i64 n], .int .i64 x] w fun en w' => en = .returned (.bool true) ∧ w.grownBy w' none := by
 have HT := hid_intro ht
 have HK := hid_intro hk
 clear ht hk
 go_enter Tryz.func8, Tryz.ntmps8
 go_upto_region 1 with fail
 have X1 := hid_intro (Hx.new w v c r t k f n)
 have G1 := hid_intro (World.grownBy_alloc w (.cells #[.int .i64 v, .int .i64 c, .int .i64 r, .int .i64 t, .int .i64 k, .int .i64 f, .int .i64 n] 28) none)
 generalize w.alloc (.cells #[.int .i64 v, .int .i64 c, .int .i64 r, .int .i64 t, .int .i64 k, .int .i64 f, .int .i64 n] 28) = w1 at *
 go_wp2_with fail
 refine (first8_any _ (HT.out.keptN G1.out) (HK.out.keptN G1.out)).mono ?_
 rintro en w2 ⟨rfl, hg2⟩
 have X2 := hid_intro (X1.out.keptN hg2)
 have G2 := hid_intro (grown_trans G1.out hg2)
 clear hg2 X1 G1
 obtain ⟨c0, c1, c2, c3, c4, c5, c6⟩ := X2.out.cells
 go_wp2_with fail
 refine (encode8_any ⟨5, nS, 0, nS, nS, 0, nS, nS, ⟨v, c, r, t, k, f, n⟩⟩ ⟨5, [], 0, [], [], 0, [], [], ⟨v, c, r, t, k, f, n⟩⟩ _ (pn_head w w2 ⟨v, c, r, t, k, f, n⟩).pm (en_head _) (HT.out.keptN G2.out) (HK.out.keptN G2.out)).mono ?_
 rintro en w3 ⟨⟨ao, m, zs, e, rfl, hpe, hb3, hbt3, hm3, hn3⟩, hg3⟩
 have X3 := hid_intro (X2.out.keptN hg3)
 have G3 := hid_intro (grown_trans G2.out hg3)
 have hs3 := G2.out.size
 clear hg3 X2 G2 c0 c1 c2 c3 c4 c5 c6
 rcases head_page hpe with ⟨rfl, rfl, hmay⟩ | ⟨rfl, rfl⟩
 ·have HM := hid_intro hmay
  have HB3 := hid_intro hb3
  have hl3 := hb3.len
  rw [pageOf_len] at hl3
  subst hl3
  clear hpe hmay hn3 hm3 hb3 hbt3
  obtain ⟨H, hH⟩ : ∃ H : Hd, H = ⟨v, c, r, t, k, f, n⟩ := ⟨_, rfl⟩
  rw [← hH] at HM HB3
  have HHE := hid_intro hH
  clear hH
  go_wp2_with fail
  refine (num8_any _ _).mono ?_
  rintro en w4 ⟨rfl, rfl⟩
  go_wp2_with fail
  refine (refBytes_any ao 4096 4096 (pageOf H) _ HB3.out (by omega)).mono ?_
  rintro en w5 ⟨rfl, hown5, hg5, hs5⟩
  have R5 := hid_intro (Rw.of_owns hown5)
  have X5 := hid_intro (X3.out.keptN hg5)
  have G5 := hid_intro (grown_trans G3.out hg5)
  have hs4 := G3.out.size
  clear hown5 hg5 hs5 X3 G3 HB3
  have S5 : Hid (w.heap.size ≤ w4.heap.size) := hs4
  generalize w4.heap.size = g at *
  have HPL := hid_intro (pageOf_len H)
  obtain ⟨j, z, hj, hz, hz1, hz2, hj2⟩ := place96 x
  have hw9 : IntKind.i64.wrap (z + 4096) = z + 4096 := by simp [IntKind.wrap, IntKind.bits, IntKind.signed]; omega
  obtain ⟨M, hM⟩ : ∃ M, M = pageOf H := ⟨_, rfl⟩
  rw [← hM] at R5 HPL
  have HME := hid_intro hM
  clear hM
  go_wp2
  go_loopw [9, 10] (fun sb si wr => ∃ (i : Nat) (ys : List Int) (b : Bool), j ≤ i ∧ i ≤ 4096 ∧ si = .int .i64 i ∧ sb = .bool b ∧ ys.length = 4096 ∧ (∀ q, ys.getD q 0 = if j ≤ q ∧ q < i then 0 else M.getD q 0) ∧ (b = true ↔ ∃ q, j ≤ q ∧ q < i ∧ M.getD q 0 ≠ 0) ∧ Rw wr g ys ∧ Hx wr w.heap.size v c r t k f n ∧ w.grownBy wr none) (fun _ si _ => 4096 - (intOf si).toNat)
  case atStart => exact ⟨j, M, false, Nat.le_refl _, by omega, rfl, rfl, HPL.out, fun q => by rw [if_neg (by omega)], ⟨(fun h => by cases h), (fun ⟨q, h1, h2, _⟩ => by omega)⟩, R5.out, X5.out, G5.out⟩
  case round =>
   obtain ⟨i, ys, b, hi1, hi2, rfl, rfl, hyl, hyg, hb, hr, hx, hg⟩ := hrel
   have HYG := hid_intro hyg
   have HR := hid_intro hr
   have HX := hid_intro hx
   have HG := hid_intro hg
   have HBb := hid_intro hb
   clear hyg hr hg hx hb
   by_cases hlt : i < 4096
   ·have cb := HR.out.cell i (by omega)
    have cf := HR.out.frozen8 i
    have g1 : (i : Int) < 4096 := by omega
    have g0 : (0 : Int) ≤ (i : Int) := by omega
    have R6 := hid_intro (HR.out.set8 i 0)
    have gc := grown_cell wr g i (.int .u8 0)
    have G6 := hid_intro (grown_new HG.out gc S5.out)
    have X6 := hid_intro (HX.out.kept gc (fun e => by
     have e1 := Option.some.inj e
     have h1 : wr.heap[w.heap.size]? = _ := HX.out
     have h2 : wr.heap[g]? = _ := HR.out
     rw [e1, h2] at h1
     injection h1 with h1
     injection h1 with _ h1 _
     exact absurd h1 (by decide)))
    have HY6 : Hid (∀ q, (ys.set i 0).getD q 0 = if j ≤ q ∧ q < i + 1 then 0 else M.getD q 0) := by
     intro q
     rw [getD_set8 (by omega), HYG.out q]
     by_cases h : q = i
     ·rw [if_pos h, if_pos (by omega)]
     ·rw [if_neg h]
      by_cases h2 : j ≤ q ∧ q < i
      ·rw [if_pos h2, if_pos (by omega)]
      ·rw [if_neg h2, if_neg (by omega)]
    have HL6 : Hid ((ys.set i 0).length = 4096) := by show _ = _; rw [List.length_set]; exact hyl
    have hyi : ys.getD i 0 = M.getD i 0 := by rw [HYG.out i, if_neg (by omega)]
    have HB6 : Hid ((b || !(M.getD i 0 == 0)) = true ↔ ∃ q, j ≤ q ∧ q < i + 1 ∧ M.getD q 0 ≠ 0) := by
     show _ ↔ _
     rw [Bool.or_eq_true, HBb.out]
     constructor
     ·rintro (⟨q, h1, h2, h3⟩ | h)
      ·exact ⟨q, h1, by omega, h3⟩
      ·exact ⟨i, hi1, by omega, by simpa using h⟩
     ·rintro ⟨q, h1, h2, h3⟩
      by_cases e : q = i
      ·subst e; right; simpa using h3
      ·exact .inl ⟨q, h1, by omega, h3⟩
    rw [hyi] at cb
    clear hyi
    generalize M.getD i 0 = y0 at *
    cases b with
    | true =>
     go_wp2
     go_roundw
     case rel => exact ⟨i + 1, ys.set i 0, true, by omega, by omega, by go_num, rfl, HL6.out, HY6.out, HB6.out, R6.out, X6.out, G6.out⟩
     case measure => simp [intOf]; omega
    | false =>
     go_wp2
     go_roundw
     case rel => exact ⟨i + 1, ys.set i 0, !(y0 == 0), by omega, by omega, by go_num, rfl, HL6.out, HY6.out, HB6.out, R6.out, X6.out, G6.out⟩
     case measure => simp [intOf]; omega
   ·obtain rfl : i = 4096 := by omega
    have HE : Hid (ys = tornP H j) := by
     refine list_eq8 (by rw [hyl, tornP_len H j (by omega)]) fun q hq => ?_
     rw [HYG.out q, tornP_get H j q (by omega), HME.out]
     by_cases h : q < j
     ·rw [if_neg (by omega), if_pos h]
     ·rw [if_pos (by omega), if_neg h]
    have HBT : Hid (Bt ys) := by
     show Bt ys
     rw [HE.out]
     exact ((pageOf_bt H).take j).app (by intro z hz; have := List.eq_of_mem_replicate hz; omega)
    have HSM : Hid (b = false → ys = pageOf H) := fun hbf => by
     refine list_eq8 (by rw [hyl, pageOf_len]) fun q hq => ?_
     rw [HYG.out q, ← HME.out]
     by_cases h : j ≤ q ∧ q < 4096
     ·rw [if_pos h]
      by_cases hq0 : M.getD q 0 = 0
      ·exact hq0.symm
      ·have := HBb.out.2 ⟨q, h.1, h.2, hq0⟩
       rw [hbf] at this; cases this
     ·rw [if_neg h]
    have HDF : Hid (b = true → ys ≠ pageOf H) := fun hbt e => by
     obtain ⟨q, h1, h2, h3⟩ := HBb.out.1 hbt
     have := HYG.out q
     rw [if_pos ⟨h1, h2⟩, e, ← HME.out] at this
     exact h3 this
    have B7 := hid_intro (HR.out.all 4096 4096 hyl.symm)
    clear hi1 hi2 hlt hyl HYG HBb
    go_wp2_with fail
    refine (decode8_any _ 4096 4096 ys _ B7.out HBT.out (Nat.le_refl _) (HT.out.keptN HG.out) (HK.out.keptN HG.out)).mono ?_
    rintro en w8 ⟨⟨y, p, e, rfl, hpd, hpn, _⟩, hg8⟩
    have PD := hid_intro hpd
    have PN := hid_intro hpn
    have ga := World.grownBy_alloc w8 (.cells #[.int .i64 y.k, .slice y.i.a y.i.n y.i.c, .int .i64 y.l, .slice y.s.a y.s.n y.s.c, .slice y.d.a y.d.n y.d.c, .int .i64 y.x, .slice y.b.a y.b.n y.b.c, .slice y.t.a y.t.n y.t.c, .int .i64 y.h.v, .int .i64 y.h.c, .int .i64 y.h.r, .int .i64 y.h.h, .int .i64 y.h.k, .int .i64 y.h.f, .int .i64 y.h.n] 30) none
    have X8 := hid_intro ((HX.out.keptN hg8).keptN ga)
    have Y8 := hid_intro (Px.new w8 y)
    have G8 := hid_intro (grown_trans (grown_trans HG.out hg8) ga)
    clear hpd hpn hg8 ga HX HG
    cases b with
    | true =>
     have he : e ≠ 0 := fun h0 => HDF.out rfl (by
      have hp := PD.out
      rw [h0, HE.out] at hp
      rw [HE.out]
      exact tornP_no hj hp)
     have he1 : (e == 0) = false := by simp [he]
     have he2 : (e != 0) = true := by simp [he]
     clear he
     go_wp2_with fail
     refine (num8_any _ _).mono ?_
     rintro en w9 ⟨rfl, hw9'⟩
     subst hw9'
     go_wp2
     go_ret
     exact ⟨rfl, G8.out⟩
    | false =>
     have hsm := HSM.out rfl
     have hpd := PD.out
     rw [hsm] at hpd
     obtain ⟨rfl, hph⟩ := head_back HM.out hpd
     have hyh : y.h = ⟨v, c, r, t, k, f, n⟩ := by rw [PN.out.pm.head, hph]; exact HHE.out
     have HYH := hid_intro hyh
     clear hsm hpd hph hyh
     obtain ⟨c0, c1, c2, c3, c4, c5, c6⟩ := X8.out.cells
     go_upto_region 15 with fail
     generalize w8.alloc (.cells #[.int .i64 y.k, .slice y.i.a y.i.n y.i.c, .int .i64 y.l, .slice y.s.a y.s.n y.s.c, .slice y.d.a y.d.n y.d.c, .int .i64 y.x, .slice y.b.a y.b.n y.b.c, .slice y.t.a y.t.n y.t.c, .int .i64 y.h.v, .int .i64 y.h.c, .int .i64 y.h.r, .int .i64 y.h.h, .int .i64 y.h.k, .int .i64 y.h.f, .int .i64 y.h.n] 30) = w9 at *
     generalize w8.heap.size = T at *
     obtain ⟨d0, d1, d2, d3, d4, d5, d6, d7, d8, d9, d10, d11, d12, d13, d14⟩ := Y8.out.cells
     rw [HYH.out] at d8 d9 d10 d11 d12 d13 d14
     simp only at d8 d9 d10 d11 d12 d13 d14
     go_wp2_with fail
     refine (num8_any _ _).mono ?_
     rintro en w9 ⟨rfl, rfl⟩
     go_wp2_with fail
     refine (sameHead_any v c r t k f n v c r t k f n _).mono ?_
     rintro en w10 ⟨⟨b, rfl, hb⟩, hg10⟩
     obtain rfl : b = true := hb.2 rfl
     have G10 := hid_intro (grown_trans G8.out hg10)
     clear hg10 hb G8 c0 c1 c2 c3 c4 c5 c6 d0 d1 d2 d3 d4 d5 d6 d7 d8 d9 d10 d11 d12 d13 d14
     go_wp2
     go_ret
     exact ⟨rfl, G10.out⟩
 ·have hl3 : m = 0 := hb3.len.symm
  subst hl3
  clear hpe hn3 hm3 hb3 hbt3
  go_wp2_with fail
  refine (num8_any _ _).mono ?_
  rintro en w4 ⟨rfl, rfl⟩
  go_wp2_with fail
  refine (num8_any _ _).mono ?_
  rintro en w4 ⟨rfl, rfl⟩
  go_wp2
  go_ret
  exact ⟨rfl, G3.out⟩
end Go.Proofs.YtkiopabcnemgnaaGreatDoor
