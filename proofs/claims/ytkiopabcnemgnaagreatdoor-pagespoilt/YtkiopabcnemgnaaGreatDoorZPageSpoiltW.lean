import Derived.Test.YtkiopabcnemgnaaGreatDoorQ37
import Derived.Test.YtkiopabcnemgnaaGreatDoorQ45
import Derived.Test.YtkiopabcnemgnaaGreatDoorQ14
import Derived.Test.YtkiopabcnemgnaaGreatDoorQ51
import Derived.Test.YtkiopabcnemgnaaGreatDoorQ44
namespace Go.Proofs.YtkiopabcnemgnaaGreatDoor
open Go.RowKit
theorem place8 (x : Int) (n : Nat) (h0 : 0 < n) (hn : n ≤ 600000) : ∃ k : Nat, k < n ∧ Int.tmod (Int.tmod x n + n) n = (k : Int) ∧ 0 ≤ Int.tmod x n + n ∧ Int.tmod x n + n ≤ 1200000 := by
 have h1 := Int.tmod_lt_of_pos x (show (0 : Int) < n by omega)
 have h2 := Int.lt_tmod_of_pos x (show (0 : Int) < n by omega)
 rw [Int.tmod_eq_emod_of_nonneg (by omega)]
 have h4 := Int.emod_nonneg (Int.tmod x n + n) (show (n : Int) ≠ 0 by omega)
 have h5 := Int.emod_lt_of_pos (Int.tmod x n + n) (show (0 : Int) < n by omega)
 exact ⟨((Int.tmod x n + n) % n).toNat, by omega, by omega, by omega, by omega⟩
theorem flip_one {zs : List Int} (h : Bts zs) (hl : zs.length = 4096) {a : Nat} (ha : a < 32768) : Turned zs (flip zs a) (32768 - a) (part 1 (32768 - a) 32) := by
 rw [part_one (by omega)]
 have := (Turned.start h (32768 - a)).flip (i := a) (k := 0) (by rw [hl]; omega) (by rw [hl]; omega) (by omega)
 simpa using this
theorem xor8_nat (z a : Nat) (hz : z < 256) : bits .xor .u8 (z : Int) (2 ^ (a % 8) % 256) = ((z ^^^ 2 ^ (a % 8) : Nat) : Int) := by
 have hpw : 2 ^ (a % 8) ≤ 128 := by
  have : 2 ^ (a % 8) ≤ 2 ^ 7 := Nat.pow_le_pow_right (by decide) (by omega)
  simpa using this
 have h9 := u8_xor_nat z (2 ^ (a % 8)) hz (by omega)
 rw [← h9]
 congr 1
 have h10 : (2 : Int) ^ (a % 8) = ((2 ^ (a % 8) : Nat) : Int) := by simp
 rw [h10]
 generalize 2 ^ (a % 8) = e at hpw ⊢
 omega
theorem Bts.getD8 {zs : List Int} (h : Bts zs) (i : Nat) : 0 ≤ zs.getD i 0 ∧ zs.getD i 0 ≤ 255 := Bt.getD h i
set_option maxHeartbeats 8000000 in
set_option maxRecDepth 100000 in
theorem pageSpoilt_walk (x : Pv) (p : Pg) (at1 at2 : Int) (pt : Nat) (w : World) (hp : Pm w x p) (hr : Pr8 x) (hpt : pt < 4294967296) (ht : Tab w) (hm : Mk w) :
  Calls Tryz.prog 7 #[.agg #[.int .i64 x.k, .slice x.i.a x.i.n x.i.c, .int .i64 x.l, .slice x.s.a x.s.n x.s.c, .slice x.d.a x.d.n x.d.c, .int .i64 x.x, .slice x.b.a x.b.n x.b.c, .slice x.t.a x.t.n x.t.c, .int .i64 x.h.v, .int .i64 x.h.c, .int .i64 x.h.r, .int .i64 x.h.h, .int .i64 x.h.k, .int .i64 x.h.f, .int .i64 x.h.n], .int .i64 at1, .int .i64 at2, .int .u32 pt] w fun en w' => en = .returned (.bool true) ∧ w.grownBy w' none := by
 have HP := hid_intro hp
 have HR := hid_intro hr
 have HT := hid_intro ht
 have HM := hid_intro hm
 clear hp hr ht hm
 go_enter Tryz.func7, Tryz.ntmps7
 go_upto_region 1 with fail
 have X1 := hid_intro (Px.new w x)
 have G1 := hid_intro (World.grownBy_alloc w (.cells #[.int .i64 x.k, .slice x.i.a x.i.n x.i.c, .int .i64 x.l, .slice x.s.a x.s.n x.s.c, .slice x.d.a x.d.n x.d.c, .int .i64 x.x, .slice x.b.a x.b.n x.b.c, .slice x.t.a x.t.n x.t.c, .int .i64 x.h.v, .int .i64 x.h.c, .int .i64 x.h.r, .int .i64 x.h.h, .int .i64 x.h.k, .int .i64 x.h.f, .int .i64 x.h.n] 30) none)
 generalize w.alloc (.cells #[.int .i64 x.k, .slice x.i.a x.i.n x.i.c, .int .i64 x.l, .slice x.s.a x.s.n x.s.c, .slice x.d.a x.d.n x.d.c, .int .i64 x.x, .slice x.b.a x.b.n x.b.c, .slice x.t.a x.t.n x.t.c, .int .i64 x.h.v, .int .i64 x.h.c, .int .i64 x.h.r, .int .i64 x.h.h, .int .i64 x.h.k, .int .i64 x.h.f, .int .i64 x.h.n] 30) = w1 at *
 go_wp2_with fail
 refine (first8_any _ (HT.out.keptN G1.out) (HM.out.keptN G1.out)).mono ?_
 rintro en w2 ⟨rfl, hg2⟩
 have X2 := hid_intro (X1.out.keptN hg2)
 have G2 := hid_intro (grown_trans G1.out hg2)
 clear hg2 X1 G1
 obtain ⟨c0, c1, c2, c3, c4, c5, c6, c7, c8, c9, c10, c11, c12, c13, c14⟩ := X2.out.cells
 go_wp2_with fail
 refine (fits8_any x p _ (HP.out.keptN G2.out)).mono ?_
 rintro en w3 ⟨⟨b3, rfl, hb3⟩, hg3⟩
 have X3 := hid_intro (X2.out.keptN hg3)
 have G3 := hid_intro (grown_trans G2.out hg3)
 clear hg3 X2 G2 c0 c1 c2 c3 c4 c5 c6 c7 c8 c9 c10 c11 c12 c13 c14
 cases b3 with
 | false =>
  clear hb3
  go_wp2
  go_ret
  exact ⟨rfl, G3.out⟩
 | true =>
  have FP := hid_intro (hb3 rfl)
  clear hb3
  obtain ⟨c0, c1, c2, c3, c4, c5, c6, c7, c8, c9, c10, c11, c12, c13, c14⟩ := X3.out.cells
  go_wp2_with fail
  refine (encode8_any x p _ (HP.out.keptN G3.out) (FP.out.en HP.out HR.out) (HT.out.keptN G3.out) (HM.out.keptN G3.out)).mono ?_
  rintro en w4 ⟨⟨a4, n4, zs, e4, rfl, hp4, hb4, ht4, hl4, hx4⟩, hg4⟩
  clear hx4
  have G4 := hid_intro (grown_trans G3.out hg4)
  have B4 := hid_intro hb4
  clear hg4 X3 G3 c0 c1 c2 c3 c4 c5 c6 c7 c8 c9 c10 c11 c12 c13 c14
  go_wp2_with fail
  refine (num8_any _ _).mono ?_
  rintro en w4 ⟨rfl, rfl⟩
  by_cases he : e4 = 0
  ·subst he
   have hfi := hp4.back.2.1
   have hn4 : n4 = 4096 := by rw [← hb4.len]; exact hfi.1
   subst hn4
   have F4 := hid_intro hfi
   have T4 := hid_intro ht4
   clear hp4 hb4 ht4 hl4 hfi
   obtain ⟨a, ha, ha1, ha2, ha3⟩ := place8 at1 32768 (by decide) (by decide)
   have ha1' : Int.tmod (Int.tmod at1 32768 + 32768) 32768 = (a : Int) := ha1
   have ha2' : 0 ≤ Int.tmod at1 32768 + 32768 := ha2
   have ha3' : Int.tmod at1 32768 + 32768 ≤ 1200000 := ha3
   clear ha1 ha2 ha3
   obtain ⟨b, hb, hb1, hb2, hb3⟩ := place8 at2 32768 (by decide) (by decide)
   have hb1' : Int.tmod (Int.tmod at2 32768 + 32768) 32768 = (b : Int) := hb1
   have hb2' : 0 ≤ Int.tmod at2 32768 + 32768 := hb2
   have hb3' : Int.tmod at2 32768 + 32768 ≤ 1200000 := hb3
   clear hb1 hb2 hb3
   go_wp2_with fail
   refine (refBytes_any a4 4096 4096 zs _ B4.out (by omega)).mono ?_
   rintro en w5 ⟨rfl, hown5, hg5, _⟩
   have R5 := hid_intro (Rw.of_owns hown5)
   have G5 := hid_intro (grown_trans G4.out hg5)
   have B5 := hid_intro (B4.out.keptN hg5)
   have hs5 := G4.out.size
   have S5 : Hid (w.heap.size ≤ w4.heap.size) := hs5
   have hlt5 : w4.heap.size < w5.heap.size := R5.out.lt
   have Q5 := hid_intro hg5
   have HA4 : Hid (∀ ad : Addr, a4 = some ad → ad.block < w4.heap.size) := by
    intro ad e
    obtain ⟨b', off, e3, _, hc⟩ := B4.out.at (by omega)
    rw [e] at e3
    obtain rfl := Option.some.inj e3
    exact World.block_lt_of_cell? w4 _ (hc 0 (by omega))
   clear hown5 hg5 G4 hs5 hlt5 Q5
   generalize w4.heap.size = g at *
   have HL := hid_intro F4.out.1
   obtain ⟨M, hMa⟩ : ∃ M, M + a = 32768 := ⟨32768 - a, by omega⟩
   have HMA := hid_intro hMa
   clear hMa
   have T5 := hid_intro (Turned.start (bts T4.out) M)
   go_wp2
   clear ha1' ha2' ha3' hb1' hb2' hb3'
   go_loopw [13, 14, 15] (fun ss sk _ wr => ∃ (k : Nat) (ys : List Int), k ≤ 32 ∧ sk = .int .i64 k ∧ ss = .bool (decide (part pt (M) k ≠ 0)) ∧ Rw wr g ys ∧ Turned zs ys (M) (part pt (M) k) ∧ Byt wr a4 4096 4096 zs ∧ w.grownBy wr none) (fun _ sk _ _ => 32 - (intOf sk).toNat)
   case atStart => exact ⟨0, zs, by omega, rfl, by rw [part_zero]; rfl, R5.out, by rw [part_zero]; exact T5.out, B5.out, G5.out⟩
   case round =>
    obtain ⟨k, ys, hk, rfl, rfl, hr, hT, hbz, hg⟩ := hrel
    have R := hid_intro hr
    have T := hid_intro hT
    have G := hid_intro hg
    have BZ := hid_intro hbz
    clear hr hT hg hbz R5 G5 T5 B5
    by_cases hk32 : k < 32
    ·have hdiv : ((pt : Int) / 2 ^ k).tmod 2 = ((pt / 2 ^ k % 2 : Nat) : Int) := by
      have e0 : ((pt : Int) / 2 ^ k) = ((pt / 2 ^ k : Nat) : Int) := by simp
      rw [e0, Int.tmod_eq_emod_of_nonneg (Int.natCast_nonneg _)]
      simp
     by_cases hc : pt / 2 ^ k % 2 = 1 ∧ k < M
     ·have h1 : ((pt : Int) / 2 ^ k).tmod 2 = 1 := by rw [hdiv, hc.1]; rfl
      have hyl : ys.length = 4096 := T.out.len.trans HL.out
      have hcell := R.out.cell ((a + k) / 8) (by have := HMA.out; omega)
      have hfree := R.out.frozen8 ((a + k) / 8)
      have hzb := T.out.bts.getD8 ((a + k) / 8)
      obtain ⟨z, hz⟩ : ∃ z : Nat, ys.getD ((a + k) / 8) 0 = (z : Int) := ⟨(ys.getD ((a + k) / 8) 0).toNat, by omega⟩
      have hz2 : z < 256 := by omega
      have hset := flip_set ys (a + k) (by have := HMA.out; omega)
      rw [hz, Int.toNat_natCast] at hset
      rw [hz] at hcell
      have HSET := hid_intro hset
      have TF := hid_intro (T.out.flip (i := a + k) (k := k) (by rw [HL.out]; have := HMA.out; omega) (by rw [HL.out]; have := HMA.out; omega) (by omega))
      have HPY := hid_intro (part_yes hc.1 hc.2)
      have HN := hid_intro (part_ne hc.1 hc.2)
      have HX8 := hid_intro (xor8_nat z (a + k) hz2)
      clear hset hz hzb hdiv
      go_upto_region 17 with fail
      have h2 : (a : Int) + (k : Int) < 32768 := by have := HMA.out; omega
      go_wp2
      go_roundw
      case rel =>
       refine ⟨k + 1, flip ys (a + k), by omega, by go_num, by rw [decide_eq_true HN.out], ?_, by rw [HPY.out]; exact TF.out, ?_, ?_⟩
       ·rw [HX8.out, HSET.out]; exact R.out.set8 _ _
       ·exact BZ.out.kept (grown_cell wr g _ _) (fun ad e _ e2 => by have := HA4.out ad e; have := Option.some.inj e2; omega)
       ·exact grown_new G.out (grown_cell wr g _ _) S5.out
      case measure => simp [intOf]; omega
     ·have HN := hid_intro (part_no hc)
      by_cases hb1 : pt / 2 ^ k % 2 = 1
      ·have h1 : ((pt : Int) / 2 ^ k).tmod 2 = 1 := by rw [hdiv, hb1]; rfl
       have hkM : ¬ k < M := fun h => hc ⟨hb1, h⟩
       clear hdiv hc
       go_upto_region 17 with fail
       have h2 : ¬ (a : Int) + (k : Int) < 32768 := by have := HMA.out; omega
       go_wp2
       go_roundw
       case rel => exact ⟨k + 1, ys, by omega, by go_num, by first | (rw [HN.out]; done) | (rw [HN.out]; simp), R.out, by rw [HN.out]; exact T.out, BZ.out, G.out⟩
       case measure => simp [intOf]; omega
      ·have h1 : ¬ ((pt : Int) / 2 ^ k).tmod 2 = 1 := by rw [hdiv]; omega
       clear hdiv hc
       go_wp2
       go_roundw
       case rel => exact ⟨k + 1, ys, by omega, by go_num, by first | (rw [HN.out]; done) | (rw [HN.out]; simp), R.out, by rw [HN.out]; exact T.out, BZ.out, G.out⟩
       case measure => simp [intOf]; omega
    ·have hk2 : k = 32 := by omega
     subst hk2
     have hyl : ys.length = 4096 := T.out.len.trans HL.out
     have hq := page_turned HL.out (bts T4.out) F4.out.2 T.out (part_lt hpt)
     have HQ1 : Hid (fits ys ↔ part pt (M) 32 = 0) := ⟨fun h => hq.1 h.2, fun h => ⟨hyl, hq.2 h⟩⟩
     have BTY : Hid (Bt ys) := T.out.bts
     have BY := hid_intro (R.out.all 4096 4096 hyl.symm)
     clear hq T R
     generalize part pt M 32 = q1 at *
     go_wp2_with fail
     refine (decode8_any _ 4096 4096 ys _ BY.out BTY.out (Nat.le_refl _) (HT.out.keptN G.out) (HM.out.keptN G.out)).mono ?_
     rintro en w6 ⟨⟨y6, p6, f6, rfl, hd6, _, _⟩, hg6⟩
     have HD6 : Hid (f6 = 22 ↔ ¬ q1 = 0) := by
      show _ ↔ _
      rw [hd6.sum hyl, HQ1.out]
     have ga := World.grownBy_alloc w6 (.cells #[.int .i64 y6.k, .slice y6.i.a y6.i.n y6.i.c, .int .i64 y6.l, .slice y6.s.a y6.s.n y6.s.c, .slice y6.d.a y6.d.n y6.d.c, .int .i64 y6.x, .slice y6.b.a y6.b.n y6.b.c, .slice y6.t.a y6.t.n y6.t.c, .int .i64 y6.h.v, .int .i64 y6.h.c, .int .i64 y6.h.r, .int .i64 y6.h.h, .int .i64 y6.h.k, .int .i64 y6.h.f, .int .i64 y6.h.n] 30) none
     have G6 := hid_intro (grown_trans (grown_trans G.out hg6) ga)
     have B6 := hid_intro ((BZ.out.keptN hg6).keptN ga)
     clear hd6 hg6 ga G BZ BY BTY HQ1 hyl
     go_upto_region 21 with fail
     generalize w6.alloc (.cells #[.int .i64 y6.k, .slice y6.i.a y6.i.n y6.i.c, .int .i64 y6.l, .slice y6.s.a y6.s.n y6.s.c, .slice y6.d.a y6.d.n y6.d.c, .int .i64 y6.x, .slice y6.b.a y6.b.n y6.b.c, .slice y6.t.a y6.t.n y6.t.c, .int .i64 y6.h.v, .int .i64 y6.h.c, .int .i64 y6.h.r, .int .i64 y6.h.h, .int .i64 y6.h.k, .int .i64 y6.h.f, .int .i64 y6.h.n] 30) = w7 at *
     go_wp2_with fail
     refine (refBytes_any a4 4096 4096 zs _ B6.out (by omega)).mono ?_
     rintro en w8 ⟨rfl, hown8, hg8, _⟩
     have R8 := hid_intro (Rw.of_owns hown8)
     have G8 := hid_intro (grown_trans G6.out hg8)
     have S8 : Hid (w.heap.size ≤ w7.heap.size) := G6.out.size
     clear hown8 hg8 G6 B6
     generalize w7.heap.size = g2 at *
     have TA := hid_intro (flip_one (bts T4.out) HL.out ha)
     have hcell := R8.out.cell (a / 8) (by rw [HL.out]; omega)
     have hfree := R8.out.frozen8 (a / 8)
     have hzb := T4.out.getD (a / 8)
     obtain ⟨z, hz⟩ : ∃ z : Nat, zs.getD (a / 8) 0 = (z : Int) := ⟨(zs.getD (a / 8) 0).toNat, by omega⟩
     have hz2 : z < 256 := by omega
     have hset := flip_set zs a (by rw [HL.out]; omega)
     rw [hz, Int.toNat_natCast] at hset
     rw [hz] at hcell
     have HX8 := hid_intro (xor8_nat z a hz2)
     have R9 : Hid (Rw (w8.setCell ⟨g2, a / 8, none⟩ (.int .u8 (bits .xor .u8 (z : Int) (2 ^ (a % 8) % 256)))) g2 (flip zs a)) := by
      show Rw _ _ _
      rw [HX8.out, hset]; exact R8.out.set8 _ _
     have G9 : Hid (w.grownBy (w8.setCell ⟨g2, a / 8, none⟩ (.int .u8 (bits .xor .u8 (z : Int) (2 ^ (a % 8) % 256)))) none) := grown_new G8.out (grown_cell w8 g2 _ _) S8.out
     have HLF : Hid ((flip zs a).length = 4096) := by show _ = _; rw [flip_len]; exact HL.out
     clear hset hz hzb
     go_upto_region 23 with fail
     clear hcell hfree R8 G8
     generalize w8.setCell ⟨g2, a / 8, none⟩ (.int .u8 (bits .xor .u8 (z : Int) (2 ^ (a % 8) % 256))) = w9 at *
     obtain ⟨fs, hfs⟩ : ∃ fs, fs = flip zs a := ⟨_, rfl⟩
     rw [← hfs] at TA R9 HLF
     clear hfs
     have TB := hid_intro (flip_one TA.out.bts HLF.out hb)
     have hcell := R9.out.cell (b / 8) (by rw [HLF.out]; omega)
     have hfree := R9.out.frozen8 (b / 8)
     have hzb := TA.out.bts.getD8 (b / 8)
     obtain ⟨y, hy⟩ : ∃ y : Nat, fs.getD (b / 8) 0 = (y : Int) := ⟨(fs.getD (b / 8) 0).toNat, by omega⟩
     have hy2 : y < 256 := by omega
     have hset := flip_set fs b (by rw [HLF.out]; omega)
     rw [hy, Int.toNat_natCast] at hset
     rw [hy] at hcell
     have HY8 := hid_intro (xor8_nat y b hy2)
     have R10 : Hid (Rw (w9.setCell ⟨g2, b / 8, none⟩ (.int .u8 (bits .xor .u8 (y : Int) (2 ^ (b % 8) % 256)))) g2 (flip fs b)) := by
      show Rw _ _ _
      rw [HY8.out, hset]; exact R9.out.set8 _ _
     have G10 : Hid (w.grownBy (w9.setCell ⟨g2, b / 8, none⟩ (.int .u8 (bits .xor .u8 (y : Int) (2 ^ (b % 8) % 256)))) none) := grown_new G9.out (grown_cell w9 g2 _ _) S8.out
     obtain ⟨M, q2, hq2, hT2, hq20⟩ := TA.out.two TB.out ha hb (by omega)
     have hl10 : (flip fs b).length = 4096 := by rw [flip_len]; exact HLF.out
     have hpt2 := page_turned HL.out (bts T4.out) F4.out.2 hT2 hq2
     have HQ2 : Hid (fits (flip fs b) ↔ a = b) := ⟨fun h => hq20.1 (hpt2.1 h.2), fun h => ⟨hl10, hpt2.2 (hq20.2 h)⟩⟩
     have BT10 : Hid (Bt (flip fs b)) := TB.out.bts
     clear hset hy hzb hpt2 hT2 hq20 hq2
     go_upto_region 24 with fail
     clear hcell hfree R9 G9
     generalize w9.setCell ⟨g2, b / 8, none⟩ (.int .u8 (bits .xor .u8 (y : Int) (2 ^ (b % 8) % 256))) = w10 at *
     go_wp2_with fail
     refine (decode8_any _ 4096 4096 (flip fs b) _ (R10.out.all 4096 4096 hl10.symm) BT10.out (Nat.le_refl _) (HT.out.keptN G10.out) (HM.out.keptN G10.out)).mono ?_
     rintro en w11 ⟨⟨y11, p11, f11, rfl, hd11, _, _⟩, hg11⟩
     have HD11 : Hid (f11 = 22 ↔ ¬ a = b) := by
      show _ ↔ _
      rw [hd11.sum hl10, HQ2.out]
     have ga := World.grownBy_alloc w11 (.cells #[.int .i64 y11.k, .slice y11.i.a y11.i.n y11.i.c, .int .i64 y11.l, .slice y11.s.a y11.s.n y11.s.c, .slice y11.d.a y11.d.n y11.d.c, .int .i64 y11.x, .slice y11.b.a y11.b.n y11.b.c, .slice y11.t.a y11.t.n y11.t.c, .int .i64 y11.h.v, .int .i64 y11.h.c, .int .i64 y11.h.r, .int .i64 y11.h.h, .int .i64 y11.h.k, .int .i64 y11.h.f, .int .i64 y11.h.n] 30) none
     have G11 := hid_intro (grown_trans (grown_trans G10.out hg11) ga)
     clear hd11 hg11 ga G10 R10 BT10 hl10
     go_upto_region 25 with fail
     generalize w11.alloc (.cells #[.int .i64 y11.k, .slice y11.i.a y11.i.n y11.i.c, .int .i64 y11.l, .slice y11.s.a y11.s.n y11.s.c, .slice y11.d.a y11.d.n y11.d.c, .int .i64 y11.x, .slice y11.b.a y11.b.n y11.b.c, .slice y11.t.a y11.t.n y11.t.c, .int .i64 y11.h.v, .int .i64 y11.h.c, .int .i64 y11.h.r, .int .i64 y11.h.h, .int .i64 y11.h.k, .int .i64 y11.h.f, .int .i64 y11.h.n] 30) = w12 at *
     go_wp2_with fail
     refine (num8_any _ _).mono ?_
     rintro en w13 ⟨rfl, rfl⟩
     have HFIN : Hid ((q1 = 0 ∧ ¬ f6 = 22) ∨ (q1 ≠ 0 ∧ f6 = 22)) := by
      by_cases h : q1 = 0
      ·exact .inl ⟨h, fun e => HD6.out.1 e h⟩
      ·exact .inr ⟨h, HD6.out.2 h⟩
     rcases HFIN.out with ⟨h1, h2⟩ | ⟨h1, h2⟩
     ·subst h1
      have h2' : (f6 == 22) = false := by simp [h2]
      clear h2
      go_wp2_with fail
      refine (num8_any _ _).mono ?_
      rintro en w14 ⟨rfl, rfl⟩
      by_cases hab : a = b
      ·have hf : ¬ f11 = 22 := fun e => HD11.out.1 e hab
       have hf1 : (f11 == 22) = false := by simp [hf]
       have hab' : ((a : Int) != (b : Int)) = false := by simp [hab]
       clear hf
       go_wp2
       go_ret
       exact ⟨rfl, G11.out⟩
      ·have hf : f11 = 22 := HD11.out.2 hab
       subst hf
       have hab' : ((a : Int) != (b : Int)) = true := by simp; omega
       go_wp2
       go_ret
       exact ⟨rfl, G11.out⟩
     ·subst h2
      go_wp2_with fail
      refine (num8_any _ _).mono ?_
      rintro en w14 ⟨rfl, rfl⟩
      by_cases hab : a = b
      ·have hf : ¬ f11 = 22 := fun e => HD11.out.1 e hab
       have hf1 : (f11 == 22) = false := by simp [hf]
       have hab' : ((a : Int) != (b : Int)) = false := by simp [hab]
       clear hf
       go_wp2
       go_ret
       exact ⟨rfl, G11.out⟩
      ·have hf : f11 = 22 := HD11.out.2 hab
       subst hf
       have hab' : ((a : Int) != (b : Int)) = true := by simp; omega
       go_wp2
       go_ret
       exact ⟨rfl, G11.out⟩
  ·have hz := hp4.bad he
   subst hz
   have hn : n4 = 0 := hb4.len.symm
   subst hn
   have he1 : (e4 == 0) = false := by simp [he]
   have he2 : (e4 != 0) = true := by simp [he]
   clear hp4 hb4 he
   go_wp2
   go_ret
   exact ⟨rfl, G4.out⟩
end Go.Proofs.YtkiopabcnemgnaaGreatDoor
