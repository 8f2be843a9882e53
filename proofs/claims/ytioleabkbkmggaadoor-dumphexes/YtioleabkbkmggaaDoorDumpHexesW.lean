import Derived.Test.YtioleabkbkmggaaDoorDuH
namespace Go.Proofs.YtioleabkbkmggaaDoor
open Go.RowKit

theorem str_same (t : List UInt8) : ((tstr t).toList == (tstr t).toList) = true := by simp
set_option maxHeartbeats 8000000 in
set_option maxRecDepth 100000 in
theorem dumpHexes_walk (ao : Option Addr) (n c : Nat) (zs : List Int) (at' x : Int) (w : World) (hb : Byt w ao n c zs) (bt : Bt zs) (ht : Tzd w) (hxx : 0 ≤ x ∧ x ≤ 255) :
    Calls Tryd.prog 3 #[.slice ao n c, .int .i64 at', .int .u8 x] w fun en w' => en = .returned (.bool true) ∧ w.grownBy w' none := by
  obtain ⟨i0, hi, hz0, hz1, hz2⟩ := info_parts info_u8
  have HF := hid_intro (first20 w ht)
  have HB := hid_intro hb
  have HL := hid_intro hb.len
  have BT := hid_intro bt
  clear hb bt ht
  by_cases hl : 65536 < n
  · have g1 : (65536 : Int) < (n : Int) := by omega
    go_enter Tryd.func3, Tryd.ntmps3
    go_wp2_with fail
    refine HF.out.mono ?_
    rintro en w1 ⟨rfl, hg⟩
    have HG := hid_intro hg
    clear hg
    go_wp2
    go_ret
    exact ⟨rfl, HG.out⟩
  · have g1 : ¬ (65536 : Int) < (n : Int) := by omega
    have HUH : Hid (∀ W : World, Calls Tryd.prog 12 #[.string (tstr (hx zs))] W fun en w' => UhP W (hx zs) en w') := fun W => unhex_any (tstr (hx zs)) W (by rw [tstr_size]; have := (hx_len zs).1; have := HL.out; omega)
    have HUV := hid_intro (uh_hx BT.out)
    have hss := str_same (hx zs)
    go_enter Tryd.func3, Tryd.ntmps3
    go_wp2_with fail
    refine HF.out.mono ?_
    rintro en w1 ⟨rfl, hg1⟩
    have G1 := hid_intro hg1
    have B1 := hid_intro (HB.out.keptN hg1)
    clear hg1 HF
    go_wp2_with fail
    refine (refBytes_any ao n c zs w1 B1.out (by omega)).mono ?_
    rintro en w2 ⟨rfl, ho2, hg2, _⟩
    have O2 := hid_intro ho2
    have B2 := hid_intro (B1.out.keptN hg2)
    have G2 := hid_intro (grown_trans G1.out hg2)
    have hs2 := G1.out.size
    have hs22 := hg2.size
    clear ho2 hg2 B1
    go_wp2_with (at_builtin; refine wpList_append_own _ rfl _ _ 22 rfl w1.heap.size 5 i0 (.int .u8 0) 1 1 Tryd.underlying22 hi hz0 hz1 hz2 rfl (by decide) _ n _ rfl (O2.out.alloc _) ⟨w2.heap.size, 0, none⟩ 2 2 [.int .u8 201, .int .u8 202] rfl rfl (cell_two_new _ _ _ _) (by intro u hu; simp at hu; rcases hu with rfl | rfl <;> rfl) (by unfold maxLen; omega) (by omega) (by simp; omega) ?_)
    intro v3 w3 ho3 hg3 _
    have e3 : (zs.map (Value.int .u8)) ++ [.int .u8 201, .int .u8 202] = (zs ++ [201, 202]).map (Value.int .u8) := by simp
    rw [e3] at ho3
    obtain ⟨g, cp, hv3, hgb, hnc, hcell, hfr⟩ := own_atD ho3 (by omega)
    subst hv3
    have O3 := hid_intro ho3
    have G3 := hid_intro (grown_app20 G2.out (own_low O2.out hs2) (Nat.le_refl _) hg3)
    have B3 := hid_intro (HB.out.keptN G3.out)
    have hl3 : ((zs ++ [201, 202]).take n) = zs := by rw [List.take_left' HL.out]
    have S3 : Hid (Byt w3 (some ⟨g, 0, none⟩) n cp zs) := by
      have := (byt_of_ownD ho3).take n cp (by omega) (fun e => by cases e)
      rwa [hl3] at this
    have m1 : Hid ((zs ++ [201, 202]).getD n 0 = 201) := by
      show _ = _
      have := HL.out
      subst this
      simp [List.getD]
    have m2 : Hid ((zs ++ [201, 202]).getD (n + 1) 0 = 202) := by
      show _ = _
      have := HL.out
      subst this
      simp [List.getD]
    clear ho3 hg3 hcell hfr hl3 O2 e3
    have q1 : (n : Int) ≤ (cp : Int) := by omega
    have q0 : (0 : Int) ≤ (n : Int) := by omega
    go_wp2_with fail
    refine (hex_any (some ⟨g, 0, none⟩) n cp zs w3 S3.out BT.out (by omega)).mono ?_
    rintro en w4 ⟨rfl, hg4⟩
    have O4 := hid_intro (own_keptD O3.out hg4)
    have G4 := hid_intro (grown_trans G3.out hg4)
    clear hg4 O3 S3 B3 G3
    go_wp2_with fail
    refine (HUH.out _).mono ?_
    rintro en w5 ⟨hg5, ⟨hu, _⟩ | ⟨b, bo, bc, hu, rfl, ho⟩⟩
    · have := HUV.out.symm.trans hu
      cases this
    have hbz : b = zs := (Option.some.inj (HUV.out.symm.trans hu)).symm
    subst hbz
    have O5 := hid_intro (own_keptD O4.out hg5)
    have G5 := hid_intro (grown_trans G4.out hg5)
    have C5 := hid_intro (byt_of_ownD ho)
    have hbl := HL.out
    rw [hbl] at C5 ⊢
    clear hg5 ho O4 G4 hu hbl
    go_wp2_with fail
    refine (refHex_any ao n c b w5 (HB.out.keptN G5.out) BT.out (by omega)).mono ?_
    rintro en w6 ⟨rfl, hg6⟩
    have O6 := hid_intro (own_keptD O5.out hg6)
    have G6 := hid_intro (grown_trans G5.out hg6)
    have C6 := hid_intro (C5.out.keptN hg6)
    have B6 := hid_intro (HB.out.keptN G6.out)
    obtain ⟨g', cp', e6, _, _, hcell, hfr⟩ := own_atD O6.out (by omega)
    simp only [Value.slice.injEq, Option.some.injEq, Addr.mk.injEq, and_true] at e6
    obtain ⟨rfl, _, rfl⟩ := e6
    have c1 := hcell n (by omega)
    have c2 := hcell (n + 1) (by omega)
    rw [m1.out] at c1
    rw [m2.out] at c2
    have S6 : Hid (Byt w6 (some ⟨g, 0, none⟩) n cp b) := by
      have := (byt_of_ownD O6.out).take n cp (by omega) (fun e => by cases e)
      rwa [List.take_left' HL.out] at this
    have k1 : (n : Int) < ((n + 2 : Nat) : Int) := by omega
    have k2 : (n : Int) + 1 < ((n + 2 : Nat) : Int) := by omega
    clear hg6 O5 G5 C5
    by_cases hn0 : n = 0
    · have z0 : ((n : Int) == 0) = true := by rw [hn0]; rfl
      clear hn0
      go_wp2_with (first
        | (go_at_call_of 14 (Value.slice bo n bc); refine (same20 _ _ _ _ _ _ b b _ C6.out B6.out BT.out BT.out).mono ?_; rintro en w7 ⟨rfl, hw7⟩; subst hw7; rw [decide_eq_true (rfl : b = b)])
        | (go_at_call 15; refine (num20 _ _).mono ?_; rintro en w7 ⟨rfl, hw7⟩; subst hw7)
        | (go_at_call 14; refine (same20 _ _ _ _ _ _ b b _ S6.out B6.out BT.out BT.out).mono ?_; rintro en w7 ⟨rfl, hw7⟩; subst hw7; rw [decide_eq_true (rfl : b = b)]))
      go_ret
      exact ⟨rfl, G6.out⟩
    · have z0 : ((n : Int) == 0) = false := by rw [beq_eq_false_iff_ne]; omega
      obtain ⟨k, y, hk, hy, hy1, hy2, hk2⟩ := placeD at' n (by omega)
      have hk3 : (y + (n : Int)) % (n : Int) = (k : Int) := by rw [← hk2, Int.tmod_eq_emod_of_nonneg (by omega)]
      have hw : IntKind.i64.wrap (y + (n : Int)) = y + (n : Int) := wrap_small _ (by omega) (by omega)
      have y0 : (0 : Int) ≤ y + (n : Int) := by omega
      have j0 : (0 : Int) ≤ (k : Int) := by omega
      have j1 : (k : Int) < ((n + 2 : Nat) : Int) := by omega
      have n0 : ¬ (n : Int) = 0 := by omega
      have n1 : (0 : Int) < (n : Int) := by omega
      have ck := hcell k (by omega)
      have fk := hfr k
      have hxy := xor_byteD (((BT.out.app (btD [201, 202] rfl)).getD k)) hxx
      have OS : Hid (∀ z, (w6.setCell ⟨g, k, none⟩ (.int .u8 z)).ownsRow w1.heap.size 5 1 (.slice (some ⟨g, 0, none⟩) (n + 2) cp) (n + 2) (((b ++ [201, 202]).set k z).map (Value.int .u8))) := fun z => own_setD O6.out
      have GS : Hid (∀ z, w.grownBy (w6.setCell ⟨g, k, none⟩ (.int .u8 z)) none) := fun z => grown_setN G6.out O6.out hs2 k _
      generalize hzz : (b ++ [201, 202]).getD k 0 = zk at *
      generalize hyy : bits .xor .u8 zk x = zx at *
      have BS : Hid (Byt (w6.setCell ⟨g, k, none⟩ (.int .u8 zx)) (some ⟨g, 0, none⟩) n cp (b.set k zx)) := by
        have := (byt_of_ownD (OS.out zx)).take n cp (by omega) (fun e => by cases e)
        rwa [List.set_append_left _ _ (by have := HL.out; omega), List.take_left' (by rw [List.length_set]; exact HL.out)] at this
      have BTS := hid_intro (BT.out.setD k zx hxy)
      have GZ := hid_intro (GS.out zx)
      clear hcell hfr OS GS hzz hxy hk2
      go_wp2_with (first
        | (go_at_call_of 14 (Value.slice bo n bc); refine (same20 _ _ _ _ _ _ b b _ C6.out B6.out BT.out BT.out).mono ?_; rintro en w7 ⟨rfl, hw7⟩; subst hw7; rw [decide_eq_true (rfl : b = b)])
        | (go_at_call 15; refine (num20 _ _).mono ?_; rintro en w7 ⟨rfl, hw7⟩; subst hw7)
        | (go_at_call 14; refine (same20 _ _ _ _ _ _ b b _ S6.out B6.out BT.out BT.out).mono ?_; rintro en w7 ⟨rfl, hw7⟩; subst hw7; rw [decide_eq_true (rfl : b = b)]))
      generalize w7.setCell ⟨g, k, none⟩ (.int .u8 zx) = w8 at *
      refine (refBytes_any _ n cp (b.set k zx) w8 BS.out (by omega)).mono ?_
      rintro en w9 ⟨rfl, ho9, hg9, _⟩
      have D9 := hid_intro (Byt.of_owns ho9)
      have BS9 := hid_intro (BS.out.keptN hg9)
      have G9 := hid_intro (grown_trans GZ.out hg9)
      clear ho9 hg9
      have hss2 := str_same (hx (b.set k zx))
      go_wp2_with fail
      refine (hex_any _ n cp (b.set k zx) w9 BS9.out BTS.out (by omega)).mono ?_
      rintro en w10 ⟨rfl, hg10⟩
      have G10 := hid_intro (grown_trans G9.out hg10)
      have D10 := hid_intro (D9.out.keptN hg10)
      clear hg10
      go_wp2_with fail
      refine (refHex_any _ n n (b.set k zx) w10 D10.out BTS.out (by omega)).mono ?_
      rintro en w11 ⟨rfl, hg11⟩
      have G11 := hid_intro (grown_trans G10.out hg11)
      clear hg11
      go_wp2
      go_ret
      exact ⟨rfl, G11.out⟩
end Go.Proofs.YtioleabkbkmggaaDoor
