import Derived.Test.YtomknmboapgmbaaBrIn
import Derived.Laws.BitsAllLaws
namespace Go.Proofs.Ytomknmboapgmbaa
open Go.RowKit

theorem Rw.set {w : World} {g : Nat} {zs : List Int} (h : Rw w g zs) (j : Nat) (z : Int) : Rw (w.setCell ⟨g, j, none⟩ (.int .u8 z)) g (zs.set j z) := by
  unfold Rw
  rw [heap_setCell_same w g j _ _ (.int .u8 z) h]
  simp [List.map_set]
theorem Bt.set4 {zs : List Int} (h : Bt zs) (j : Nat) (z : Int) (hz : 0 ≤ z ∧ z ≤ 255) : Bt (zs.set j z) := by
  intro y hy
  rcases List.mem_or_eq_of_mem_set hy with h1 | h1
  · exact h y h1
  · subst h1; exact hz
theorem xor_byte {z x : Int} (hz : 0 ≤ z ∧ z ≤ 255) (hx : 0 ≤ x ∧ x ≤ 255) : (0 ≤ bits .xor .u8 z x ∧ bits .xor .u8 z x ≤ 255) ∧ (bits .xor .u8 z x = z → x = 0) := by
  have e := u8_xor z x hz.1 (by omega) hx.1 (by omega)
  have hlt := Nat.xor_lt_two_pow (x := z.toNat) (y := x.toNat) (n := 8) (by omega) (by omega)
  rw [e]
  refine ⟨by omega, fun h => ?_⟩
  have h1 : z.toNat ^^^ x.toNat = z.toNat := by omega
  have h2 : z.toNat ^^^ (z.toNat ^^^ x.toNat) = z.toNat ^^^ z.toNat := by rw [h1]
  rw [← Nat.xor_assoc, Nat.xor_self, Nat.zero_xor] at h2
  omega
theorem place4 (x : Int) : ∃ (k : Nat) (y : Int), k < 4092 ∧ Int.tmod x 4092 = y ∧ -4092 < y ∧ y < 4092 ∧ Int.tmod (y + 4092) 4092 = (k : Int) := by
  have h1 := Int.tmod_lt_of_pos x (show (0 : Int) < 4092 by omega)
  have h2 := Int.lt_tmod_of_pos x (show (0 : Int) < 4092 by omega)
  refine ⟨((Int.tmod x 4092 + 4092) % 4092).toNat, _, by omega, rfl, h2, h1, ?_⟩
  rw [Int.tmod_eq_emod_of_nonneg (by omega)]
  omega

set_option maxHeartbeats 4000000 in
set_option maxRecDepth 100000 in
theorem oneForm_any (ao : Option Addr) (n c : Nat) (zs : List Int) (pl x : Int) (w : World) (hb : Byt w ao n c zs) (hbt : Bt zs) (hxb : 0 ≤ x ∧ x ≤ 255) :
    Calls Try.prog 29 #[.slice ao n c, .int .i64 pl, .int .u8 x] w fun en w' => en = .returned (.bool true) ∧ w.grownBy w' none := by
  have HB := hid_intro hb
  clear hb
  go_enter Try.func29, Try.ntmps29
  go_wp2_with fail
  refine (bdecode_any ao n c zs _ HB.out hbt).mono ?_
  rintro en w1 ⟨⟨lv, a, n1, cap, b, m, cap2, e, L, K, rfl, hdec, hlz, hlb, hn, hnc, hcm, hkl, hm, hmc, hcm2⟩, hg1⟩
  have L1 := hid_intro hlz
  have K1 := hid_intro hkl
  have B1 := hid_intro (HB.out.keptN hg1)
  have G1 := hid_intro hg1
  clear hlz hkl hg1 HB
  by_cases he : e = 0
  · obtain ⟨hz, k, M, rfl, rfl, hgd⟩ := hdec.good he
    subst he
    have hf := bwrong_fit.1 hgd.1
    have hl1 := hf.l1
    obtain ⟨l, rfl⟩ : ∃ l : Nat, lv = (l : Int) := ⟨lv.toNat, by omega⟩
    obtain rfl : n = 4092 := by have := B1.out.len; omega
    rw [seps_len] at hn
    rw [kids_len, hn] at hm
    subst hm
    have HEC := hid_intro (fun (W : World) (h1 : Lz W a (seps M)) (h2 : Kl W b (kids k M)) => bencode_ok l a n1 cap b cap2 k M W h1 hlb h2 hn hnc hcm hgd.1)
    rw [hgd.2] at HEC
    have HGD := hid_intro hgd
    have hmy : n1 ≤ 400 := by have := (bmany_le hf.sep hf.size).1; omega
    clear hdec hgd hf
    go_wp2_with fail
    refine (num5_any _ _).mono ?_
    rintro en w1 ⟨rfl, rfl⟩
    go_wp2_with fail
    refine (HEC.out _ L1.out K1.out).mono ?_
    rintro en w2 ⟨G, rfl, hr2, hg2, hG⟩
    have R2 := hid_intro hr2
    have H12 := hid_intro hg2
    have B2 := hid_intro (B1.out.keptN hg2)
    have G2 := hid_intro (grown_trans G1.out hg2)
    have HGG := hid_intro (Nat.le_trans G1.out.size hG)
    have hGl : w1.heap.size ≤ G := hG
    clear hr2 hg2 hG B1 G1 HEC
    go_wp2_with fail
    refine (num5_any _ _).mono ?_
    rintro en w2 ⟨rfl, rfl⟩
    go_wp2_with fail
    refine (same_yes _ _ 4092 4092 _ _ zs zs _ B2.out (R2.out.all 4092 4092 hz.symm) rfl).mono ?_
    rintro en wx ⟨rfl, rfl⟩
    by_cases hx0 : x = 0
    · subst hx0
      go_wp2
      go_ret
      exact ⟨rfl, G2.out⟩
    · have hx1 : (x == 0) = false := by simpa using hx0
      obtain ⟨j, y, hj, hy, hy1, hy2, hj2⟩ := place4 pl
      have ck := R2.out.cell j (by omega)
      have fk : wx.frozen? ⟨G, j, none⟩ = false := frozen_of_row wx G j _ _ R2.out
      have hzb := hbt.getD j
      have hzz := xor_byte (x := x) hzb hxb
      have HNE : Hid (¬ zs.set j (bits .xor .u8 (zs.getD j 0) x) = zs) := by
        intro e
        have e2 : (zs.set j (bits .xor .u8 (zs.getD j 0) x)).getD j 0 = zs.getD j 0 := by rw [e]
        have hkl : j < zs.length := by omega
        simp only [List.getD, List.getElem?_set_self hkl, Option.getD_some] at e2
        exact hx0 (hzz.2 (by simpa [List.getD] using e2))
      have R4 := hid_intro (R2.out.set j (bits .xor .u8 (zs.getD j 0) x))
      have T4 := hid_intro (hbt.set4 j _ hzz.1)
      have GC := hid_intro (grown_cell wx G j (.int .u8 (bits .xor .u8 (zs.getD j 0) x)))
      have G4 := hid_intro (grown_new G2.out GC.out HGG.out)
      have g0 : (0 : Int) ≤ (j : Int) := by omega
      have g1 : (j : Int) < 4092 := by omega
      have H14 := grown_new H12.out GC.out hGl
      have L4 := hid_intro (L1.out.keptN H14)
      have K4 := hid_intro (K1.out.keptN H14)
      have B4 : Hid (Byt (wx.setCell ⟨G, j, none⟩ (.int .u8 (bits .xor .u8 (zs.getD j 0) x))) (some ⟨G, 0, none⟩) 4092 4092 (zs.set j (bits .xor .u8 (zs.getD j 0) x))) :=
        R4.out.all 4092 4092 (by rw [List.length_set]; exact hz.symm)
      clear hzb hzz H14 R4 GC R2 B2 H12 L1 K1 G2
      generalize hzs : zs.set j (bits .xor .u8 (zs.getD j 0) x) = ys at *
      generalize zs.getD j 0 = z at *
      clear hzs
      go_wp2_with fail
      generalize wx.setCell ⟨G, j, none⟩ (.int .u8 (bits .xor .u8 z x)) = w4 at *
      clear ck fk
      refine (bdecode_any _ 4092 4092 ys _ B4.out T4.out).mono ?_
      rintro en w5 ⟨⟨lv5, a5, n5, c5, b5, m5, d5, e5, L5, K5, rfl, hdec, hlz5, hlb5, hn5, hnc5, hcm5, hkl5, hm5, hmc5, hcd5⟩, hg5⟩
      have LL5 := hid_intro hlz5
      have KK5 := hid_intro hkl5
      have L6 := hid_intro (L4.out.keptN hg5)
      have K6 := hid_intro (K4.out.keptN hg5)
      have G5 := hid_intro (grown_trans G4.out hg5)
      clear hlz5 hkl5 hg5 L4 K4 G4 B4
      have HNS : Hid (e5 = 0 → ¬ (lv5 = (l : Int) ∧ L5 = seps M ∧ K5 = kids k M)) := by
        rintro h ⟨h1, h2, h3⟩
        obtain ⟨_, k9, M9, q1, q2, q3⟩ := hdec.good h
        obtain ⟨rfl, rfl⟩ := branch_inj (q1.symm.trans h2) (q2.symm.trans h3)
        refine HNE.out ?_
        rw [← q3.2, h1]
        exact HGD.out.2
      have hcode := hdec.code
      clear hdec
      by_cases hlv : lv5 = (l : Int)
      · subst hlv
        have HL6 := hid_intro (sameLists_any a5 n5 c5 L5 a n1 cap (seps M) w5 LL5.out hlb5 hn5 L6.out hlb (by rw [seps_len]; exact hn) (by omega))
        go_wp2_with fail
        refine HL6.out.mono ?_
        rintro en w7 ⟨⟨b7, rfl, hb7⟩, hq7⟩
        have KK7 := hid_intro (KK5.out.heap hq7.heap)
        have K7 := hid_intro (K6.out.heap hq7.heap)
        have G7 := hid_intro (grown_trans G5.out (hq7.grown none))
        clear hq7 HL6 LL5 KK5 L6 K6 G5
        cases b7 with
        | true =>
          have e7 := hb7.1 rfl
          have HE7 := hid_intro e7
          clear e7 hb7
          go_wp2_with fail
          refine (sameKids_any b5 m5 d5 K5 b (n1 + 1) cap2 (kids k M) _ KK7.out hm5 K7.out (by rw [kids_len, hn]) (by omega)).mono ?_
          rintro en w8 ⟨⟨b8, rfl, hb8⟩, hq8⟩
          have G8 := hid_intro (grown_trans G7.out (hq8.grown none))
          have HN8 : Hid (e5 = 0 → b8 = false) := fun h => by
            cases b8 with
            | false => rfl
            | true => exact absurd ⟨by trivial, HE7.out, hb8.1 rfl⟩ (HNS.out h)
          clear hb8 hq8 HNS HE7 KK7 K7 G7
          rcases hcode with rfl | rfl
          · obtain rfl := HN8.out rfl
            go_wp2_with fail
            refine (num5_any _ _).mono ?_
            rintro en w8 ⟨rfl, rfl⟩
            go_wp2_with fail
            refine (num5_any _ _).mono ?_
            rintro en w8 ⟨rfl, rfl⟩
            go_wp2
            go_ret
            exact ⟨rfl, G8.out⟩
          · go_wp2_with fail
            refine (num5_any _ _).mono ?_
            rintro en w8 ⟨rfl, rfl⟩
            go_wp2
            go_ret
            exact ⟨rfl, G8.out⟩
        | false =>
          clear hb7 HNS
          rcases hcode with rfl | rfl
          · go_wp2_with fail
            refine (num5_any _ _).mono ?_
            rintro en w8 ⟨rfl, rfl⟩
            go_wp2_with fail
            refine (num5_any _ _).mono ?_
            rintro en w8 ⟨rfl, rfl⟩
            go_wp2
            go_ret
            exact ⟨rfl, G7.out⟩
          · go_wp2_with fail
            refine (num5_any _ _).mono ?_
            rintro en w8 ⟨rfl, rfl⟩
            go_wp2
            go_ret
            exact ⟨rfl, G7.out⟩
      · have hlb : (lv5 == (l : Int)) = false := beq_eq_false_iff_ne.2 hlv
        have hld : decide (lv5 = (l : Int)) = false := decide_eq_false hlv
        clear HNS
        rcases hcode with rfl | rfl
        · go_wp2_with fail
          refine (num5_any _ _).mono ?_
          rintro en w8 ⟨rfl, rfl⟩
          go_wp2_with fail
          refine (num5_any _ _).mono ?_
          rintro en w8 ⟨rfl, rfl⟩
          go_wp2
          go_ret
          exact ⟨rfl, G5.out⟩
        · go_wp2_with fail
          refine (num5_any _ _).mono ?_
          rintro en w8 ⟨rfl, rfl⟩
          go_wp2
          go_ret
          exact ⟨rfl, G5.out⟩
  · obtain ⟨rfl, rfl, rfl, _⟩ := hdec.bad he
    obtain rfl : e = 50 := hdec.code.resolve_left he
    obtain rfl : n1 = 0 := by simpa using hn.symm
    obtain rfl : m = 0 := by simpa using hm.symm
    clear hdec he
    go_wp2_with fail
    refine (num5_any _ _).mono ?_
    rintro en w1 ⟨rfl, rfl⟩
    go_wp2_with fail
    refine (num5_any _ _).mono ?_
    rintro en w1 ⟨rfl, rfl⟩
    go_wp2
    go_ret
    exact ⟨rfl, G1.out⟩

set_option maxHeartbeats 1000000 in
set_option maxRecDepth 100000 in
theorem branchOneForm_walk (ao : Option Addr) (bn bc : Nat) (zs : List Int) (lv : Int) (a : Option Addr) (n cap : Nat) (L : List (List Int)) (b : Option Addr) (m cap2 : Nat) (K : List Kd) (pl x : Int) (w : World) (hb : Byt w ao bn bc zs) (hbt : Bt zs) (_h1 : bn ≤ bc) (_h2 : bc ≤ 140737488351232) (_hlv : (Lit.int .i64 lv).wf = true) (hl : Lz w a L) (hlb : Lb L) (hn : L.length = n) (hnc : n ≤ cap) (hcm : cap ≤ 9223372036854775807) (hk : Kl w b K) (_hkb : Kb K) (hm : K.length = m) (_hmc : m ≤ cap2) (_hcm2 : cap2 ≤ 9223372036854775807) (_hp : (Lit.int .i64 pl).wf = true) (hx : (Lit.int .u8 x).wf = true) :
    Calls Try.prog 8 #[.slice ao bn bc, .int .i64 lv, .slice a n cap, .slice b m cap2, .int .i64 pl, .int .u8 x] w fun en w' => en = .returned (.bool true) ∧ w.grownBy w' none := by
  have hxb := bounds_u8 hx
  have HB := hid_intro hb
  have HL := hid_intro hl
  have HK := hid_intro hk
  clear hb hl hk
  go_enter Try.func8, Try.ntmps8
  go_wp2_with fail
  refine (first5_any _).mono ?_
  rintro en w1 ⟨rfl, hg1⟩
  have G1 := hid_intro hg1
  clear hg1
  by_cases h6 : bn ≤ 65536
  · go_wp2_with fail
    refine (few_any a n cap L b m cap2 _ (HL.out.keptN G1.out) hn).mono ?_
    rintro en w1 ⟨rfl, rfl⟩
    cases hfw : fw L m with
    | false =>
      clear hfw
      go_wp2
      go_ret
      exact ⟨rfl, G1.out⟩
    | true =>
      have hp := fw_parts hfw
      clear hfw
      go_wp2_with fail
      refine (bencode_any lv a n cap L b m cap2 K _ (HL.out.keptN G1.out) hlb hn (by omega) hnc hcm (HK.out.keptN G1.out) hm (by omega)).mono ?_
      rintro en w2 ⟨⟨co, j, cc, e, ys, rfl, hb2, hbe, hj4, hj5, hj6, _⟩, hg2⟩
      have B2 := hid_intro hb2
      have T2 := hid_intro (hbe.bt hlb)
      have G2 := hid_intro (grown_trans G1.out hg2)
      clear hb2 hbe hg2 G1
      go_wp2_with fail
      refine (oneForm_any ao bn bc zs pl x _ (HB.out.keptN G2.out) hbt hxb).mono ?_
      rintro en w3 ⟨rfl, hg3⟩
      have B3 := hid_intro (B2.out.keptN hg3)
      have G3 := hid_intro (grown_trans G2.out hg3)
      clear hg3 B2 G2
      go_wp2_with fail
      refine (oneForm_any co j cc ys pl x _ B3.out T2.out hxb).mono ?_
      rintro en w4 ⟨rfl, hg4⟩
      have G4 := hid_intro (grown_trans G3.out hg4)
      clear hg4 B3 G3
      go_wp2
      go_ret
      exact ⟨rfl, G4.out⟩
  · go_wp2
    go_ret
    exact ⟨rfl, G1.out⟩
end Go.Proofs.Ytomknmboapgmbaa
