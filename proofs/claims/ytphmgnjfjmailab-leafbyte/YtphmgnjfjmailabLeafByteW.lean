import Derived.Test.YtphmgnjfjmailabItemsIn
import Derived.Laws.BitsAllLaws
namespace Go.Proofs.Ytphmgnjfjmailab
open Go.RowKit

theorem Rw.set {w : World} {g : Nat} {zs : List Int} (h : Rw w g zs) (j : Nat) (z : Int) : Rw (w.setCell ⟨g, j, none⟩ (.int .u8 z)) g (zs.set j z) := by
  unfold Rw
  rw [heap_setCell_same w g j _ _ (.int .u8 z) h]
  simp [List.map_set]
theorem Bt.set4 {zs : List Int} (h : Bt zs) (j : Nat) (z : Int) (hz : 0 ≤ z ∧ z ≤ 255) : Bt (zs.set j z) := by
  intro y hy
  rcases List.mem_or_eq_of_mem_set hy with h1 | h1
  · exact h y h1
  · subst h1; exact hz
theorem xor_byte {z x : Int} (hz : 0 ≤ z ∧ z ≤ 255) (hx : 0 ≤ x ∧ x ≤ 255) : (0 ≤ bits .xor .u8 z x ∧ bits .xor .u8 z x ≤ 255) ∧ (bits .xor .u8 z x = z → x = 0) := by
  have e := u8_xor z x hz.1 (by omega) hx.1 (by omega)
  have hlt := Nat.xor_lt_two_pow (x := z.toNat) (y := x.toNat) (n := 8) (by omega) (by omega)
  rw [e]
  refine ⟨by omega, fun h => ?_⟩
  have h1 : z.toNat ^^^ x.toNat = z.toNat := by omega
  have h2 : z.toNat ^^^ (z.toNat ^^^ x.toNat) = z.toNat ^^^ z.toNat := by rw [h1]
  rw [← Nat.xor_assoc, Nat.xor_self, Nat.zero_xor] at h2
  omega
theorem place4 (x : Int) : ∃ (k : Nat) (y : Int), k < 4092 ∧ Int.tmod x 4092 = y ∧ -4092 < y ∧ y < 4092 ∧ Int.tmod (y + 4092) 4092 = (k : Int) := by
  have h1 := Int.tmod_lt_of_pos x (show (0 : Int) < 4092 by omega)
  have h2 := Int.lt_tmod_of_pos x (show (0 : Int) < 4092 by omega)
  refine ⟨((Int.tmod x 4092 + 4092) % 4092).toNat, _, by omega, rfl, h2, h1, ?_⟩
  rw [Int.tmod_eq_emod_of_nonneg (by omega)]
  omega

set_option maxHeartbeats 4000000 in
set_option maxRecDepth 100000 in
theorem byte_walk (a : Option Addr) (n cap : Nat) (L : List It) (pl x : Int) (w : World) (hl : Il w a L) (hib : Ib L) (hn : L.length = n) (_hnc : n ≤ cap) (_hcm : cap ≤ 9223372036854775807) (_hp : (Lit.int .i64 pl).wf = true) (hx : (Lit.int .u8 x).wf = true) :
    Calls Try.prog 4 #[.slice a n cap, .int .i64 pl, .int .u8 x] w fun en w' => en = .returned (.bool true) ∧ w.grownBy w' none := by
  have hxb := bounds_u8 hx
  have HL := hid_intro hl
  clear hl
  go_enter Try.func4, Try.ntmps4
  go_wp2_with fail
  refine (first4_any _).mono ?_
  rintro en w1 ⟨rfl, hg1⟩
  have G1 := hid_intro hg1
  clear hg1
  go_wp2_with fail
  refine (short_any a n cap L _ (HL.out.keptN G1.out) hn).mono ?_
  rintro en w2 ⟨rfl, hq2⟩
  have G2 := hid_intro (grown_trans G1.out (hq2.grown none))
  clear hq2 G1
  cases hsh : sh L with
  | false =>
    clear hsh
    go_wp2
    go_ret
    exact ⟨rfl, G2.out⟩
  | true =>
    have hsp := (sh_parts hsh).1
    clear hsh
    by_cases hx0 : x = 0
    · subst hx0
      go_wp2
      go_ret
      exact ⟨rfl, G2.out⟩
    · have hx1 : (x == 0) = false := by simpa using hx0
      have L2 := hid_intro (HL.out.keptN G2.out)
      by_cases hgd : wrong L = 0 ∧ size L ≤ 4092
      · have HGD : Hid (Good (body L) L) := ⟨hgd.1, hgd.2, rfl⟩
        have hbl := body_len hgd.1 hgd.2
        have HBL := hid_intro hbl
        have HBT := hid_intro (body_bt hib)
        clear hgd
        go_wp2_with fail
        refine (encode_ok a n cap L _ L2.out hib hn (by omega) HGD.out.1 HGD.out.2.1).mono ?_
        rintro en w3 ⟨G, rfl, hr3, hg3, hG⟩
        have R3 := hid_intro hr3
        have L3 := hid_intro (L2.out.keptN hg3)
        have G3 := hid_intro (grown_trans G2.out hg3)
        have HGG := hid_intro (Nat.le_trans G2.out.size hG)
        clear hr3 hg3 L2 G2 hG hbl
        go_wp2_with fail
        refine (num4_any _ _).mono ?_
        rintro en wx ⟨rfl, rfl⟩
        obtain ⟨k, y, hk, hy, hy1, hy2, hk2⟩ := place4 pl
        have ck := R3.out.cell k (by have := HBL.out; omega)
        have fk : wx.frozen? ⟨G, k, none⟩ = false := frozen_of_row wx G k _ _ R3.out
        have hz := HBT.out.getD k
        have hzz := xor_byte (x := x) hz hxb
        have HNE : Hid (¬ (body L).set k (bits .xor .u8 ((body L).getD k 0) x) = body L) := by
          intro e
          have e2 : ((body L).set k (bits .xor .u8 ((body L).getD k 0) x)).getD k 0 = (body L).getD k 0 := by rw [e]
          have hkl : k < (body L).length := by have := HBL.out; omega
          simp only [List.getD, List.getElem?_set_self hkl, Option.getD_some] at e2
          exact hx0 (hzz.2 (by simpa [List.getD] using e2))
        have R4 := hid_intro (R3.out.set k (bits .xor .u8 ((body L).getD k 0) x))
        have T4 := hid_intro (HBT.out.set4 k _ hzz.1)
        have GC := hid_intro (grown_cell wx G k (.int .u8 (bits .xor .u8 ((body L).getD k 0) x)))
        have G4 := hid_intro (grown_new G3.out GC.out HGG.out)
        have L4 := hid_intro (HL.out.keptN G4.out)
        have g0 : (0 : Int) ≤ (k : Int) := by omega
        have g1 : (k : Int) < 4092 := by omega
        have B4 : Hid (Byt (wx.setCell ⟨G, k, none⟩ (.int .u8 (bits .xor .u8 ((body L).getD k 0) x))) (some ⟨G, 0, none⟩) 4092 4092 ((body L).set k (bits .xor .u8 ((body L).getD k 0) x))) :=
          R4.out.all 4092 4092 (by rw [List.length_set]; exact HBL.out.symm)
        clear hz hzz R3 L3 G3 R4 GC HBT
        generalize hzs : (body L).set k (bits .xor .u8 ((body L).getD k 0) x) = zs at *
        generalize (body L).getD k 0 = z at *
        have HZS := hid_intro hzs
        clear hzs
        go_wp2_with fail
        generalize wx.setCell ⟨G, k, none⟩ (.int .u8 (bits .xor .u8 z x)) = w4 at *
        clear ck fk
        refine (decode_any _ 4092 4092 zs _ B4.out T4.out).mono ?_
        rintro en w5 ⟨⟨a5, n5, c5, e5, M, rfl, hdec, hil, hib5, hn5, hnc5, hcm5⟩, hg5⟩
        have I5 := hid_intro hil
        have L5 := hid_intro (L4.out.keptN hg5)
        have G5 := hid_intro (grown_trans G4.out hg5)
        clear hil hg5 L4 G4 B4
        rcases hdec with ⟨rfl, hgood, _⟩ | ⟨rfl, rfl, _⟩
        · have HNM : Hid (¬ M = L) := fun e => HNE.out (by subst e; exact hgood.2.2.symm)
          clear hgood
          go_wp2_with fail
          refine (num4_any _ _).mono ?_
          rintro en w6 ⟨rfl, rfl⟩
          go_wp2_with fail
          refine (sameItems_any _ n5 c5 M _ n cap L _ I5.out hib5 hn5 L5.out hib hn (by omega)).mono ?_
          rintro en w7 ⟨⟨b, rfl, hbb⟩, hg7⟩
          obtain rfl : b = false := by
            cases b with
            | false => rfl
            | true => exact absurd (hbb.1 rfl) HNM.out
          have G7 := hid_intro (grown_trans G5.out hg7)
          clear hbb hg7 G5 I5 L5
          go_wp2
          go_ret
          exact ⟨rfl, G7.out⟩
        · obtain rfl : n5 = 0 := by simpa using hn5.symm
          go_wp2_with fail
          refine (num4_any _ _).mono ?_
          rintro en w6 ⟨rfl, rfl⟩
          go_wp2_with fail
          refine (num4_any _ _).mono ?_
          rintro en w6 ⟨rfl, rfl⟩
          go_wp2
          go_ret
          exact ⟨rfl, G5.out⟩
      · obtain ⟨e3, he3, h3ne⟩ : ∃ e, (enc L).2 = e ∧ ¬ e = 0 := by
          refine ⟨_, rfl, fun e => hgd ?_⟩
          unfold enc at e
          split at e
          · rename_i h1
            split at e
            · rename_i h2
              exact ⟨h1, h2⟩
            · exact absurd e (by simp)
          · rename_i h1
            exact absurd e h1
        clear hgd
        have HEN := hid_intro (encode_any a n cap L w2 L2.out hib hn (by omega))
        rw [he3] at HEN
        clear he3
        go_wp2_with fail
        refine HEN.out.mono ?_
        rintro en w3 ⟨⟨ao3, k3, c3, rfl, _, _⟩, hg3⟩
        have GG3 := hid_intro (grown_trans G2.out hg3)
        clear hg3 L2 G2 HEN
        go_wp2_with fail
        refine (num4_any _ _).mono ?_
        rintro en wx ⟨rfl, rfl⟩
        go_wp2
        go_ret
        exact ⟨rfl, GG3.out⟩
end Go.Proofs.Ytphmgnjfjmailab
