import Derived.Test.YtphmgnjfjmailaaItemsIn
namespace Go.Proofs.Ytphmgnjfjmailaa
open Go.RowKit

set_option maxHeartbeats 4000000 in
set_option maxRecDepth 100000 in
theorem back_walk (a : Option Addr) (n cap : Nat) (L : List It) (bo : Option Addr) (m d : Nat) (zs : List Int) (w : World) (hl : Il w a L) (hib : Ib L) (hn : L.length = n) (_hnc : n ≤ cap) (_hcm : cap ≤ 9223372036854775807) (hb : Byt w bo m d zs) (hbt : Bt zs) (_hmd : m ≤ d) (_hdm : d ≤ 140737488351232) :
    Calls Try.prog 6 #[.slice a n cap, .slice bo m d] w fun en w' => en = .returned (.bool true) ∧ w.grownBy w' none := by
  have HL := hid_intro hl
  have HB := hid_intro hb
  clear hl hb
  go_enter Try.func6, Try.ntmps6
  go_wp2_with fail
  refine (first4_any _).mono ?_
  rintro en w1 ⟨rfl, hg1⟩
  have G1 := hid_intro hg1
  clear hg1
  go_wp2_with fail
  refine (short_any a n cap L _ (HL.out.keptN G1.out) hn).mono ?_
  rintro en w2 ⟨rfl, hq2⟩
  have G2 := hid_intro (grown_trans G1.out (hq2.grown none))
  clear hq2 G1
  cases hsh : sh L with
  | false =>
    clear hsh
    go_wp2
    go_ret
    exact ⟨rfl, G2.out⟩
  | true =>
    have hsp := (sh_parts hsh).1
    clear hsh
    by_cases hm : m ≤ 65536
    · have L2 := hid_intro (HL.out.keptN G2.out)
      have B2 := hid_intro (HB.out.keptN G2.out)
      by_cases hgd : wrong L = 0 ∧ size L ≤ 4092
      · have HGD : Hid (Good (body L) L) := ⟨hgd.1, hgd.2, rfl⟩
        clear hgd
        go_wp2_with fail
        refine (encode_ok a n cap L _ L2.out hib hn (by omega) HGD.out.1 HGD.out.2.1).mono ?_
        rintro en w3 ⟨G3, rfl, hr3, hg3, _⟩
        have R3 := hid_intro (hr3.all 4092 4092 (body_len HGD.out.1 HGD.out.2.1).symm)
        have L3 := hid_intro (L2.out.keptN hg3)
        have B3 := hid_intro (B2.out.keptN hg3)
        have GG3 := hid_intro (grown_trans G2.out hg3)
        clear hr3 hg3 L2 B2 G2
        go_wp2_with fail
        refine (num4_any _ _).mono ?_
        rintro en wx ⟨rfl, rfl⟩
        go_wp2_with fail
        refine (decode_any _ 4092 4092 _ _ R3.out (body_bt hib)).mono ?_
        rintro en w4 ⟨⟨a4, n4, c4, e4, M, rfl, hdec, hil, hib4, hn4, hnc4, hcm4⟩, hg4⟩
        obtain ⟨rfl, rfl⟩ : e4 = 0 ∧ M = L := by
          rcases hdec with ⟨h1, h2, _⟩ | ⟨_, _, h3⟩
          · exact ⟨h1, good_one h2 HGD.out⟩
          · exact absurd ⟨HGD.out, body_len HGD.out.1 HGD.out.2.1⟩ (h3 _)
        have I4 := hid_intro hil
        have L4 := hid_intro (L3.out.keptN hg4)
        have B4 := hid_intro (B3.out.keptN hg4)
        have GG4 := hid_intro (grown_trans GG3.out hg4)
        clear hil hg4 hdec L3 B3 GG3 R3
        go_wp2_with fail
        refine (sameItems_any _ n4 c4 M _ n cap M _ I4.out hib4 hn4 L4.out hib hn (by omega)).mono ?_
        rintro en wy ⟨⟨b, rfl, hbb⟩, hgy⟩
        obtain rfl : b = true := hbb.2 rfl
        have By := hid_intro (B4.out.keptN hgy)
        have Gy := hid_intro (grown_trans GG4.out hgy)
        clear hbb hgy B4 GG4 I4 L4
        go_wp2_with fail
        refine (num4_any _ _).mono ?_
        rintro en wz ⟨rfl, rfl⟩
        go_wp2_with fail
        refine (decode_any bo m d zs _ (By.out) hbt).mono ?_
        rintro en w5 ⟨⟨a5, n5, c5, e5, M, rfl, hdec, hil, hib, hn5, hnc5, hcm5⟩, hg5⟩
        have L5 := hid_intro hil
        have G5 := hid_intro (grown_trans Gy.out hg5)
        have Z5 := hid_intro (By.out.keptN hg5)
        clear hil hg5 By Gy
        rcases hdec with ⟨rfl, hgood, hl5⟩ | ⟨rfl, rfl, _⟩
        · have HGD := hid_intro hgood
          have hlen := (many_le hgood.1 hgood.2.1).1
          clear hgood hl5
          go_wp2_with fail
          refine (num4_any _ _).mono ?_
          rintro en w6 ⟨rfl, rfl⟩
          go_wp2_with fail
          refine (encode_ok a5 n5 c5 M _ L5.out hib hn5 (by omega) HGD.out.1 HGD.out.2.1).mono ?_
          rintro en w7 ⟨G7, rfl, hr7, hg7, _⟩
          have R7 := hid_intro (hr7.all 4092 4092 (body_len HGD.out.1 HGD.out.2.1).symm)
          have Z7 := hid_intro (Z5.out.keptN hg7)
          have GG7 := hid_intro (grown_trans G5.out hg7)
          clear hr7 hg7 G5 Z5 L5
          go_wp2_with fail
          refine (same_yes _ _ _ _ _ _ _ _ _ R7.out Z7.out HGD.out.2.2).mono ?_
          rintro en w8 ⟨rfl, rfl⟩
          go_wp2_with fail
          refine (num4_any _ _).mono ?_
          rintro en w9 ⟨rfl, rfl⟩
          go_wp2
          go_ret
          exact ⟨rfl, GG7.out⟩
        · obtain rfl : n5 = 0 := by simpa using hn5.symm
          go_wp2_with fail
          refine (num4_any _ _).mono ?_
          rintro en w6 ⟨rfl, rfl⟩
          go_wp2_with fail
          refine (num4_any _ _).mono ?_
          rintro en w6 ⟨rfl, rfl⟩
          go_wp2
          go_ret
          exact ⟨rfl, G5.out⟩
      · obtain ⟨e3, he3, h3ne⟩ : ∃ e, (enc L).2 = e ∧ ¬ e = 0 := by
          refine ⟨_, rfl, fun e => hgd ?_⟩
          unfold enc at e
          split at e
          · rename_i h1
            split at e
            · rename_i h2
              exact ⟨h1, h2⟩
            · exact absurd e (by simp)
          · rename_i h1
            exact absurd e h1
        clear hgd
        have HEN := hid_intro (encode_any a n cap L w2 L2.out hib hn (by omega))
        rw [he3] at HEN
        clear he3
        go_wp2_with fail
        refine HEN.out.mono ?_
        rintro en w3 ⟨⟨ao3, k3, c3, rfl, _, _⟩, hg3⟩
        have B3 := hid_intro (B2.out.keptN hg3)
        have GG3 := hid_intro (grown_trans G2.out hg3)
        clear hg3 L2 B2 G2 HEN
        go_wp2_with fail
        refine (num4_any _ _).mono ?_
        rintro en wx ⟨rfl, rfl⟩
        go_wp2_with fail
        refine (decode_any bo m d zs _ (B3.out) hbt).mono ?_
        rintro en w5 ⟨⟨a5, n5, c5, e5, M, rfl, hdec, hil, hib, hn5, hnc5, hcm5⟩, hg5⟩
        have L5 := hid_intro hil
        have G5 := hid_intro (grown_trans GG3.out hg5)
        have Z5 := hid_intro (B3.out.keptN hg5)
        clear hil hg5 B3 GG3
        rcases hdec with ⟨rfl, hgood, hl5⟩ | ⟨rfl, rfl, _⟩
        · have HGD := hid_intro hgood
          have hlen := (many_le hgood.1 hgood.2.1).1
          clear hgood hl5
          go_wp2_with fail
          refine (num4_any _ _).mono ?_
          rintro en w6 ⟨rfl, rfl⟩
          go_wp2_with fail
          refine (encode_ok a5 n5 c5 M _ L5.out hib hn5 (by omega) HGD.out.1 HGD.out.2.1).mono ?_
          rintro en w7 ⟨G7, rfl, hr7, hg7, _⟩
          have R7 := hid_intro (hr7.all 4092 4092 (body_len HGD.out.1 HGD.out.2.1).symm)
          have Z7 := hid_intro (Z5.out.keptN hg7)
          have GG7 := hid_intro (grown_trans G5.out hg7)
          clear hr7 hg7 G5 Z5 L5
          go_wp2_with fail
          refine (same_yes _ _ _ _ _ _ _ _ _ R7.out Z7.out HGD.out.2.2).mono ?_
          rintro en w8 ⟨rfl, rfl⟩
          go_wp2_with fail
          refine (num4_any _ _).mono ?_
          rintro en w9 ⟨rfl, rfl⟩
          go_wp2
          go_ret
          exact ⟨rfl, GG7.out⟩
        · obtain rfl : n5 = 0 := by simpa using hn5.symm
          go_wp2_with fail
          refine (num4_any _ _).mono ?_
          rintro en w6 ⟨rfl, rfl⟩
          go_wp2_with fail
          refine (num4_any _ _).mono ?_
          rintro en w6 ⟨rfl, rfl⟩
          go_wp2
          go_ret
          exact ⟨rfl, G5.out⟩
    · go_wp2
      go_ret
      exact ⟨rfl, G2.out⟩
end Go.Proofs.Ytphmgnjfjmailaa
