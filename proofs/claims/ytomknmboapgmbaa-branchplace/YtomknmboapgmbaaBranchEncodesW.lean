import Derived.Test.YtomknmboapgmbaaBrX4
namespace Go.Proofs.Ytomknmboapgmbaa
open Go.RowKit

theorem Benc.uniq {lv : Int} {L : List (List Int)} {K : List Kd} {zs ys : List Int} {e f : Int} (h : Benc lv L K zs e) (g : Benc lv L K ys f) : zs = ys ∧ e = f := by
  have he : e = f := h.code.trans g.code.symm
  subst he
  by_cases h0 : e = 0
  · obtain ⟨k, M, h1, h2, _, rfl⟩ := h.good h0
    obtain ⟨k', M', g1, g2, _, rfl⟩ := g.good h0
    obtain ⟨rfl, rfl⟩ := branch_inj (h1.symm.trans g1) (h2.symm.trans g2)
    exact ⟨rfl, rfl⟩
  · exact ⟨(h.bad h0).2.trans (g.bad h0).2.symm, rfl⟩

set_option maxHeartbeats 2000000 in
set_option maxRecDepth 100000 in
theorem encodes_any (lv : Int) (a : Option Addr) (n cap : Nat) (L : List (List Int)) (b : Option Addr) (m cap2 : Nat) (K : List Kd) (w : World) (hl : Lz w a L) (hlb : Lb L) (hn : L.length = n) (hm : n ≤ 5000) (hk : Kl w b K) (hkn : K.length = m) (hkm : m ≤ 4999) (hs : ∀ s ∈ L, s.length ≤ 4096) :
    Calls Try.prog 16 #[.int .i64 lv, .slice a n cap, .slice b m cap2] w fun en w' => en = .returned (.bool true) ∧ w.grownBy w' none := by
  have HL := hid_intro hl
  have HK := hid_intro hk
  have HKM : Hid (∀ x ∈ L, x.length ≤ 1000000) := fun x hx => by have := hs x hx; omega
  clear hl hk hs
  go_enter Try.func16, Try.ntmps16
  go_wp2_with fail
  refine (lent_any a n cap L _ HL.out hn (by omega) HKM.out).mono ?_
  rintro en w2 ⟨⟨A, c, h, gs, xs, rfl, hln⟩, hg2⟩
  have N2 := hid_intro hln
  have G2 := hid_intro hg2
  have hcl := hln.cap_le
  clear hln hg2
  go_wp2_with fail
  refine (lentKids_any b m cap2 K _ (HK.out.keptN G2.out) hkn (by omega)).mono ?_
  rintro en w3 ⟨⟨B, d, rfl, hlk⟩, hg3⟩
  have N3 := hid_intro (N2.out.keptN hg3)
  have K3 := hid_intro hlk
  have G3 := hid_intro (grown_trans G2.out hg3)
  clear hlk hg3 N2 G2
  go_wp2_with fail
  refine (bencode_any lv (some ⟨A, 0, none⟩) n c L (some ⟨B, 0, none⟩) m d K _ N3.out.lz hlb hn (by omega) (by omega) (by omega) K3.out.kl hkn (by omega)).mono ?_
  rintro en w4 ⟨⟨ao, j, jc, e, zs, rfl, hb4, hbe, hj4, hj5, hj6, _⟩, hg4⟩
  have N4 := hid_intro (N3.out.keptN hg4)
  have K4 := hid_intro (K3.out.keptN hg4)
  have G4 := hid_intro (grown_trans G3.out hg4)
  have B4 := hid_intro hb4
  have E4 := hid_intro hbe
  clear hb4 hbe hg4 N3 K3 G3
  go_wp2_with fail
  refine (refEncode5_any lv a n cap L b m cap2 K _ (HL.out.keptN G4.out) hlb hn (by omega) (HK.out.keptN G4.out) hkn (by omega)).mono ?_
  rintro en w5 ⟨⟨ao5, j5, jc5, e5, ys, rfl, hb5, hbe5, hj7, hj8, hj9⟩, hg5⟩
  obtain ⟨hzy, rfl⟩ := E4.out.uniq hbe5
  have N5 := hid_intro (N4.out.keptN hg5)
  have K5 := hid_intro (K4.out.keptN hg5)
  have G5 := hid_intro (grown_trans G4.out hg5)
  have B5 := hid_intro (B4.out.keptN hg5)
  have C5 := hid_intro hb5
  have HZY := hid_intro hzy
  clear hb5 hbe5 hg5 N4 K4 G4 B4 E4 hzy
  go_wp2_with fail
  refine (same_yes _ _ _ _ _ _ _ _ _ B5.out C5.out HZY.out).mono ?_
  rintro en w5 ⟨rfl, rfl⟩
  clear B5 C5
  go_wp2_with fail
  refine (stays_any w.heap.size A c h gs xs a n cap L _ N5.out (HL.out.keptN G5.out) hlb hn (by omega)).mono ?_
  rintro en w6 ⟨rfl, hg6⟩
  have K6 := hid_intro (K5.out.keptN hg6)
  have G6 := hid_intro (grown_trans G5.out hg6)
  clear hg6 N5 K5 G5
  go_wp2_with fail
  refine (stayKids_any _ B d b m cap2 K _ K6.out (HK.out.keptN G6.out) hkn (by omega)).mono ?_
  rintro en w7 ⟨rfl, hg7⟩
  have G7 := hid_intro (grown_trans G6.out hg7)
  clear hg7 K6 G6
  go_wp2_with fail
  refine (num5_any _ _).mono ?_
  rintro en w7 ⟨rfl, rfl⟩
  go_wp2
  go_ret
  exact ⟨rfl, G7.out⟩

set_option maxHeartbeats 1000000 in
set_option maxRecDepth 100000 in
theorem branchEncodes_walk (lv : Int) (a : Option Addr) (n cap : Nat) (L : List (List Int)) (b : Option Addr) (m cap2 : Nat) (K : List Kd) (w : World) (_hlv : (Lit.int .i64 lv).wf = true) (hl : Lz w a L) (hlb : Lb L) (hn : L.length = n) (_hnc : n ≤ cap) (_hcm : cap ≤ 9223372036854775807) (hk : Kl w b K) (_hkb : Kb K) (hm : K.length = m) (_hmc : m ≤ cap2) (_hcm2 : cap2 ≤ 9223372036854775807) :
    Calls Try.prog 4 #[.int .i64 lv, .slice a n cap, .slice b m cap2] w fun en w' => en = .returned (.bool true) ∧ w.grownBy w' none := by
  have HL := hid_intro hl
  have HK := hid_intro hk
  clear hl hk
  go_enter Try.func4, Try.ntmps4
  go_wp2_with fail
  refine (first5_any _).mono ?_
  rintro en w1 ⟨rfl, hg1⟩
  have G1 := hid_intro hg1
  clear hg1
  go_wp2_with fail
  refine (few_any a n cap L b m cap2 _ (HL.out.keptN G1.out) hn).mono ?_
  rintro en w1 ⟨rfl, rfl⟩
  cases hfw : fw L m with
  | false =>
    clear hfw
    go_wp2
    go_ret
    exact ⟨rfl, G1.out⟩
  | true =>
    have hp := fw_parts hfw
    have HLN : Hid (∀ x ∈ L, x.length ≤ 4096) := hp.2.2
    have hn2 : n ≤ 2000 := by omega
    have hm2 : m ≤ 2000 := hp.2.1
    clear hfw hp
    go_wp2_with fail
    refine (encodes_any lv a n cap L b m cap2 K _ (HL.out.keptN G1.out) hlb hn (by omega) (HK.out.keptN G1.out) hm (by omega) HLN.out).mono ?_
    rintro en w2 ⟨rfl, hg2⟩
    have G2 := hid_intro (grown_trans G1.out hg2)
    clear hg2 G1
    go_wp2
    go_ret
    exact ⟨rfl, G2.out⟩
end Go.Proofs.Ytomknmboapgmbaa
