import Derived.Test.YtomknmboapgmbaaBrE
namespace Go.Proofs.Ytomknmboapgmbaa
open Go.RowKit

set_option maxHeartbeats 4000000 in
set_option maxRecDepth 100000 in
theorem branchDecodes_walk (bo : Option Addr) (bn bc : Nat) (zs : List Int) (lv : Int) (a : Option Addr) (n cap : Nat) (L : List (List Int)) (b : Option Addr) (m cap2 : Nat) (K : List Kd) (d : Option Addr) (q cap3 : Nat) (w : World) (hb : Byt w bo bn bc zs) (hbt : Bt zs) (hbc : bn ≤ bc) (hbm : bc ≤ 140737488351232) (_hlv : (Lit.int .i64 lv).wf = true) (hl : Lz w a L) (hlb : Lb L) (hn : L.length = n) (_hnc : n ≤ cap) (_hcm : cap ≤ 9223372036854775807) (hk : Kl w b K) (_hkb : Kb K) (hkn : K.length = m) (_hmc : m ≤ cap2) (_hcm2 : cap2 ≤ 9223372036854775807) (he : El w d q) (_hq : q ≤ cap3) (_hq2 : cap3 ≤ 9223372036854775807) :
    Calls Try.prog 6 #[.slice bo bn bc, .int .i64 lv, .slice a n cap, .slice b m cap2, .slice d q cap3] w fun en w' => en = .returned (.bool true) ∧ w.grownBy w' none := by
  have HB := hid_intro hb
  have HL := hid_intro hl
  have HK := hid_intro hk
  have HE := hid_intro he
  clear hb hl hk he
  go_enter Try.func6, Try.ntmps6
  go_wp2_with fail
  refine (first5_any _).mono ?_
  rintro en w1 ⟨rfl, hg1⟩
  have G1 := hid_intro hg1
  clear hg1
  by_cases h1 : 65536 < bn
  · have h1' : (65536 : Int) < (bn : Int) := by omega
    go_wp2
    go_ret
    exact ⟨rfl, G1.out⟩
  · have h1' : ¬ (65536 : Int) < (bn : Int) := by omega
    have h1d : decide ((65536 : Int) < (bn : Int)) = false := decide_eq_false h1'
    go_wp2_with fail
    refine (few_any a n cap L b m cap2 _ (HL.out.keptN G1.out) hn).mono ?_
    rintro en w1 ⟨rfl, rfl⟩
    cases hfw : fw L m with
    | false =>
      clear hfw
      go_wp2
      go_ret
      exact ⟨rfl, G1.out⟩
    | true =>
      have hp := fw_parts hfw
      have hn2 : n ≤ 2000 := by omega
      have hm2 : m ≤ 2000 := hp.2.1
      clear hfw hp
      go_wp2_with fail
      refine (decodes_any bo bn bc zs _ (HB.out.keptN G1.out) hbt (by omega) hbc (by omega)).mono ?_
      rintro en w2 ⟨rfl, hg2⟩
      have G2 := hid_intro (grown_trans G1.out hg2)
      clear hg2 G1
      go_wp2_with fail
      refine (refEncode5_any lv a n cap L b m cap2 K _ (HL.out.keptN G2.out) hlb hn (by omega) (HK.out.keptN G2.out) hkn (by omega)).mono ?_
      rintro en w3 ⟨⟨ao, j, jc, e, ys, rfl, hb3, hbe, hj1, hj2, hj3⟩, hg3⟩
      have G3 := hid_intro (grown_trans G2.out hg3)
      have B3 := hid_intro hb3
      have HYB := hid_intro (hbe.bt hlb)
      have HLN : Hid (e = 0 → ys.length = 4092) := fun h => hbe.len h
      have hjl := hb3.len
      clear hg3 hb3 hbe G2
      by_cases he0 : e = 0
      · have hj4 := HLN.out he0
        obtain rfl : j = 4092 := by omega
        subst he0
        clear HLN
        go_wp2_with fail
        refine (decodes_any ao 4092 jc ys _ B3.out HYB.out (by omega) hj2 (by omega)).mono ?_
        rintro en w4 ⟨rfl, hg4⟩
        have G4 := hid_intro (grown_trans G3.out hg4)
        have B4 := hid_intro (B3.out.keptN hg4)
        clear hg4 G3 B3
        go_wp2_with fail
        refine (edited_any ao jc ys d q cap3 _ B4.out HYB.out (HE.out.keptN G4.out)).mono ?_
        rintro en w5 ⟨⟨g, rfl, xs, hb5, hbx⟩, hg5⟩
        have G5 := hid_intro (grown_trans G4.out hg5)
        have B5 := hid_intro hb5
        clear hg5 hb5 G4 B4
        go_wp2_with fail
        refine (decodes_any _ 4092 4092 xs _ B5.out hbx (by omega) (by omega) (by omega)).mono ?_
        rintro en w6 ⟨rfl, hg6⟩
        have G6 := hid_intro (grown_trans G5.out hg6)
        clear hg6 G5
        go_wp2
        go_ret
        exact ⟨rfl, G6.out⟩
      · have he1 : (e == 0) = false := beq_eq_false_iff_ne.2 he0
        clear HLN
        go_wp2
        go_ret
        exact ⟨rfl, G3.out⟩
end Go.Proofs.Ytomknmboapgmbaa
