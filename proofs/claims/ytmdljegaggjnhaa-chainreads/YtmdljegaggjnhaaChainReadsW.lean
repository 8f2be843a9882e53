import Derived.Test.YtmdljegaggjnhaaChF
import Derived.Test.YtmdljegaggjnhaaChR2
import Derived.Test.YtmdljegaggjnhaaChR4
namespace Go.Proofs.Ytmdljegaggjnhaa
open Go.RowKit

set_option maxHeartbeats 2000000 in
set_option maxRecDepth 100000 in
theorem chainReads_walk (ao : Option Addr) (n cap : Nat) (zs : List Int) (w : World) (hb : Byt w ao n cap zs) (hbt : Bt zs) (hc : n ≤ cap ∧ cap ≤ 9223372036854775807) :
    Calls Try.prog 6 #[.slice ao n cap] w fun en w' => en = .returned (.bool true) ∧ w.grownBy w' none := by
  have HB := hid_intro hb
  clear hb
  have HBT := hid_intro hbt
  have HC := hid_intro hc
  have hul : (uL zs).length ≤ 9223372036854775807 := by
    unfold uL
    split
    · rename_i h
      rw [rL_len]
      have := (dL_parts h).2.1
      omega
    · simp
  clear hbt hc
  go_enter Try.func6, Try.ntmps6
  go_wp2_with fail
  refine (first6_any _).mono ?_
  rintro en w1 ⟨rfl, hg1⟩
  have B1 := hid_intro (HB.out.keptN hg1)
  have G1 := hid_intro hg1
  clear hg1 HB
  go_wp2_with fail
  refine (decodeData_any ao n cap zs _ B1.out HBT.out).mono ?_
  rintro en w2 ⟨bo, m, rfl, hb2, hx2, hg2⟩
  have B2 := hid_intro (B1.out.keptN hg2)
  have G2 := hid_intro (grown_trans G1.out hg2)
  have D2 := hid_intro hb2
  clear hx2 hb2 hg2 B1 G1
  go_wp2_with fail
  refine (refDecodeData_any ao n cap zs _ B2.out HBT.out HC.out).mono ?_
  rintro en w3 ⟨co, k, c, rfl, hb3, hg3⟩
  have B3 := hid_intro (B2.out.keptN hg3)
  have G3 := hid_intro (grown_trans G2.out hg3)
  have D3 := hid_intro (D2.out.keptN hg3)
  have E3 := hid_intro hb3
  clear hb3 hg3 B2 G2 D2
  go_wp2_with fail
  refine (same_yes bo co m k m c _ _ _ D3.out E3.out rfl).mono ?_
  rintro en w3 ⟨rfl, rfl⟩
  clear D3 E3
  go_wp2_with fail
  refine (decodeList_any ao n cap zs _ B3.out HBT.out).mono ?_
  rintro en w4 ⟨lo, l, rfl, hn4, hl4, hx4, hg4⟩
  have B4 := hid_intro (B3.out.keptN hg4)
  have G4 := hid_intro (grown_trans G3.out hg4)
  have N4 := hid_intro hn4
  have HL4 := hid_intro hl4
  clear hx4 hn4 hg4 hl4 B3 G3
  go_wp2_with fail
  refine (refDecodeList_any ao n cap zs _ B4.out HBT.out).mono ?_
  rintro en w5 ⟨ko, j, kc, rfl, hn5, hl5, hg5⟩
  have G5 := hid_intro (grown_trans G4.out hg5)
  have N5 := hid_intro (N4.out.keptN hg5)
  have M5 := hid_intro hn5
  have HL5 := hid_intro hl5
  clear hn5 hg5 hl5 B4 G4 N4
  go_wp2_with fail
  refine (sameInts_any lo l l (uL zs) ko j kc (uL zs) _ N5.out HL4.out M5.out HL5.out (by rw [← HL4.out]; exact hul)).mono ?_
  rintro en w6 ⟨⟨b, rfl, hb6⟩, hq6⟩
  obtain rfl : b = true := hb6.2 rfl
  have G6 := hid_intro (grown_trans G5.out (hq6.grown none))
  clear hb6 hq6 N5 M5 G5
  go_wp2_with fail
  refine (num6_any _ _).mono ?_
  rintro en w6 ⟨rfl, rfl⟩
  go_wp2_with fail
  refine (num6_any _ _).mono ?_
  rintro en w6 ⟨rfl, rfl⟩
  go_wp2
  go_ret
  exact ⟨by simp, G6.out⟩
end Go.Proofs.Ytmdljegaggjnhaa
