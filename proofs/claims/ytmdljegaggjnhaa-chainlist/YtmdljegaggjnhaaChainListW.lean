import Derived.Test.YtmdljegaggjnhaaChF
import Derived.Test.YtmdljegaggjnhaaChR3
namespace Go.Proofs.Ytmdljegaggjnhaa
open Go.RowKit

set_option maxHeartbeats 2000000 in
set_option maxRecDepth 100000 in
theorem chainList_walk (x : Int) (ao : Option Addr) (n cap : Nat) (xs : List Int) (w : World) (hb : Nt w ao xs) (hl : xs.length = n) (hn : n ≤ 9223372036854775806) :
    Calls Try.prog 5 #[.int .i64 x, .slice ao n cap] w fun en w' => en = .returned (.bool true) ∧ w.grownBy w' none := by
  have HB := hid_intro hb
  clear hb
  go_enter Try.func5, Try.ntmps5
  go_wp2_with fail
  refine (first6_any _).mono ?_
  rintro en w1 ⟨rfl, hg1⟩
  have B1 := hid_intro (HB.out.keptN hg1)
  have G1 := hid_intro hg1
  clear hg1 HB
  go_wp2_with fail
  refine (encodeList_any x ao n cap xs _ B1.out hl hn).mono ?_
  rintro en w2 ⟨bo, m, rfl, hb2, hx2, hg2⟩
  have B2 := hid_intro (B1.out.keptN hg2)
  have G2 := hid_intro (grown_trans G1.out hg2)
  have D2 := hid_intro hb2
  clear hx2 hb2 hg2 B1 G1
  go_wp2_with fail
  refine (refEncodeList_any x ao n cap xs _ B2.out hl hn).mono ?_
  rintro en w3 ⟨co, k, c, rfl, hb3, hg3⟩
  have G3 := hid_intro (grown_trans G2.out hg3)
  have D3 := hid_intro (D2.out.keptN hg3)
  have E3 := hid_intro hb3
  clear hb3 hg3 B2 G2 D2
  go_wp2_with fail
  refine (same_yes bo co m k m c _ _ _ D3.out E3.out rfl).mono ?_
  rintro en w3 ⟨rfl, rfl⟩
  go_wp2_with fail
  refine (num6_any _ _).mono ?_
  rintro en w3 ⟨rfl, rfl⟩
  go_wp2
  go_ret
  exact ⟨by simp, G3.out⟩
end Go.Proofs.Ytmdljegaggjnhaa
