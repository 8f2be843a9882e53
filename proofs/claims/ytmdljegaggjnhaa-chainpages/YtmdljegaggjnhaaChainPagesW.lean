import Derived.Test.YtmdljegaggjnhaaChF
import Derived.Test.YtmdljegaggjnhaaChP
namespace Go.Proofs.Ytmdljegaggjnhaa
open Go.RowKit

theorem pcs_lb {zs : List Int} (h : Bt zs) (m : Nat) : Lb (pcs zs m) := by
  intro s hs
  unfold pcs at hs
  obtain ⟨i, _, rfl⟩ := List.mem_map.1 hs
  exact pc_bt h i

set_option maxHeartbeats 2000000 in
set_option maxRecDepth 100000 in
theorem chainPages_walk (x : Int) (ao : Option Addr) (n cap : Nat) (zs : List Int) (w : World) (hb : Byt w ao n cap zs) (hbt : Bt zs) (hc : n ≤ cap ∧ cap ≤ 9223372036854775807) :
    Calls Try.prog 3 #[.int .i64 x, .slice ao n cap] w fun en w' => en = .returned (.bool true) ∧ w.grownBy w' none := by
  have HB := hid_intro hb
  clear hb
  have HLB := hid_intro (pcs_lb hbt (pg n))
  go_enter Try.func3, Try.ntmps3
  go_wp2_with fail
  refine (first6_any _).mono ?_
  rintro en w1 ⟨rfl, hg1⟩
  have B1 := hid_intro (HB.out.keptN hg1)
  have G1 := hid_intro hg1
  clear hg1 HB
  go_wp2_with fail
  refine (pages_any x _).mono ?_
  rintro en w1 ⟨rfl, rfl⟩
  generalize hP : pgI x = P at *
  have HP := hid_intro hP
  clear hP
  go_wp2_with fail
  refine (refPages_any x _).mono ?_
  rw [HP.out]
  rintro en w1 ⟨rfl, rfl⟩
  by_cases hbig : 524288 < n
  · have hbig' : (524288 : Int) < (n : Int) := by omega
    go_wp2_with fail
    refine (refPages_any x _).mono ?_
    rw [HP.out]
    rintro en w1 ⟨rfl, rfl⟩
    go_wp2
    go_ret
    exact ⟨by simp, G1.out⟩
  · have hbig' : ¬ (524288 : Int) < (n : Int) := by omega
    go_wp2_with fail
    refine (pieces_any ao n cap zs _ B1.out hc).mono ?_
    rintro en w2 ⟨rfl, hp2, hg2⟩
    have L2 := hid_intro hp2.lz
    have B2 := hid_intro (B1.out.keptN hg2)
    have G2 := hid_intro (grown_trans G1.out hg2)
    clear hp2 hg2 B1 G1
    go_wp2_with fail
    refine (refPieces_any ao n cap zs _ B2.out hc).mono ?_
    rintro en w3 ⟨a, c, rfl, hlz, hg3⟩
    have L3 := hid_intro hlz
    have L3' := hid_intro (L2.out.keptN hg3)
    have G3 := hid_intro (grown_trans G2.out hg3)
    clear hlz hg3 B2 L2 G2
    have hpl := pcs_len zs (pg n)
    have hp65 := pg_le n
    generalize pg n = N at *
    go_wp2_with fail
    refine (sameLists_any _ N N (pcs zs N) a N c (pcs zs N) _ L3'.out HLB.out hpl L3.out HLB.out hpl (by omega)).mono ?_
    rintro en w4 ⟨⟨b, rfl, hb4⟩, hq4⟩
    obtain rfl : b = true := hb4.2 rfl
    go_wp2
    go_ret
    exact ⟨rfl, grown_trans G3.out (hq4.grown none)⟩
end Go.Proofs.Ytmdljegaggjnhaa
