import Derived.Test.YthebdbdahdegfaaBackD
namespace Go.Proofs.Ythebdbdahdegfaa
open Go.RowKit

set_option maxHeartbeats 1000000 in
set_option maxRecDepth 100000 in
theorem back_none (oo : Option Addr) (c : Nat) (cut : Int) (w : World) :
    Calls Try.prog 5 #[.slice oo 0 c, .int .i64 cut] w fun e w' => e = .returned (.bool true) ∧ Below w.heap.size w w' := by
  obtain ⟨C, hC, hCe⟩ := cut_to 0 cut
  obtain ⟨hq1, hq2⟩ := tmod_bd 0 cut
  have ht : cut.tmod 1 = 0 := Int.tmod_one cut
  clear hCe hq1 hq2
  go_enter Try.func5, Try.ntmps5
  go_wp2_with fail
  refine (first_any _).mono ?_
  rintro en w1 ⟨rfl, hg⟩
  have G1 : Hid (w.grownBy w1 none) := hg
  clear hg
  go_wp2
  refine wp_loop_rounds 1 ?_
  rw [rounds_succ]
  go_wp2_with fail
  refine (newReader_any none 0 0 [] _ (Byt.empty _) (by omega)).mono ?_
  rintro en w2 ⟨R, rfl, hr, hg, hR⟩
  have G2 : Hid (w.grownBy w2 none) := grown_trans G1.out hg
  have R2 : Hid (Rd w2 R w1.heap.size [] 0 0) := hr
  clear hr hg hR
  go_wp2
  refine wp_loop_rounds 1 ?_
  rw [rounds_succ]
  go_wp2_with fail
  refine (left_whole R _ [] 0 _ R2.out).mono ?_
  rintro en w3 ⟨rfl, hq⟩
  have G3 : Hid (w.grownBy w3 none) := grown_trans G2.out (hq.grown none)
  clear hq
  go_wp2
  go_ret
  exact ⟨rfl, Below_of G3.out⟩
end Go.Proofs.Ythebdbdahdegfaa
