import Derived.Test.YtbedmgjcfejdaaaGreatDoorSrN
namespace Go.Proofs.YtbedmgjcfejdaaaGreatDoor
open Go.RowKit

set_option maxHeartbeats 8000000 in
set_option maxRecDepth 100000 in
theorem scriptWords_walk (k : Int) (w : World) (hL : Lv w) : Calls Tryz.prog 3 #[.int .i64 k] w fun en w' => en = .returned (.bool true) ∧ w.grownBy w' none := by
  have HL : Hid (Lv w) := hL
  have HF := hid_intro (first23_any w hL)
  have HWD := hid_intro (fun (z : Int) (W : World) (h : w.grownBy W none) => word_any z W (hL.keptN h).stp)
  have HRW := hid_intro (fun (z : Int) (W : World) => refWord23_any z W)
  clear hL
  go_enter Tryz.func3, Tryz.ntmps3
  go_wp2_with fail
  refine HF.out.mono ?_
  rintro en w1 ⟨rfl, hg1⟩
  have G1 := hid_intro hg1
  clear hg1
  go_wp2_with fail
  refine (HWD.out k _ G1.out).mono ?_
  rintro en w2 ⟨rfl, rfl⟩
  go_wp2_with fail
  refine (HRW.out k _).mono ?_
  rintro en w3 ⟨rfl, hg3⟩
  have G3 := hid_intro (grown_trans G1.out hg3)
  clear hg3
  generalize tstr (wrd k) = s at *
  go_wp2
  go_loopw [4, 5] (fun s4 s5 wr => ∃ z : Int, s4 = .bool true ∧ s5 = .int .i64 z ∧ -1 ≤ z ∧ z ≤ 24 ∧ w.grownBy wr none) (fun _ s5 _ => (24 - intOf s5).toNat)
  case atStart => exact ⟨-1, by simp, rfl, by omega, by omega, G3.out⟩
  case round =>
    obtain ⟨z, rfl, rfl, h1, h2, hg⟩ := hrel
    have HG := hid_intro hg
    clear hg
    by_cases hz : z < 24
    · have hwr : IntKind.i64.wrap (z + 1) = z + 1 := wrap_small _ (by omega) (by omega)
      go_wp2_with fail
      refine (HWD.out z _ HG.out).mono ?_
      rintro en w5 ⟨rfl, rfl⟩
      go_wp2_with fail
      refine (HRW.out z _).mono ?_
      rintro en w6 ⟨rfl, hg6⟩
      have G6 := hid_intro (grown_trans HG.out hg6)
      clear hg6
      generalize tstr (wrd z) = sz at *
      go_wp2
      go_roundw
      case rel => exact ⟨z + 1, by simp, rfl, by omega, by omega, G6.out⟩
      case measure => simp [intOf]; omega
    · go_wp2
      go_ret
      exact ⟨rfl, HG.out⟩
end Go.Proofs.YtbedmgjcfejdaaaGreatDoor
