import Derived.Test.YtnghkgnpbcadaaaDoorCrc4
namespace Go.Proofs.YtnghkgnpbcadaaaDoor
open Go.RowKit

theorem low4_int (s : Nat) (h : s < 4294967296) : [(s : Int) % 256, (s : Int) / 256 % 256, (s : Int) / 65536 % 256, (s : Int) / 16777216] = low4 s := by
  unfold low4
  rw [show ((s / 16777216 % 256 : Nat) : Int) = (s : Int) / 16777216 by omega]
  rfl

set_option maxHeartbeats 2000000 in
theorem behind_calls (ao : Option Addr) (n cap : Nat) (zs : List Int) (w : World) (hb : Byt w ao n cap zs) (bt : Bt zs) (ht : Tab w) :
    Calls Tryd.prog 8 #[.slice ao n cap] w fun e w' => e = .returned (.bool true) ∧ w.grownBy w' none := by
  have HB := hid_intro hb
  have HT := hid_intro ht
  clear hb ht
  go_enter Tryd.func8, Tryd.ntmps8
  go_wp2_with fail
  refine (first2_any w HT.out).mono ?_
  rintro e w1 ⟨rfl, hg1⟩
  have G1 := hid_intro hg1
  clear hg1
  by_cases hn : n ≤ 65536
  · have hn1 : ¬ (65536 : Int) < (n : Int) := by omega
    go_wp2_with fail
    refine (sum_any ao n cap zs w1 (HB.out.keptN G1.out) bt (HT.out.keptN G1.out) (by omega)).mono ?_
    rintro e w2 ⟨rfl, rfl⟩
    have hl := upd_lt 0 zs
    have hbh := behind (bts bt)
    generalize upd 0 zs = s at *
    go_wp2_with fail
    refine (refBytes_any ao n cap zs w2 (HB.out.keptN G1.out) (by omega)).mono ?_
    rintro e w3 ⟨rfl, hown3, hg3, hs3⟩
    have G3 := hid_intro (grown_trans G1.out hg3)
    have HS2 := hid_intro G1.out.size
    clear hg3 G1
    go_wp2_with (at_builtin; refine wpList_append_byt rfl _ _ rfl w2.heap.size _ n zs rfl (hown3.alloc _) _ 4 4 (low4 s) rfl (by rw [← low4_int s hl]; exact Byt.lit w3 5 _ _ 4 rfl rfl) (by omega) (by simp; omega) ?_)
    intro v w4 hown4 hg4
    have hsz : w.heap.size ≤ w2.heap.size := HS2.out
    have G4 := hid_intro (grown_own G3.out hown3 hsz hg4)
    rw [← List.map_append] at hown4
    obtain ⟨bo, c4, rfl, hb4⟩ := owns_any hown4
    have B4 := hid_intro hb4
    clear hown3 hown4 hb4 hg4 G3
    go_wp2_with fail
    refine (sum_any bo (n + 4) c4 (zs ++ low4 s) w4 B4.out (bt.app (bt_low4 s)) (HT.out.keptN G4.out) (by omega)).mono ?_
    rintro e w5 ⟨rfl, rfl⟩
    rw [hbh]
    go_wp2
    go_ret
    exact ⟨rfl, G4.out⟩
  · have hn1 : (65536 : Int) < (n : Int) := by omega
    go_wp2
    go_ret
    exact ⟨rfl, G1.out⟩
end Go.Proofs.YtnghkgnpbcadaaaDoor
