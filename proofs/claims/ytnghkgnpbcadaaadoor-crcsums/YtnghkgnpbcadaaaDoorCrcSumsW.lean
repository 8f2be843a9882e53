import Derived.Test.YtnghkgnpbcadaaaDoorCrc6
namespace Go.Proofs.YtnghkgnpbcadaaaDoor
open Go.RowKit

set_option maxHeartbeats 2000000 in
theorem sums_calls (ao : Option Addr) (n cap : Nat) (zs : List Int) (at1 : Int) (x : Nat) (w : World) (hb : Byt w ao n cap zs) (bt : Bt zs) (ht : Tab w) (hx : x < 256) :
    Calls Tryd.prog 3 #[.slice ao n cap, .int .i64 at1, .int .u8 x] w fun e w' => e = .returned (.bool true) ∧ w.grownBy w' none := by
  have HB := hid_intro hb
  have HT := hid_intro ht
  have HL := hid_intro hb.len
  clear hb ht
  go_enter Tryd.func3, Tryd.ntmps3
  go_wp2_with fail
  refine (first2_any w HT.out).mono ?_
  rintro e w1 ⟨rfl, hg1⟩
  have G1 := hid_intro hg1
  clear hg1
  by_cases hn : n ≤ 65536
  case neg =>
    have hn1 : (65536 : Int) < (n : Int) := by omega
    go_wp2
    go_ret
    exact ⟨rfl, G1.out⟩
  have hn1 : ¬ (65536 : Int) < (n : Int) := by omega
  go_wp2_with fail
  refine (room_any ao n cap zs w1 (HB.out.keptN G1.out) (by omega)).mono ?_
  rintro e w2 ⟨g, c, rfl, hr2, hg, hnc, hg2⟩
  have R2 := hid_intro hr2
  have G2 := hid_intro (grown_trans G1.out hg2)
  have SG := hid_intro (Nat.le_trans G1.out.size hg)
  have hcn : (n : Int) ≤ (c : Int) := by omega
  have HP : Hid (Byt w2 (some ⟨g, 0, none⟩) n c zs) := by
    have := hr2.byt n c (by rw [List.length_append, HL.out]; omega)
    rwa [List.take_left' HL.out] at this
  clear hr2 hg hg2 G1
  go_wp2_with fail
  refine (sum_any _ n c zs w2 HP.out bt (HT.out.keptN G2.out) (by omega)).mono ?_
  rintro e w3 ⟨rfl, rfl⟩
  go_wp2_with fail
  refine (refSum_any ao n cap zs w3 (HB.out.keptN G2.out) bt (by omega)).mono ?_
  rintro e w4 ⟨rfl, rfl⟩
  go_wp2_with fail
  refine (still_any ao g c n cap zs w4 R2.out (HB.out.keptN G2.out) hnc (by omega)).mono ?_
  rintro e w5 ⟨rfl, rfl⟩
  by_cases h0 : n = 0
  · have h00 : (n : Int) = 0 := by omega
    go_wp2
    go_ret
    exact ⟨rfl, G2.out⟩
  have h00 : (n : Int) ≠ 0 := by omega
  obtain ⟨k, hk, hk2, hk3, hk4⟩ := turn_at at1 n (by omega) (by omega)
  obtain ⟨z, y, hz, hy, hkc, hxx, ys, hyl, hyb, hyp, hyg, hyt⟩ := turned_facts R2.out bt HL.out hk hx G2.out SG.out HT.out
  have hkf := R2.out.free k
  have HYP := hid_intro hyp
  have HYG := hid_intro hyg
  have HYT := hid_intro hyt
  clear hyp hyg hyt R2 G2 HP
  go_wp2_with fail
  refine (refBytes_any _ n c ys _ HYP.out (by omega)).mono ?_
  rintro e w6 ⟨rfl, hown6, hg6, hs6⟩
  have B6 : Hid (Byt w6 (some ⟨w5.heap.size, 0, none⟩) n n ys) := by have h6 := Byt.of_owns hown6; rw [World.size_setCell] at h6; exact h6
  have P6 := hid_intro (HYP.out.keptN hg6)
  have G6 := hid_intro (grown_trans HYG.out hg6)
  have T6 := hid_intro (HYT.out.keptN hg6)
  clear hown6 hg6 hs6 HYP HYG HYT
  go_wp2_with fail
  refine (sum_any _ n c ys w6 P6.out hyb T6.out (by omega)).mono ?_
  rintro e w7 ⟨rfl, rfl⟩
  go_wp2_with fail
  refine (refSum_any _ n n ys w7 B6.out hyb (by omega)).mono ?_
  rintro e w8 ⟨rfl, rfl⟩
  go_wp2
  go_ret
  exact ⟨rfl, G6.out⟩
end Go.Proofs.YtnghkgnpbcadaaaDoor
