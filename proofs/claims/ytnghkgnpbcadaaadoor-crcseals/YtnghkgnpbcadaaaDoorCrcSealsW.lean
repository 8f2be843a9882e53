import Derived.Test.YtnghkgnpbcadaaaDoorCrc7
namespace Go.Proofs.YtnghkgnpbcadaaaDoor
open Go.RowKit

set_option maxHeartbeats 2000000 in
theorem seals_calls (ao : Option Addr) (n cap : Nat) (zs : List Int) (at1 : Int) (x : Nat) (w : World) (hb : Byt w ao n cap zs) (bt : Bt zs) (ht : Tab w) (hx : x < 256) :
    Calls Tryd.prog 5 #[.slice ao n cap, .int .i64 at1, .int .u8 x] w fun e w' => e = .returned (.bool true) ∧ w.grownBy w' none := by
  have HB := hid_intro hb
  have HT := hid_intro ht
  have HL := hid_intro hb.len
  clear hb ht
  go_enter Tryd.func5, Tryd.ntmps5
  go_wp2_with fail
  refine (first2_any w HT.out).mono ?_
  rintro e w1 ⟨rfl, hg1⟩
  have G1 := hid_intro hg1
  clear hg1
  by_cases hn : n ≤ 65536
  case neg =>
    have hn1 : (65536 : Int) < (n : Int) := by omega
    go_wp2
    go_ret
    exact ⟨rfl, G1.out⟩
  have hn1 : ¬ (65536 : Int) < (n : Int) := by omega
  go_wp2_with fail
  refine (room_any ao n cap zs w1 (HB.out.keptN G1.out) (by omega)).mono ?_
  rintro e w2 ⟨g, c, rfl, hr2, hg, hnc, hg2⟩
  have R2 := hid_intro hr2
  have G2 := hid_intro (grown_trans G1.out hg2)
  have SG := hid_intro (Nat.le_trans G1.out.size hg)
  have hcn : (n : Int) ≤ (c : Int) := by omega
  have HP : Hid (Byt w2 (some ⟨g, 0, none⟩) n c zs) := by
    have := hr2.byt n c (by rw [List.length_append, HL.out]; omega)
    rwa [List.take_left' HL.out] at this
  clear hr2 hg hg2 G1
  go_wp2_with fail
  refine (seal_any _ n c zs w2 HP.out bt (HT.out.keptN G2.out)).mono ?_
  rintro e w3 ⟨po, m, c1, rfl, hb3, hg3⟩
  have G3 := hid_intro (grown_trans G2.out hg3)
  have R3 := hid_intro (R2.out.keptN hg3)
  have HA := hid_intro hb3
  clear hb3 hg3 G2 R2 HP
  go_wp2_with fail
  refine (refSeal_any ao n cap zs w3 (HB.out.keptN G3.out) bt).mono ?_
  rintro e w4 ⟨qo, m2, c2, rfl, hb4, hm, hmc, hg4⟩
  have G4 := hid_intro (grown_trans G3.out hg4)
  have R4 := hid_intro (R3.out.keptN hg4)
  have HA4 := hid_intro (HA.out.keptN hg4)
  have HQ := hid_intro hb4
  clear hb4 hg4 G3 R3 HA hm hmc
  go_wp2_with fail
  refine (same_yes po qo m m2 c1 c2 _ _ w4 HA4.out HQ.out rfl).mono ?_
  rintro e w5 ⟨rfl, rfl⟩
  clear HA4 HQ
  go_wp2_with fail
  refine (num2_any _ _).mono ?_
  rintro e w6 ⟨rfl, rfl⟩
  go_wp2_with fail
  refine (still_any ao g c n cap zs w6 R4.out (HB.out.keptN G4.out) hnc (by omega)).mono ?_
  rintro e w7 ⟨rfl, rfl⟩
  by_cases h0 : n = 0
  · have h00 : (n : Int) = 0 := by omega
    go_wp2
    go_ret
    exact ⟨rfl, G4.out⟩
  have h00 : (n : Int) ≠ 0 := by omega
  obtain ⟨k, hk, hk2, hk3, hk4⟩ := turn_at at1 n (by omega) (by omega)
  obtain ⟨z, y, hz, hy, hkc, hxx, ys, hyl, hyb, hyp, hyg, hyt⟩ := turned_facts R4.out bt HL.out hk hx G4.out SG.out HT.out
  have hkf := R4.out.free k
  have HYP := hid_intro hyp
  have HYG := hid_intro hyg
  have HYT := hid_intro hyt
  clear hyp hyg hyt R4 G4
  go_wp2_with fail
  refine (refBytes_any _ n c ys _ HYP.out (by omega)).mono ?_
  rintro e w8 ⟨rfl, hown8, hg8, hs8⟩
  have B8 : Hid (Byt w8 (some ⟨w7.heap.size, 0, none⟩) n n ys) := by have h8 := Byt.of_owns hown8; rw [World.size_setCell] at h8; exact h8
  have P8 := hid_intro (HYP.out.keptN hg8)
  have G8 := hid_intro (grown_trans HYG.out hg8)
  have T8 := hid_intro (HYT.out.keptN hg8)
  clear hown8 hg8 hs8 HYP HYG HYT
  go_wp2_with fail
  refine (seal_any _ n c ys w8 P8.out hyb T8.out).mono ?_
  rintro e w9 ⟨po2, m3, c3, rfl, hb9, hg9⟩
  have G9 := hid_intro (grown_trans G8.out hg9)
  have B9 := hid_intro (B8.out.keptN hg9)
  have HA9 := hid_intro hb9
  clear hb9 hg9 G8 B8 P8 T8
  go_wp2_with fail
  refine (refSeal_any _ n n ys w9 B9.out hyb).mono ?_
  rintro e w10 ⟨qo2, m4, c4, rfl, hb10, hm, hmc, hg10⟩
  have G10 := hid_intro (grown_trans G9.out hg10)
  have HA10 := hid_intro (HA9.out.keptN hg10)
  have HQ10 := hid_intro hb10
  clear hb10 hg10 G9 HA9 B9 hm hmc
  go_wp2_with fail
  refine (same_yes po2 qo2 m3 m4 c3 c4 _ _ w10 HA10.out HQ10.out rfl).mono ?_
  rintro e w11 ⟨rfl, rfl⟩
  clear HA10 HQ10
  go_wp2_with fail
  refine (num2_any _ _).mono ?_
  rintro e w12 ⟨rfl, rfl⟩
  go_wp2
  go_ret
  exact ⟨rfl, G10.out⟩

end Go.Proofs.YtnghkgnpbcadaaaDoor
