import Derived.Test.YtnghkgnpbcadaaaDoorCrc4
namespace Go.Proofs.YtnghkgnpbcadaaaDoor
open Go.RowKit

theorem grown_own0 {w wr w1 : World} {base n : Nat} {v : Value} {xs : List Value} (hg : w.grownBy wr none) (hown : wr.ownsRow base 5 1 v n xs) (hb : w.heap.size ≤ base) (h : wr.grownBy w1 v.ownBlock) : w.grownBy w1 none := by
  refine ⟨h.os.trans hg.os, h.tape.trans hg.tape, h.output.trans hg.output, Nat.le_trans hg.size h.size, fun k hk _ => ?_⟩
  rw [h.block k (Nat.lt_of_lt_of_le hk hg.size) (by intro e; have := (hown.lt k e.symm).1; omega)]
  exact hg.block k hk (by simp)

set_option maxHeartbeats 2000000 in
theorem joins_calls (ao bo co : Option Addr) (n m k ca cb cc : Nat) (za zb zc : List Int) (x : Nat) (w : World) (ha : Byt w ao n ca za) (hb : Byt w bo m cb zb) (hc : Byt w co k cc zc)
    (ba : Bt za) (bb : Bt zb) (bc : Bt zc) (hx : x < 4294967296) (ht : Tab w) :
    Calls Tryd.prog 7 #[.slice ao n ca, .slice bo m cb, .slice co k cc, .int .u32 x] w fun e w' => e = .returned (.bool true) ∧ w.grownBy w' none := by
  have HA := hid_intro ha
  have HB := hid_intro hb
  have HC := hid_intro hc
  have HT := hid_intro ht
  have bab : Bt (za ++ zb) := ba.app bb
  have babc : Bt (za ++ zb ++ zc) := bab.app bc
  have e1 : upd (upd 0 za) zb = upd 0 (za ++ zb) := upd_join (bts ba)
  have e2 : upd (upd 0 (za ++ zb)) zc = upd 0 (za ++ zb ++ zc) := upd_join (bts bab)
  have e3 : upd (upd x za) zb = upd x (za ++ zb) := upd_join (bts ba)
  have e4 : upd x [] = x := upd_nil hx
  obtain ⟨ab, hab⟩ : ∃ ab, ab = za ++ zb := ⟨_, rfl⟩
  obtain ⟨abc, habc⟩ : ∃ abc, abc = ab ++ zc := ⟨_, rfl⟩
  rw [← hab] at e1 e2 e3 bab babc
  rw [← habc] at e2 babc
  have HAB := hid_intro hab
  have HABC := hid_intro habc
  have E1 := hid_intro e1
  have E2 := hid_intro e2
  have E3 := hid_intro e3
  have E4 := hid_intro e4
  clear ha hb hc ht e1 e2 e3 e4 hab habc
  go_enter Tryd.func7, Tryd.ntmps7
  go_wp2_with fail
  refine (first2_any w HT.out).mono ?_
  rintro e w1 ⟨rfl, hg1⟩
  have G1 := hid_intro hg1
  have S1 := hid_intro hg1.size
  clear hg1
  by_cases hn : n ≤ 65536
  case neg =>
    have hn1 : (65536 : Int) < (n : Int) := by omega
    go_wp2
    go_ret
    exact ⟨rfl, G1.out⟩
  by_cases hm : m ≤ 65536
  case neg =>
    have hn1 : ¬ (65536 : Int) < (n : Int) := by omega
    have hm1 : (65536 : Int) < (m : Int) := by omega
    go_wp2
    go_ret
    exact ⟨rfl, G1.out⟩
  by_cases hk : k ≤ 65536
  case neg =>
    have hn1 : ¬ (65536 : Int) < (n : Int) := by omega
    have hm1 : ¬ (65536 : Int) < (m : Int) := by omega
    have hk1 : (65536 : Int) < (k : Int) := by omega
    go_wp2
    go_ret
    exact ⟨rfl, G1.out⟩
  have hn1 : ¬ (65536 : Int) < (n : Int) := by omega
  have hm1 : ¬ (65536 : Int) < (m : Int) := by omega
  have hk1 : ¬ (65536 : Int) < (k : Int) := by omega
  go_wp2_with fail
  refine (refBytes_any ao n ca za w1 (HA.out.keptN G1.out) (by omega)).mono ?_
  rintro e w2 ⟨rfl, hown2, hg2, hs2⟩
  have G2 := hid_intro (grown_trans G1.out hg2)
  clear hg2 G1
  go_wp2_with (at_builtin; refine wpList_append_byt rfl _ _ rfl w1.heap.size _ n za rfl hown2 _ m cb zb rfl (HB.out.keptN G2.out) (by omega) (by omega) ?_)
  intro v w3 hown3 hg3
  have G3 := hid_intro (grown_own0 G2.out hown2 S1.out hg3)
  try rw [← List.map_append] at hown3
  rw [← HAB.out] at hown3
  obtain ⟨po, c3, rfl, hb3⟩ := owns_any hown3
  have B3 := hid_intro hb3
  clear hown2 hown3 hg3 hb3 G2 hs2
  go_wp2_with fail
  refine (refBytes_any po (n + m) c3 ab w3 B3.out (by omega)).mono ?_
  rintro e w4 ⟨rfl, hown4, hg4, hs4⟩
  have G4 := hid_intro (grown_trans G3.out hg4)
  have B4 := hid_intro (B3.out.keptN hg4)
  have S3 := hid_intro G3.out.size
  have B3lt := hid_intro (fun h0 => B3.out.at (n := n + m) h0)
  clear hg4 G3 B3
  go_wp2_with (at_builtin; refine wpList_append_byt rfl _ _ rfl w3.heap.size _ (n + m) ab rfl hown4 _ k cc zc rfl (HC.out.keptN G4.out) (by omega) (by omega) ?_)
  intro v w5 hown5 hg5
  have G5 := hid_intro (grown_own0 G4.out hown4 S3.out hg5)
  have B5 : Hid (Byt w5 po (n + m) c3 ab) := B4.out.kept hg5 (by
    intro ad had h0 e
    have hlt := (hown4.lt ad.block e.symm).1
    obtain ⟨b', off', e', hb', _⟩ := B3lt.out h0
    rw [had] at e'
    obtain rfl := Option.some.inj e'
    simp at hlt
    omega)
  try rw [← List.map_append] at hown5
  rw [← HABC.out] at hown5
  obtain ⟨qo, c5, rfl, hb5⟩ := owns_any hown5
  have C5 := hid_intro hb5
  have A5 := hid_intro (HA.out.keptN G5.out)
  have D5 := hid_intro (HB.out.keptN G5.out)
  have F5 := hid_intro (HC.out.keptN G5.out)
  have T5 := hid_intro (HT.out.keptN G5.out)
  clear hown4 hown5 hg5 hb5 G4 B4 B3lt hs4
  go_wp2_with fail
  refine (sum_any ao n ca za w5 A5.out ba T5.out (by omega)).mono ?_
  rintro e w6 ⟨rfl, rfl⟩
  have hl1 := upd_lt 0 za
  go_wp2_with fail
  refine (update_any (upd 0 za) bo m cb zb w6 hl1 D5.out bb T5.out (by omega)).mono ?_
  rintro e w7 ⟨rfl, rfl⟩
  rw [E1.out]
  have hl2 := upd_lt 0 ab
  go_wp2_with fail
  refine (update_any (upd 0 ab) co k cc zc w7 hl2 F5.out bc T5.out (by omega)).mono ?_
  rintro e w8 ⟨rfl, rfl⟩
  rw [E2.out]
  go_wp2_with fail
  refine (update_any x po (n + m) c3 ab w8 hx B5.out bab T5.out (by omega)).mono ?_
  rintro e w9 ⟨rfl, rfl⟩
  go_wp2_with fail
  refine (update_any x ao n ca za w9 hx A5.out ba T5.out (by omega)).mono ?_
  rintro e w10 ⟨rfl, rfl⟩
  have hl3 := upd_lt x za
  go_wp2_with fail
  refine (update_any (upd x za) bo m cb zb w10 hl3 D5.out bb T5.out (by omega)).mono ?_
  rintro e w11 ⟨rfl, rfl⟩
  rw [E3.out]
  go_wp2_with fail
  refine (sum_any po (n + m) c3 ab w11 B5.out bab T5.out (by omega)).mono ?_
  rintro e w12 ⟨rfl, rfl⟩
  go_wp2_with fail
  refine (sum_any qo (n + m + k) c5 abc w12 C5.out babc T5.out (by omega)).mono ?_
  rintro e w13 ⟨rfl, rfl⟩
  go_wp2_with fail
  refine (update_any 0 co k cc zc w13 (by decide) F5.out bc T5.out (by omega)).mono ?_
  rintro e w14 ⟨rfl, rfl⟩
  go_wp2_with fail
  refine (sum_any co k cc zc w14 F5.out bc T5.out (by omega)).mono ?_
  rintro e w15 ⟨rfl, rfl⟩
  go_wp2_with fail
  refine (update_any x none 0 0 [] w15 hx (Byt.empty _) Bt.nil T5.out (by omega)).mono ?_
  rintro e w16 ⟨rfl, rfl⟩
  rw [E4.out]
  go_wp2
  go_ret
  exact ⟨rfl, G5.out⟩
end Go.Proofs.YtnghkgnpbcadaaaDoor
