import Derived.Test.YtnghkgnpbcadaabDoorCrc9
import Derived.Test.YtnghkgnpbcadaabDoorCrcO
namespace Go.Proofs.YtnghkgnpbcadaabDoor
open Go.RowKit

set_option maxHeartbeats 4000000 in
theorem two_calls (ao : Option Addr) (n cap : Nat) (zs : List Int) (at1 at2 : Int) (w : World) (hb : Byt w ao n cap zs) (bt : Bt zs) (ht : Tab w) :
    Calls Tryd.prog 5 #[.slice ao n cap, .int .i64 at1, .int .i64 at2] w fun e w' => e = .returned (.bool true) ∧ w.grownBy w' none := by
  have HB := hid_intro hb
  have HL := hid_intro hb.len
  have HT := hid_intro ht
  clear hb ht
  have b1 : Bt (padL zs 4092) := padL_bt bt 4092
  have l1 : (padL zs 4092).length = 4092 := padL_len zs 4092
  go_enter Tryd.func5, Tryd.ntmps5
  go_wp2_with fail
  refine (first2_any w HT.out).mono ?_
  rintro e w1 ⟨rfl, hg1⟩
  have G1 := hid_intro hg1
  clear hg1
  by_cases hn : n ≤ 65536
  case neg =>
    have hn1 : (65536 : Int) < (n : Int) := by omega
    go_wp2
    go_ret
    exact ⟨rfl, G1.out⟩
  have hn1 : ¬ (65536 : Int) < (n : Int) := by omega
  go_wp2_with fail
  refine (padded_any ao n cap 4092 zs w1 (HB.out.keptN G1.out) (by omega)).mono ?_
  rintro e w2 ⟨rfl, hr2, hg2⟩
  have R2 := hid_intro hr2
  have G2 := hid_intro (grown_trans G1.out hg2)
  clear hr2 hg2 G1
  generalize padL zs 4092 = ys at *
  go_wp2_with fail
  refine (seal_ok _ 4092 ys w2 (R2.out.all 4092 4092 l1.symm) b1 (HT.out.keptN G2.out)).mono ?_
  rintro e w3 ⟨rfl, hr3, hg3⟩
  have R3 := hid_intro hr3
  have G3 := hid_intro (grown_trans G2.out hg3)
  have l3 : (ys ++ low4 (upd 0 ys)).length = 4096 := by rw [List.length_append, l1]; rfl
  have t3 : (ys ++ low4 (upd 0 ys)).take 4092 = ys := List.take_left' l1
  have d3 : (ys ++ low4 (upd 0 ys)).drop 4092 = low4 (upd 0 ys) := List.drop_left' l1
  have b3 : Bt (ys ++ low4 (upd 0 ys)) := b1.app (bt_low4 _)
  have f3 : (ys ++ low4 (upd 0 ys)).drop 4092 = low4 (upd 0 ((ys ++ low4 (upd 0 ys)).take 4092)) := by rw [d3, t3]
  clear hr3 hg3 G2 R2 t3 d3
  generalize ys ++ low4 (upd 0 ys) = ps at *
  have F3 := hid_intro f3
  clear f3
  go_wp2_with fail
  refine (num2_any _ _).mono ?_
  rintro e w4 ⟨rfl, rfl⟩
  obtain ⟨a, ha, ha1, ha2, ha3⟩ := place at1 32768 (by decide) (by decide)
  have ha1' : Int.tmod (Int.tmod at1 32768 + 32768) 32768 = (a : Int) := ha1
  have ha2' : 0 ≤ Int.tmod at1 32768 + 32768 := ha2
  have ha3' : Int.tmod at1 32768 + 32768 ≤ 1200000 := ha3
  clear ha1 ha2 ha3
  obtain ⟨b, hb, hb1, hb2, hb3⟩ := place at2 32768 (by decide) (by decide)
  have hb1' : Int.tmod (Int.tmod at2 32768 + 32768) 32768 = (b : Int) := hb1
  have hb2' : 0 ≤ Int.tmod at2 32768 + 32768 := hb2
  have hb3' : Int.tmod at2 32768 + 32768 ≤ 1200000 := hb3
  clear hb1 hb2 hb3
  go_wp2_with fail
  refine (turned_any _ 4096 4096 a 1 ps w4 (R3.out.all 4096 4096 l3.symm) b3 (by omega) (by omega) (by decide)).mono ?_
  rintro e w5 ⟨rfl, ⟨qs, hr5, hT5⟩, hg5⟩
  have R5 := hid_intro hr5
  have l5 : qs.length = 4096 := hT5.len.trans l3
  have b5 : Bt qs := hT5.bts
  have T5 := hid_intro hT5
  have G5 := hid_intro (grown_trans G3.out hg5)
  clear hr5 hT5 hg5 G3 R3
  go_wp2_with fail
  refine (turned_any _ 4096 4096 b 1 qs w5 (R5.out.all 4096 4096 l5.symm) b5 (by omega) (by omega) (by decide)).mono ?_
  rintro e w6 ⟨rfl, ⟨xs, hr6, hT6⟩, hg6⟩
  have R6 := hid_intro hr6
  have l6 : xs.length = 4096 := hT6.len.trans l5
  have b6 : Bt xs := hT6.bts
  obtain ⟨M, q, hq, hT, hq0⟩ := T5.out.two hT6 (by omega) (by omega) (by omega)
  have hfit := page_turned l3 (bts b3) F3.out hT hq
  have G6 := hid_intro (grown_trans G5.out hg6)
  clear hr6 hT6 hg6 G5 R5 F3 T5 hT hq
  by_cases hab : a = b
  · have hx := hfit.2 (hq0.2 hab)
    subst hab
    go_wp2_with fail
    refine (open_yes _ 4096 xs w6 (R6.out.all 4096 4096 l6.symm) b6 (HT.out.keptN G6.out) (by omega) hx).mono ?_
    rintro e w7 ⟨g7, rfl, _, _, hg7⟩
    have G7 := hid_intro (grown_trans G6.out hg7)
    clear hg7 G6 R6 hfit hq0 hx
    go_wp2_with fail
    refine (num2_any _ _).mono ?_
    rintro e w8 ⟨rfl, rfl⟩
    by_cases h0 : n = 0
    · have h00 : (n : Int) = 0 := by omega
      go_wp2
      go_ret
      exact ⟨rfl, G7.out⟩
    have h00 : ¬ 8 * (n : Int) = 0 := by omega
    obtain ⟨c, hc, hc1, hc2, hc3⟩ := place at1 (8 * n) (by omega) (by omega)
    have hc1' : Int.tmod (Int.tmod at1 (8 * (n : Int)) + 8 * (n : Int)) (8 * (n : Int)) = (c : Int) := by rw [← hc1]; simp
    have hc2' : 0 ≤ Int.tmod at1 (8 * (n : Int)) + 8 * (n : Int) := by have := hc2; simp at this; omega
    have hc3' : Int.tmod at1 (8 * (n : Int)) + 8 * (n : Int) ≤ 1200000 := by have := hc3; simp at this; omega
    clear hc1 hc2 hc3
    obtain ⟨d, hd, hd1, hd2, hd3⟩ := place at2 (8 * n) (by omega) (by omega)
    have hd1' : Int.tmod (Int.tmod at2 (8 * (n : Int)) + 8 * (n : Int)) (8 * (n : Int)) = (d : Int) := by rw [← hd1]; simp
    have hd2' : 0 ≤ Int.tmod at2 (8 * (n : Int)) + 8 * (n : Int) := by have := hd2; simp at this; omega
    have hd3' : Int.tmod at2 (8 * (n : Int)) + 8 * (n : Int) ≤ 1200000 := by have := hd3; simp at this; omega
    clear hd1 hd2 hd3
    go_wp2_with fail
    refine (turned_any ao n cap c 1 zs w8 (HB.out.keptN G7.out) bt (by omega) hc (by decide)).mono ?_
    rintro e w9 ⟨rfl, ⟨cs, hr9, hT9⟩, hg9⟩
    have R9 := hid_intro hr9
    have l9 : cs.length = n := hT9.len.trans HL.out
    have b9 : Bt cs := hT9.bts
    have T9 := hid_intro hT9
    have G9 := hid_intro (grown_trans G7.out hg9)
    clear hr9 hT9 hg9 G7
    go_wp2_with fail
    refine (turned_any _ n n d 1 cs w9 (R9.out.all n n l9.symm) b9 (by omega) hd (by decide)).mono ?_
    rintro e w10 ⟨rfl, ⟨ds, hr10, hT10⟩, hg10⟩
    have R10 := hid_intro hr10
    have l10 : ds.length = n := hT10.len.trans l9
    have b10 : Bt ds := hT10.bts
    obtain ⟨M2, q2, hq2, hTT, hq20⟩ := T9.out.two hT10 hc hd (by omega)
    have hsum := sum_turned (bts bt) hTT hq2
    have G10 := hid_intro (grown_trans G9.out hg10)
    clear hr10 hT10 hg10 G9 R9 T9 hTT hq2
    by_cases hcd : c = d
    · have hs := hsum.2 (hq20.2 hcd)
      have HS := hid_intro hs
      subst hcd
      clear hs hsum hq20
      go_wp2_with fail
      refine (sum_any ao n cap zs w10 (HB.out.keptN G10.out) bt (HT.out.keptN G10.out) (by omega)).mono ?_
      rintro e w11 ⟨rfl, rfl⟩
      go_wp2_with fail
      refine (sum_any _ n n ds w11 (R10.out.all n n l10.symm) b10 (HT.out.keptN G10.out) (by omega)).mono ?_
      rintro e w12 ⟨rfl, rfl⟩
      rw [HS.out]
      go_wp2
      go_ret
      exact ⟨rfl, G10.out⟩
    · have hs1 : ((upd 0 zs : Nat) : Int) ≠ ((upd 0 ds : Nat) : Int) := fun e => hcd (hq20.1 (hsum.1 (by omega)))
      have hs2 : (((upd 0 zs : Nat) : Int) != ((upd 0 ds : Nat) : Int)) = true := by rw [bne_iff_ne]; exact hs1
      have hcd2 : ((c : Int) != (d : Int)) = true := by rw [bne_iff_ne]; omega
      have hcd3 : ¬ (c : Int) = (d : Int) := by omega
      clear hsum hq20
      go_wp2_with fail
      refine (sum_any ao n cap zs w10 (HB.out.keptN G10.out) bt (HT.out.keptN G10.out) (by omega)).mono ?_
      rintro e w11 ⟨rfl, rfl⟩
      go_wp2_with fail
      refine (sum_any _ n n ds w11 (R10.out.all n n l10.symm) b10 (HT.out.keptN G10.out) (by omega)).mono ?_
      rintro e w12 ⟨rfl, rfl⟩
      generalize upd 0 zs = s1 at *
      generalize upd 0 ds = s2 at *
      go_wp2
      go_ret
      exact ⟨rfl, G10.out⟩
  · have hx := fun h => hab (hq0.1 (hfit.1 h))
    have hab2 : ((a : Int) != (b : Int)) = true := by rw [bne_iff_ne]; omega
    have hab3 : ¬ (a : Int) = (b : Int) := by omega
    go_wp2_with fail
    refine (open_no _ 4096 xs w6 (R6.out.all 4096 4096 l6.symm) b6 (HT.out.keptN G6.out) (by omega) hx).mono ?_
    rintro e w7 ⟨rfl, hg7⟩
    have G7 := hid_intro (grown_trans G6.out hg7)
    clear hg7 G6 R6 hfit hq0 hx
    go_wp2_with fail
    refine (num2_any _ _).mono ?_
    rintro e w8 ⟨rfl, rfl⟩
    by_cases h0 : n = 0
    · have h00 : (n : Int) = 0 := by omega
      go_wp2
      go_ret
      exact ⟨rfl, G7.out⟩
    have h00 : ¬ 8 * (n : Int) = 0 := by omega
    obtain ⟨c, hc, hc1, hc2, hc3⟩ := place at1 (8 * n) (by omega) (by omega)
    have hc1' : Int.tmod (Int.tmod at1 (8 * (n : Int)) + 8 * (n : Int)) (8 * (n : Int)) = (c : Int) := by rw [← hc1]; simp
    have hc2' : 0 ≤ Int.tmod at1 (8 * (n : Int)) + 8 * (n : Int) := by have := hc2; simp at this; omega
    have hc3' : Int.tmod at1 (8 * (n : Int)) + 8 * (n : Int) ≤ 1200000 := by have := hc3; simp at this; omega
    clear hc1 hc2 hc3
    obtain ⟨d, hd, hd1, hd2, hd3⟩ := place at2 (8 * n) (by omega) (by omega)
    have hd1' : Int.tmod (Int.tmod at2 (8 * (n : Int)) + 8 * (n : Int)) (8 * (n : Int)) = (d : Int) := by rw [← hd1]; simp
    have hd2' : 0 ≤ Int.tmod at2 (8 * (n : Int)) + 8 * (n : Int) := by have := hd2; simp at this; omega
    have hd3' : Int.tmod at2 (8 * (n : Int)) + 8 * (n : Int) ≤ 1200000 := by have := hd3; simp at this; omega
    clear hd1 hd2 hd3
    go_wp2_with fail
    refine (turned_any ao n cap c 1 zs w8 (HB.out.keptN G7.out) bt (by omega) hc (by decide)).mono ?_
    rintro e w9 ⟨rfl, ⟨cs, hr9, hT9⟩, hg9⟩
    have R9 := hid_intro hr9
    have l9 : cs.length = n := hT9.len.trans HL.out
    have b9 : Bt cs := hT9.bts
    have T9 := hid_intro hT9
    have G9 := hid_intro (grown_trans G7.out hg9)
    clear hr9 hT9 hg9 G7
    go_wp2_with fail
    refine (turned_any _ n n d 1 cs w9 (R9.out.all n n l9.symm) b9 (by omega) hd (by decide)).mono ?_
    rintro e w10 ⟨rfl, ⟨ds, hr10, hT10⟩, hg10⟩
    have R10 := hid_intro hr10
    have l10 : ds.length = n := hT10.len.trans l9
    have b10 : Bt ds := hT10.bts
    obtain ⟨M2, q2, hq2, hTT, hq20⟩ := T9.out.two hT10 hc hd (by omega)
    have hsum := sum_turned (bts bt) hTT hq2
    have G10 := hid_intro (grown_trans G9.out hg10)
    clear hr10 hT10 hg10 G9 R9 T9 hTT hq2
    by_cases hcd : c = d
    · have hs := hsum.2 (hq20.2 hcd)
      have HS := hid_intro hs
      subst hcd
      clear hs hsum hq20
      go_wp2_with fail
      refine (sum_any ao n cap zs w10 (HB.out.keptN G10.out) bt (HT.out.keptN G10.out) (by omega)).mono ?_
      rintro e w11 ⟨rfl, rfl⟩
      go_wp2_with fail
      refine (sum_any _ n n ds w11 (R10.out.all n n l10.symm) b10 (HT.out.keptN G10.out) (by omega)).mono ?_
      rintro e w12 ⟨rfl, rfl⟩
      rw [HS.out]
      go_wp2
      go_ret
      exact ⟨rfl, G10.out⟩
    · have hs1 : ((upd 0 zs : Nat) : Int) ≠ ((upd 0 ds : Nat) : Int) := fun e => hcd (hq20.1 (hsum.1 (by omega)))
      have hs2 : (((upd 0 zs : Nat) : Int) != ((upd 0 ds : Nat) : Int)) = true := by rw [bne_iff_ne]; exact hs1
      have hcd2 : ((c : Int) != (d : Int)) = true := by rw [bne_iff_ne]; omega
      have hcd3 : ¬ (c : Int) = (d : Int) := by omega
      clear hsum hq20
      go_wp2_with fail
      refine (sum_any ao n cap zs w10 (HB.out.keptN G10.out) bt (HT.out.keptN G10.out) (by omega)).mono ?_
      rintro e w11 ⟨rfl, rfl⟩
      go_wp2_with fail
      refine (sum_any _ n n ds w11 (R10.out.all n n l10.symm) b10 (HT.out.keptN G10.out) (by omega)).mono ?_
      rintro e w12 ⟨rfl, rfl⟩
      generalize upd 0 zs = s1 at *
      generalize upd 0 ds = s2 at *
      go_wp2
      go_ret
      exact ⟨rfl, G10.out⟩
end Go.Proofs.YtnghkgnpbcadaabDoor
