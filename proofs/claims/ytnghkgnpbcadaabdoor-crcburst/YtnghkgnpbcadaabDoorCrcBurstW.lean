import Derived.Test.YtnghkgnpbcadaabDoorCrc9
namespace Go.Proofs.YtnghkgnpbcadaabDoor
open Go.RowKit

set_option maxHeartbeats 4000000 in
theorem burst_calls (ao : Option Addr) (n cap : Nat) (zs : List Int) (at1 : Int) (p : Nat) (w : World) (hb : Byt w ao n cap zs) (bt : Bt zs) (hp : p < 4294967296) (ht : Tab w) :
    Calls Tryd.prog 4 #[.slice ao n cap, .int .i64 at1, .int .u32 p] w fun e w' => e = .returned (.bool true) ∧ w.grownBy w' none := by
  have HB := hid_intro hb
  have HL := hid_intro hb.len
  have HT := hid_intro ht
  clear hb ht
  have b1 : Bt (padL zs 4092) := padL_bt bt 4092
  have l1 : (padL zs 4092).length = 4092 := padL_len zs 4092
  go_enter Tryd.func4, Tryd.ntmps4
  go_wp2_with fail
  refine (first2_any w HT.out).mono ?_
  rintro e w1 ⟨rfl, hg1⟩
  have G1 := hid_intro hg1
  clear hg1
  by_cases hn : n ≤ 65536
  case neg =>
    have hn1 : (65536 : Int) < (n : Int) := by omega
    go_wp2
    go_ret
    exact ⟨rfl, G1.out⟩
  have hn1 : ¬ (65536 : Int) < (n : Int) := by omega
  go_wp2_with fail
  refine (padded_any ao n cap 4092 zs w1 (HB.out.keptN G1.out) (by omega)).mono ?_
  rintro e w2 ⟨rfl, hr2, hg2⟩
  have R2 := hid_intro hr2
  have G2 := hid_intro (grown_trans G1.out hg2)
  clear hr2 hg2 G1
  generalize padL zs 4092 = ys at *
  go_wp2_with fail
  refine (seal_ok _ 4092 ys w2 (R2.out.all 4092 4092 l1.symm) b1 (HT.out.keptN G2.out)).mono ?_
  rintro e w3 ⟨rfl, hr3, hg3⟩
  have R3 := hid_intro hr3
  have G3 := hid_intro (grown_trans G2.out hg3)
  have l3 : (ys ++ low4 (upd 0 ys)).length = 4096 := by rw [List.length_append, l1]; rfl
  have t3 : (ys ++ low4 (upd 0 ys)).take 4092 = ys := List.take_left' l1
  have d3 : (ys ++ low4 (upd 0 ys)).drop 4092 = low4 (upd 0 ys) := List.drop_left' l1
  have b3 : Bt (ys ++ low4 (upd 0 ys)) := b1.app (bt_low4 _)
  have f3 : (ys ++ low4 (upd 0 ys)).drop 4092 = low4 (upd 0 ((ys ++ low4 (upd 0 ys)).take 4092)) := by rw [d3, t3]
  clear hr3 hg3 G2 R2 t3 d3
  generalize ys ++ low4 (upd 0 ys) = ps at *
  have F3 := hid_intro f3
  clear f3
  go_wp2_with fail
  refine (num2_any _ _).mono ?_
  rintro e w4 ⟨rfl, rfl⟩
  obtain ⟨a, ha, ha1, ha2, ha3⟩ := place at1 32768 (by decide) (by decide)
  have ha1' : Int.tmod (Int.tmod at1 32768 + 32768) 32768 = (a : Int) := ha1
  have ha2' : 0 ≤ Int.tmod at1 32768 + 32768 := ha2
  have ha3' : Int.tmod at1 32768 + 32768 ≤ 1200000 := ha3
  clear ha1 ha2 ha3
  go_wp2_with fail
  refine (turned_any _ 4096 4096 a p ps w4 (R3.out.all 4096 4096 l3.symm) b3 (by omega) (by omega) hp).mono ?_
  rintro e w5 ⟨rfl, ⟨qs, hr5, hT5⟩, hg5⟩
  have R5 := hid_intro hr5
  have l5 : qs.length = 4096 := hT5.len.trans l3
  have b5 : Bt qs := hT5.bts
  have hfit := page_turned l3 (bts b3) F3.out hT5 (part_lt hp)
  have G5 := hid_intro (grown_trans G3.out hg5)
  clear hr5 hT5 hg5 G3 R3 F3
  generalize part p (8 * 4096 - a) 32 = q at *
  by_cases hq : q = 0
  · have e5 : decide (q ≠ 0) = false := by rw [hq]; rfl
    rw [e5]
    go_wp2_with fail
    refine (open_yes _ 4096 qs w5 (R5.out.all 4096 4096 l5.symm) b5 (HT.out.keptN G5.out) (by omega) (hfit.2 hq)).mono ?_
    rintro e w6 ⟨g6, rfl, _, _, hg6⟩
    have G6 := hid_intro (grown_trans G5.out hg6)
    clear hg6 G5 R5 hfit e5 hq
    go_wp2_with fail
    refine (num2_any _ _).mono ?_
    rintro e w7 ⟨rfl, rfl⟩
    by_cases h0 : n = 0
    · have h00 : (n : Int) = 0 := by omega
      go_wp2
      go_ret
      exact ⟨rfl, G6.out⟩
    have h00 : ¬ 8 * (n : Int) = 0 := by omega
    obtain ⟨d, hd, hd1, hd2, hd3⟩ := place at1 (8 * n) (by omega) (by omega)
    have hd1' : Int.tmod (Int.tmod at1 (8 * (n : Int)) + 8 * (n : Int)) (8 * (n : Int)) = (d : Int) := by rw [← hd1]; simp
    have hd2' : 0 ≤ Int.tmod at1 (8 * (n : Int)) + 8 * (n : Int) := by have := hd2; simp at this; omega
    have hd3' : Int.tmod at1 (8 * (n : Int)) + 8 * (n : Int) ≤ 1200000 := by have := hd3; simp at this; omega
    clear hd1 hd2 hd3
    go_wp2_with fail
    refine (turned_any ao n cap d p zs w7 (HB.out.keptN G6.out) bt (by omega) hd hp).mono ?_
    rintro e w8 ⟨rfl, ⟨cs, hr8, hT8⟩, hg8⟩
    have R8 := hid_intro hr8
    have l8 : cs.length = n := hT8.len.trans HL.out
    have b8 : Bt cs := hT8.bts
    have hsum := sum_turned (bts bt) hT8 (part_lt hp)
    have G8 := hid_intro (grown_trans G6.out hg8)
    clear hr8 hT8 hg8 G6
    generalize part p (8 * n - d) 32 = q2 at *
    by_cases hq2 : q2 = 0
    · have e9 : decide (q2 ≠ 0) = false := by rw [hq2]; rfl
      rw [e9]
      have hs9 := hsum.2 hq2
      have HS9 := hid_intro hs9
      clear hs9 hsum hq2 e9
      go_wp2_with fail
      refine (sum_any ao n cap zs w8 (HB.out.keptN G8.out) bt (HT.out.keptN G8.out) (by omega)).mono ?_
      rintro e w9 ⟨rfl, rfl⟩
      go_wp2_with fail
      refine (sum_any _ n n cs w9 (R8.out.all n n l8.symm) b8 (HT.out.keptN G8.out) (by omega)).mono ?_
      rintro e w10 ⟨rfl, rfl⟩
      rw [HS9.out]
      go_wp2
      go_ret
      exact ⟨rfl, G8.out⟩
    · have e9 : decide (q2 ≠ 0) = true := decide_eq_true hq2
      rw [e9]
      have hs9 : ¬ ((upd 0 zs : Nat) : Int) = ((upd 0 cs : Nat) : Int) := fun e => hq2 (hsum.1 (by omega))
      clear hsum hq2 e9
      go_wp2_with fail
      refine (sum_any ao n cap zs w8 (HB.out.keptN G8.out) bt (HT.out.keptN G8.out) (by omega)).mono ?_
      rintro e w9 ⟨rfl, rfl⟩
      go_wp2_with fail
      refine (sum_any _ n n cs w9 (R8.out.all n n l8.symm) b8 (HT.out.keptN G8.out) (by omega)).mono ?_
      rintro e w10 ⟨rfl, rfl⟩
      generalize upd 0 zs = s1 at *
      generalize upd 0 cs = s2 at *
      have hs10 : (((s1 : Nat) : Int) != ((s2 : Nat) : Int)) = true := by rw [bne_iff_ne]; exact hs9
      have HS10 := hid_intro hs10
      clear hs10
      go_wp2
      go_ret
      exact ⟨ret_true HS10.out, G8.out⟩
  · have e5 : decide (q ≠ 0) = true := decide_eq_true hq
    rw [e5]
    go_wp2_with fail
    refine (open_no _ 4096 qs w5 (R5.out.all 4096 4096 l5.symm) b5 (HT.out.keptN G5.out) (by omega) (fun h => hq (hfit.1 h))).mono ?_
    rintro e w6 ⟨rfl, hg6⟩
    have G6 := hid_intro (grown_trans G5.out hg6)
    clear hg6 G5 R5 hfit e5 hq
    go_wp2_with fail
    refine (num2_any _ _).mono ?_
    rintro e w7 ⟨rfl, rfl⟩
    by_cases h0 : n = 0
    · have h00 : (n : Int) = 0 := by omega
      go_wp2
      go_ret
      exact ⟨rfl, G6.out⟩
    have h00 : ¬ 8 * (n : Int) = 0 := by omega
    obtain ⟨d, hd, hd1, hd2, hd3⟩ := place at1 (8 * n) (by omega) (by omega)
    have hd1' : Int.tmod (Int.tmod at1 (8 * (n : Int)) + 8 * (n : Int)) (8 * (n : Int)) = (d : Int) := by rw [← hd1]; simp
    have hd2' : 0 ≤ Int.tmod at1 (8 * (n : Int)) + 8 * (n : Int) := by have := hd2; simp at this; omega
    have hd3' : Int.tmod at1 (8 * (n : Int)) + 8 * (n : Int) ≤ 1200000 := by have := hd3; simp at this; omega
    clear hd1 hd2 hd3
    go_wp2_with fail
    refine (turned_any ao n cap d p zs w7 (HB.out.keptN G6.out) bt (by omega) hd hp).mono ?_
    rintro e w8 ⟨rfl, ⟨cs, hr8, hT8⟩, hg8⟩
    have R8 := hid_intro hr8
    have l8 : cs.length = n := hT8.len.trans HL.out
    have b8 : Bt cs := hT8.bts
    have hsum := sum_turned (bts bt) hT8 (part_lt hp)
    have G8 := hid_intro (grown_trans G6.out hg8)
    clear hr8 hT8 hg8 G6
    generalize part p (8 * n - d) 32 = q2 at *
    by_cases hq2 : q2 = 0
    · have e9 : decide (q2 ≠ 0) = false := by rw [hq2]; rfl
      rw [e9]
      have hs9 := hsum.2 hq2
      have HS9 := hid_intro hs9
      clear hs9 hsum hq2 e9
      go_wp2_with fail
      refine (sum_any ao n cap zs w8 (HB.out.keptN G8.out) bt (HT.out.keptN G8.out) (by omega)).mono ?_
      rintro e w9 ⟨rfl, rfl⟩
      go_wp2_with fail
      refine (sum_any _ n n cs w9 (R8.out.all n n l8.symm) b8 (HT.out.keptN G8.out) (by omega)).mono ?_
      rintro e w10 ⟨rfl, rfl⟩
      rw [HS9.out]
      go_wp2
      go_ret
      exact ⟨rfl, G8.out⟩
    · have e9 : decide (q2 ≠ 0) = true := decide_eq_true hq2
      rw [e9]
      have hs9 : ¬ ((upd 0 zs : Nat) : Int) = ((upd 0 cs : Nat) : Int) := fun e => hq2 (hsum.1 (by omega))
      clear hsum hq2 e9
      go_wp2_with fail
      refine (sum_any ao n cap zs w8 (HB.out.keptN G8.out) bt (HT.out.keptN G8.out) (by omega)).mono ?_
      rintro e w9 ⟨rfl, rfl⟩
      go_wp2_with fail
      refine (sum_any _ n n cs w9 (R8.out.all n n l8.symm) b8 (HT.out.keptN G8.out) (by omega)).mono ?_
      rintro e w10 ⟨rfl, rfl⟩
      generalize upd 0 zs = s1 at *
      generalize upd 0 cs = s2 at *
      have hs10 : (((s1 : Nat) : Int) != ((s2 : Nat) : Int)) = true := by rw [bne_iff_ne]; exact hs9
      have HS10 := hid_intro hs10
      clear hs10
      go_wp2
      go_ret
      exact ⟨ret_true HS10.out, G8.out⟩
end Go.Proofs.YtnghkgnpbcadaabDoor
