import Derived.Test.YtmdljegaggjnhaaChF
import Derived.Test.YtmdljegaggjnhaaChR1
namespace Go.Proofs.Ytmdljegaggjnhaa
open Go.RowKit

theorem eD_code (x : Int) (n : Nat) : eD x n = 0 ∨ eD x n = 51 ∨ eD x n = 62 := by
  unfold eD; split
  · exact .inr (.inl rfl)
  · split
    · exact .inr (.inr rfl)
    · exact .inl rfl
theorem eL_code (x : Int) (xs : List Int) : eL x xs = 0 ∨ eL x xs = 51 ∨ eL x xs = 63 := by
  unfold eL; split
  · exact .inr (.inl rfl)
  · split
    · exact .inr (.inr rfl)
    · exact .inl rfl
theorem back_data {x : Int} {zs : List Int} (h : eD x zs.length = 0) : vN (oD x zs) = x ∧ vD (oD x zs) = zs ∧ vE (oD x zs) = 0 ∧ uE (oD x zs) = 61 := by
  obtain ⟨k, rfl, _⟩ := nOk_nat (eD_zero h).1
  rw [oD_yes h]
  show vN (dB k zs) = _ ∧ vD (dB k zs) = _ ∧ vE (dB k zs) = _ ∧ uE (dB k zs) = _
  obtain ⟨h1, h2, h3⟩ := dD_dB (x := k) (zs := zs) h
  obtain ⟨k1, k2, k3⟩ := v_yes h1
  exact ⟨by rw [k1, h2], by rw [k2, h3], k3, (u_no (dL_dB k zs)).2.2⟩
theorem back_list {x : Int} {xs : List Int} (h : eL x xs = 0) : uN (oL x xs) = x ∧ uL (oL x xs) = xs ∧ uE (oL x xs) = 0 ∧ vE (oL x xs) = 60 := by
  obtain ⟨k, rfl, _⟩ := nOk_nat (eL_zero h).1
  rw [oL_yes h]
  show uN (lB k xs) = _ ∧ uL (lB k xs) = _ ∧ uE (lB k xs) = _ ∧ vE (lB k xs) = _
  obtain ⟨h1, h2, h3, h4⟩ := dL_lB (x := k) (xs := xs) h
  obtain ⟨k1, k2, k3⟩ := u_yes h1
  exact ⟨by rw [k1, h2], by rw [k2, h3, h4], k3, (v_no (dD_lB k xs)).2.2⟩
theorem fore_data {zs : List Int} (h : vE zs = 0) : eD (vN zs) (vD zs).length = 0 ∧ oD (vN zs) (vD zs) = zs := by
  have hd : dD zs = true := by
    cases hh : dD zs with
    | true => rfl
    | false => rw [(v_no hh).2.2] at h; exact absurd h (by decide)
  obtain ⟨k1, k2, _⟩ := v_yes hd
  rw [k1, k2]
  exact (dD_iff (dD_parts hd).1).1 hd
theorem fore_list {zs : List Int} (h : uE zs = 0) : eL (uN zs) (uL zs) = 0 ∧ oL (uN zs) (uL zs) = zs := by
  have hd : dL zs = true := by
    cases hh : dL zs with
    | true => rfl
    | false => rw [(u_no hh).2.2] at h; exact absurd h (by decide)
  obtain ⟨k1, k2, _⟩ := u_yes hd
  rw [k1, k2]
  have := (dL_iff (dL_parts hd).1).1 hd
  rw [dL_cnt hd] at this
  exact this
theorem uL_le (zs : List Int) : (uL zs).length ≤ 1021 := by
  unfold uL
  split
  · rename_i h
    rw [rL_len]
    exact (dL_parts h).2.1
  · simp

set_option maxHeartbeats 4000000 in
set_option maxRecDepth 100000 in
theorem chainBack_walk (x : Int) (ao : Option Addr) (n cap : Nat) (zs : List Int) (lo : Option Addr) (l lc : Nat) (xs : List Int) (bo : Option Addr) (m mc : Nat) (bs : List Int) (w : World) (hb : Byt w ao n cap zs) (hbt : Bt zs) (hc : n ≤ 9223372036854775807) (hn : Nt w lo xs) (hl : xs.length = l) (hln : l ≤ 9223372036854775806) (hbs : Byt w bo m mc bs) (hbsb : Bt bs) :
    Calls Try.prog 7 #[.int .i64 x, .slice ao n cap, .slice lo l lc, .slice bo m mc] w fun en w' => en = .returned (.bool true) ∧ w.grownBy w' none := by
  have HZL := hid_intro hb.len
  have HB := hid_intro hb
  have HN := hid_intro hn
  have HBS := hid_intro hbs
  have HBT := hid_intro hbt
  have HSB := hid_intro hbsb
  clear hb hn hbs hbt hbsb
  go_enter Try.func7, Try.ntmps7
  go_wp2_with fail
  refine (first6_any _).mono ?_
  rintro en w1 ⟨rfl, hg1⟩
  have G1 := hid_intro hg1
  clear hg1
  go_wp2_with fail
  refine (encodeData_any x ao n cap zs _ (HB.out.keptN G1.out) hc).mono ?_
  rintro en w2 ⟨eo, k, rfl, hb2, hx2, hg2⟩
  have HBK := hid_intro (fun h => back_data (x := x) (zs := zs) h)
  rw [HZL.out] at HBK
  have HOB := hid_intro (oD_bt (x := x) HBT.out)
  generalize eD x n = e1 at *
  generalize oD x zs = O1 at *
  have D2 := hid_intro hb2
  have G2 := hid_intro (grown_trans G1.out hg2)
  clear hb2 hx2 hg2 G1
  go_wp2_with fail
  refine (num6_any _ _).mono ?_
  rintro en w2 ⟨rfl, rfl⟩
  go_upto_if 48 with fail
  go_cut [9, 12, 13, 14, 15, 16, 17, 18] from 49 to 82 (fun s9 _ _ _ _ _ _ _ wx => s9 = .bool true ∧ w.grownBy wx none)
  case first =>
    by_cases he : e1 = 0
    · obtain ⟨q1, q2, q3, q4⟩ := HBK.out he
      subst he
      go_wp2_with fail
      refine (decodeData_any eo k k O1 _ D2.out HOB.out).mono ?_
      rw [q1, q2, q3]
      rintro en w3 ⟨do_, dm, rfl, hb3, hx3, hg3⟩
      have D3 := hid_intro (D2.out.keptN hg3)
      have G3 := hid_intro (grown_trans G2.out hg3)
      have E3 := hid_intro hb3
      clear hb3 hx3 hg3 D2 G2
      go_wp2_with fail
      refine (same_yes _ _ _ _ _ _ _ _ _ E3.out (HB.out.keptN G3.out) rfl).mono ?_
      rintro en w3 ⟨rfl, rfl⟩
      go_wp2_with fail
      refine (decodeList_any eo k k O1 _ D3.out HOB.out).mono ?_
      rw [q4]
      rintro en w4 ⟨fo, fm, rfl, hn4, hl4, hx4, hg4⟩
      have G4 := hid_intro (grown_trans G3.out hg4)
      clear hn4 hl4 hx4 hg4 G3 D3 E3
      go_wp2_with fail
      refine (num6_any _ _).mono ?_
      rintro en w4 ⟨rfl, rfl⟩
      go_wp2_with fail
      refine (num6_any _ _).mono ?_
      rintro en w4 ⟨rfl, rfl⟩
      go_wp2
      go_meet
      exact ⟨by simp, G4.out⟩
    · have he2 : (e1 == 0) = false := by simp [he]
      go_wp2
      go_meet
      exact ⟨rfl, G2.out⟩
  case rest =>
    obtain ⟨rfl, hg⟩ := hcut
    have GC := hid_intro hg
    clear hg D2 G2 HOB HBK
    go_wp2_with fail
    refine (encodeList_any x lo l lc xs _ (HN.out.keptN GC.out) hl hln).mono ?_
    rintro en w5 ⟨yo, yk, rfl, hb5, hx5, hg5⟩
    have HBK := hid_intro (fun h => back_list (x := x) (xs := xs) h)
    have HOB := hid_intro (oL_bt x xs)
    generalize eL x xs = e2 at *
    generalize oL x xs = O2 at *
    have D5 := hid_intro hb5
    have G5 := hid_intro (grown_trans GC.out hg5)
    clear hb5 hx5 hg5 GC
    go_wp2_with fail
    refine (num6_any _ _).mono ?_
    rintro en w5 ⟨rfl, rfl⟩
    go_upto_if 91 with fail
    go_cut [9, 20, 21, 22, 23, 24, 25, 26] from 92 to 125 (fun s9 _ _ _ _ _ _ _ wx => s9 = .bool true ∧ w.grownBy wx none)
    case first =>
      by_cases he : e2 = 0
      · obtain ⟨q1, q2, q3, q4⟩ := HBK.out he
        subst he
        go_wp2_with fail
        refine (decodeList_any yo yk yk O2 _ D5.out HOB.out).mono ?_
        rw [q1, q2, q3]
        rintro en w3 ⟨do_, dm, rfl, hb3, hl3, hx3, hg3⟩
        have D3 := hid_intro (D5.out.keptN hg3)
        have G3 := hid_intro (grown_trans G5.out hg3)
        have E3 := hid_intro hb3
        have HL3 := hid_intro hl3
        clear hb3 hx3 hg3 D5 G5 hl3
        go_wp2_with fail
        refine (sameInts_any _ _ _ xs _ _ _ xs _ E3.out HL3.out (HN.out.keptN G3.out) hl (by rw [← HL3.out, hl]; omega)).mono ?_
        rintro en w4 ⟨⟨b4, rfl, hb4⟩, hq4⟩
        obtain rfl : b4 = true := hb4.2 rfl
        have D4 := hid_intro (D3.out.keptN (hq4.grown none))
        have G4 := hid_intro (grown_trans G3.out (hq4.grown none))
        clear hb4 hq4 D3 G3 E3
        go_wp2_with fail
        refine (decodeData_any yo yk yk O2 _ D4.out HOB.out).mono ?_
        rw [q4]
        rintro en w6 ⟨fo, fm, rfl, hb6, hx6, hg6⟩
        have G6 := hid_intro (grown_trans G4.out hg6)
        clear hb6 hx6 hg6 G4 D4
        go_wp2_with fail
        refine (num6_any _ _).mono ?_
        rintro en w6 ⟨rfl, rfl⟩
        go_wp2_with fail
        refine (num6_any _ _).mono ?_
        rintro en w6 ⟨rfl, rfl⟩
        go_wp2
        go_meet
        exact ⟨by simp, G6.out⟩
      · have he2 : (e2 == 0) = false := by simp [he]
        go_wp2
        go_meet
        exact ⟨rfl, G5.out⟩
    case rest =>
      obtain ⟨rfl, hg⟩ := hcut
      have GC := hid_intro hg
      clear hg D5 G5 HOB HBK
      go_wp2_with fail
      refine (decodeData_any bo m mc bs _ (HBS.out.keptN GC.out) HSB.out).mono ?_
      rintro en w6 ⟨do_, dm, rfl, hb6, hx6, hg6⟩
      have HBK := hid_intro (fun h => fore_data (zs := bs) h)
      have HLN := hid_intro hb6.len
      have hdm : dm ≤ 9223372036854775807 := by
        rw [← hb6.len]
        unfold vD
        split
        · unfold rD
          split
          · rw [List.length_take]; omega
          · simp
        · simp
      generalize vE bs = e3 at *
      generalize vN bs = x3 at *
      generalize vD bs = d3 at *
      rw [HLN.out] at HBK
      have D6 := hid_intro hb6
      have G6 := hid_intro (grown_trans GC.out hg6)
      clear hb6 hx6 hg6 GC
      go_wp2_with fail
      refine (num6_any _ _).mono ?_
      rintro en w6 ⟨rfl, rfl⟩
      go_upto_if 134 with fail
      go_cut [9, 30, 31, 32] from 135 to 152 (fun s9 _ _ _ wx => s9 = .bool true ∧ w.grownBy wx none)
      case first =>
        by_cases he : e3 = 0
        · obtain ⟨q1, q2⟩ := HBK.out he
          have Q2 := hid_intro q2
          subst he
          clear q2
          go_wp2_with fail
          refine (encodeData_any x3 do_ dm dm d3 _ D6.out hdm).mono ?_
          rw [q1]
          rintro en w7 ⟨zo, zm, rfl, hb7, hx7, hg7⟩
          have G7 := hid_intro (grown_trans G6.out hg7)
          have E7 := hid_intro hb7
          clear hb7 hx7 hg7 G6
          go_wp2_with fail
          refine (same_yes _ _ _ _ _ _ _ _ _ E7.out (HBS.out.keptN G7.out) Q2.out).mono ?_
          rintro en w7 ⟨rfl, rfl⟩
          go_wp2_with fail
          refine (num6_any _ _).mono ?_
          rintro en w7 ⟨rfl, rfl⟩
          go_wp2
          go_meet
          exact ⟨by simp, G7.out⟩
        · have he2 : (e3 == 0) = false := by simp [he]
          go_wp2
          go_meet
          exact ⟨rfl, G6.out⟩
      case rest =>
        obtain ⟨rfl, hg⟩ := hcut
        have GC := hid_intro hg
        clear hg D6 G6 HBK HLN
        go_wp2_with fail
        refine (decodeList_any bo m mc bs _ (HBS.out.keptN GC.out) HSB.out).mono ?_
        rintro en w8 ⟨ko, km, rfl, hn8, hl8, hx8, hg8⟩
        have HBK := hid_intro (fun h => fore_list (zs := bs) h)
        have hkm : km ≤ 9223372036854775806 := by have := uL_le bs; omega
        generalize uE bs = e4 at *
        generalize uN bs = x4 at *
        generalize uL bs = d4 at *
        have D8 := hid_intro hn8
        have HL8 := hid_intro hl8
        have G8 := hid_intro (grown_trans GC.out hg8)
        clear hn8 hx8 hg8 hl8 GC
        go_wp2_with fail
        refine (num6_any _ _).mono ?_
        rintro en w8 ⟨rfl, rfl⟩
        by_cases he : e4 = 0
        · obtain ⟨q1, q2⟩ := HBK.out he
          have Q2 := hid_intro q2
          subst he
          clear q2
          go_wp2_with fail
          refine (encodeList_any x4 ko km km d4 _ D8.out HL8.out hkm).mono ?_
          rw [q1]
          rintro en w7 ⟨zo, zm, rfl, hb7, hx7, hg7⟩
          have G7 := hid_intro (grown_trans G8.out hg7)
          have E7 := hid_intro hb7
          clear hb7 hx7 hg7 G8
          go_wp2_with fail
          refine (same_yes _ _ _ _ _ _ _ _ _ E7.out (HBS.out.keptN G7.out) Q2.out).mono ?_
          rintro en w7 ⟨rfl, rfl⟩
          go_wp2_with fail
          refine (num6_any _ _).mono ?_
          rintro en w7 ⟨rfl, rfl⟩
          go_wp2
          go_ret
          exact ⟨by simp, G7.out⟩
        · have he2 : (e4 == 0) = false := by simp [he]
          go_wp2
          go_ret
          exact ⟨rfl, G8.out⟩
end Go.Proofs.Ytmdljegaggjnhaa
