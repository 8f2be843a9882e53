import Derived.Test.YthebdbdahdegfaaReads
namespace Go.Proofs.Ythebdbdahdegfaa
open Go.RowKit

set_option maxHeartbeats 400000 in
set_option maxRecDepth 100000 in
theorem reads_longA (ao : Option Addr) (m c : Nat) (bo : Option Addr) (m2 c2 : Nat) (oo : Option Addr) (n oc : Nat) (w : World) (hn : (65536 : Int) < (m : Int)) :
    Calls Try.prog 3 #[.slice ao m c, .slice bo m2 c2, .slice oo n oc] w fun e w' => e = .returned (.bool true) ∧ Below w.heap.size w w' := by
  go_enter Try.func3, Try.ntmps3
  go_wp2_with fail
  refine (first_any _).mono ?_
  rintro en w1 ⟨rfl, hg⟩
  have HG : Hid (w.grownBy w1 none) := hg
  clear hg
  go_wp2
  go_ret
  exact ⟨rfl, Below_of HG.out⟩

set_option maxHeartbeats 400000 in
set_option maxRecDepth 100000 in
theorem reads_longB (ao : Option Addr) (m c : Nat) (bo : Option Addr) (m2 c2 : Nat) (oo : Option Addr) (n oc : Nat) (w : World) (hm : (m : Int) ≤ 65536) (hn : (65536 : Int) < (m2 : Int)) :
    Calls Try.prog 3 #[.slice ao m c, .slice bo m2 c2, .slice oo n oc] w fun e w' => e = .returned (.bool true) ∧ Below w.heap.size w w' := by
  go_enter Try.func3, Try.ntmps3
  go_wp2_with fail
  refine (first_any _).mono ?_
  rintro en w1 ⟨rfl, hg⟩
  have HG : Hid (w.grownBy w1 none) := hg
  clear hg
  go_wp2
  go_ret
  exact ⟨rfl, Below_of HG.out⟩

theorem owns_caps {w : World} {base g n c : Nat} {xs : List Value} (h : w.ownsRow base 5 1 (.slice (some ⟨g, 0, none⟩) n c) n xs) : n ≤ c ∧ c ≤ 9223372036854775807 := by
  rcases h.2 with ⟨h', _⟩ | ⟨g', cap', cur, h', _, _, hnc, hm, _⟩
  · simp at h'
  · simp only [Value.slice.injEq, Option.some.injEq, Addr.mk.injEq, and_true, true_and] at h'
    obtain ⟨_, rfl⟩ := h'
    unfold maxLen at hm
    exact ⟨hnc, by omega⟩

set_option maxHeartbeats 8000000 in
set_option maxRecDepth 100000 in
theorem reads_main (ao : Option Addr) (m c : Nat) (za : List Int) (bo : Option Addr) (m2 c2 : Nat) (zb : List Int) (b off n oc : Nat) (K N : Nat → Int) (S : Nat → Bool) (oo : Option Addr) (w : World)
    (ha : Byt w ao m c za) (hat : Bt za) (hm : m ≤ 65536) (hb : Byt w bo m2 c2 zb) (hbt : Bt zb) (hm2 : m2 ≤ 65536)
    (hn : n ≤ 9223372036854775807) (hoo : 0 < n → oo = some ⟨b, off, none⟩) (ho : OpsAt w b off n K N S) :
    Calls Try.prog 3 #[.slice ao m c, .slice bo m2 c2, .slice oo n oc] w fun e w' => e = .returned (.bool true) ∧ Below w.heap.size w w' := by
  have A0 := hid_intro ha
  have B0 := hid_intro hb
  have AT := hid_intro hat
  have BT := hid_intro hbt
  have LA := hid_intro ha.len
  have LB := hid_intro hb.len
  have HO := hid_intro ho
  have HOO := hid_intro hoo
  clear ha hb hat hbt ho hoo
  go_enter Try.func3, Try.ntmps3
  go_wp2_with fail
  refine (first_any _).mono ?_
  rintro en w1 ⟨rfl, hg⟩
  have G1 : Hid (w.grownBy w1 none) := hg
  clear hg
  go_wp2_with fail
  refine (room_any ao m c za _ (A0.out.keptN G1.out) (by omega)).mono ?_
  rintro en w2 ⟨gx, cx, rfl, hgx, hown, hg⟩
  have G2 : Hid (w.grownBy w2 none) := grown_trans G1.out hg
  have X2 := hid_intro hown
  have L2 := hid_intro (owns_lt hown)
  obtain ⟨hcx, hcx'⟩ := owns_caps hown
  have O1 : Hid (w.heap.size ≤ gx) := by show _ ≤ _; have := G1.out.size; omega
  clear hown hg hgx
  go_wp2_with fail
  refine (room_any bo m2 c2 zb _ (B0.out.keptN G2.out) (by omega)).mono ?_
  rintro en w3 ⟨gy, cy, rfl, hgy, hown, hg⟩
  have G3 : Hid (w.grownBy w3 none) := grown_trans G2.out hg
  have Y3 := hid_intro hown
  have X3 := hid_intro (X2.out.kept hg (Or.inr (by simp [Value.ownBlock])))
  have L3 := hid_intro (owns_lt hown)
  obtain ⟨hcy, hcy'⟩ := owns_caps hown
  have O2 : Hid (gx < gy) := by show _ < _; have := L2.out; omega
  clear hown hg hgy X2
  go_wp2_with fail
  have hbz : Byt w3 (some ⟨gx, 0, none⟩) m (m + 3) za := by
    have := (Byt.of_owns X3.out).take m (m + 3) (by omega) (fun e => by cases e)
    rwa [List.take_left' LA.out] at this
  refine (newReader_any _ m (m + 3) za _ hbz (by omega)).mono ?_
  rintro en w4 ⟨R, rfl, hr, hg, hR⟩
  have G4 : Hid (w.grownBy w4 none) := grown_trans G3.out hg
  have R4 := hid_intro hr
  have X4 := hid_intro (X3.out.kept hg (Or.inr (by simp [Value.ownBlock])))
  have Y4 := hid_intro (Y3.out.kept hg (Or.inr (by simp [Value.ownBlock])))
  have O3 : Hid (gy < w3.heap.size) := L3.out
  have O4 : Hid (w3.heap.size < R) := hR
  have L4 := hid_intro hr.lt.1
  clear hr hg hR hbz X3 Y3
  go_wp2_with fail
  have hbz : Byt w4 (some ⟨gy, 0, none⟩) m2 (m2 + 3) zb := by
    have := (Byt.of_owns Y4.out).take m2 (m2 + 3) (by omega) (fun e => by cases e)
    rwa [List.take_left' LB.out] at this
  refine (newReader_any _ m2 (m2 + 3) zb _ hbz (by omega)).mono ?_
  rintro en w5 ⟨R2, rfl, hr, hg, hR⟩
  have G5 : Hid (w.grownBy w5 none) := grown_trans G4.out hg
  have S5 := hid_intro hr
  have R5 := hid_intro (R4.out.kept hg (by simp) (by simp))
  have X5 := hid_intro (X4.out.kept hg (Or.inr (by simp [Value.ownBlock])))
  have Y5 := hid_intro (Y4.out.kept hg (Or.inr (by simp [Value.ownBlock])))
  have O5 : Hid (R < w4.heap.size) := L4.out
  have O6 : Hid (w4.heap.size < R2) := hR
  clear hr hg hR hbz X4 Y4 R4
  go_wp2_with fail
  refine (room_any ao m c za _ (A0.out.keptN G5.out) (by omega)).mono ?_
  rintro en w6 ⟨g6, c6, rfl, _, hown, hg⟩
  have G6 : Hid (w.grownBy w6 none) := grown_trans G5.out hg
  have S6 := hid_intro (S5.out.kept hg (by simp) (by simp))
  have R6 := hid_intro (R5.out.kept hg (by simp) (by simp))
  have X6 := hid_intro (X5.out.kept hg (Or.inr (by simp [Value.ownBlock])))
  have Y6 := hid_intro (Y5.out.kept hg (Or.inr (by simp [Value.ownBlock])))
  have E6 := hid_intro (Byt.of_owns hown)
  clear hown hg S5 R5 X5 Y5
  go_wp2_with fail
  refine (same_yes _ _ _ _ _ _ (za ++ [161, 162, 163]) (za ++ [161, 162, 163]) _ (Byt.of_owns X6.out) E6.out rfl).mono ?_
  rintro en w7 ⟨rfl, hw7⟩
  subst hw7
  clear E6
  go_wp2_with fail
  refine (room_any bo m2 c2 zb _ (B0.out.keptN G6.out) (by omega)).mono ?_
  rintro en w8 ⟨g8, c8, rfl, _, hown, hg⟩
  have G8 : Hid (w.grownBy w8 none) := grown_trans G6.out hg
  have S8 := hid_intro (S6.out.kept hg (by simp) (by simp))
  have R8 := hid_intro (R6.out.kept hg (by simp) (by simp))
  have X8 := hid_intro (X6.out.kept hg (Or.inr (by simp [Value.ownBlock])))
  have Y8 := hid_intro (Y6.out.kept hg (Or.inr (by simp [Value.ownBlock])))
  have E8 := hid_intro (Byt.of_owns hown)
  clear hown hg S6 R6 X6 Y6
  go_wp2_with fail
  refine (same_yes _ _ _ _ _ _ (zb ++ [161, 162, 163]) (zb ++ [161, 162, 163]) _ (Byt.of_owns Y8.out) E8.out rfl).mono ?_
  rintro en w9 ⟨rfl, hw9⟩
  subst hw9
  have P9 : Hid (Pre w w9 w1.heap.size w2.heap.size gx gy (m + 3) (m2 + 3) cx cy R w3.heap.size R2 w4.heap.size za zb) :=
    ⟨⟨_, AT.out.app (by intro z hz; simp at hz; omega), X8.out⟩, ⟨_, BT.out.app (by intro z hz; simp at hz; omega), Y8.out⟩, R8.out, S8.out, G8.out, O1.out, O2.out, O3.out, O4.out, O5.out, O6.out⟩
  clear E8 X8 Y8 R8 S8 G8 O1 O2 O3 O4 O5 O6 L2 L3 L4 G1 G2 G3 G4 G5 G6
  go_wp2
  go_loopw [14] (fun si wr => ∃ k : Nat, k ≤ m + 3 ∧ si = .int .i64 k ∧ Pre w wr w1.heap.size w2.heap.size gx gy (m + 3) (m2 + 3) cx cy R w3.heap.size R2 w4.heap.size za zb) (fun si _ => m + 3 - (intOf si).toNat)
  case atStart => exact ⟨0, Nat.zero_le _, rfl, P9.out⟩
  case round =>
    obtain ⟨k, hk, rfl, hp⟩ := hrel
    have PR := hid_intro hp
    clear hp
    by_cases hlt : k < m + 3
    · obtain ⟨z, hz0, hz1, hcell, hfz⟩ := PR.out.x.at k (by omega)
      have PN := hid_intro (PR.out.storeX k 238 (by omega))
      go_wp2
      go_roundw
      case rel => exact ⟨k + 1, by omega, by go_num, PN.out⟩
      case measure => simp [intOf]; omega
    · have hkn : k = m + 3 := by omega
      subst hkn
      clear P9
      go_wp2
      go_loopw [15] (fun si wr => ∃ k : Nat, k ≤ m2 + 3 ∧ si = .int .i64 k ∧ Pre w wr w1.heap.size w2.heap.size gx gy (m + 3) (m2 + 3) cx cy R w3.heap.size R2 w4.heap.size za zb) (fun si _ => m2 + 3 - (intOf si).toNat)
      case atStart => exact ⟨0, Nat.zero_le _, rfl, PR.out⟩
      case round =>
        obtain ⟨k, hk, rfl, hp⟩ := hrel
        have PS := hid_intro hp
        clear hp
        by_cases hlt : k < m2 + 3
        · obtain ⟨z, hz0, hz1, hcell, hfz⟩ := PS.out.y.at k (by omega)
          have PN := hid_intro (PS.out.storeY k 17 (by omega))
          go_wp2
          go_roundw
          case rel => exact ⟨k + 1, by omega, by go_num, PN.out⟩
          case measure => simp [intOf]; omega
        · have hkn : k = m2 + 3 := by omega
          subst hkn
          clear PR
          go_wp2_with fail
          refine (refNew_any ao m c za _ (A0.out.keptN PS.out.g) (by omega)).mono ?_
          rintro en w10 ⟨Q, rfl, hr, hg, hQ⟩
          have D10 := hid_intro hr
          have G10 := hid_intro hg
          have HQ := hid_intro hQ
          clear hr hg hQ
          go_wp2_with fail
          refine (refNew_any bo m2 c2 zb _ (B0.out.keptN (grown_trans PS.out.g G10.out)) (by omega)).mono ?_
          rintro en w11 ⟨Q2, rfl, hr, hg, hQ⟩
          have M11 : Hid (Main w w11 R w3.heap.size Q wr.heap.size R2 w4.heap.size Q2 w10.heap.size za zb) := by
            have p1 := PS.out.o1; have p2 := PS.out.o2; have p3 := PS.out.o3; have p4 := PS.out.o4; have p5 := PS.out.o5; have p6 := PS.out.o6
            have p7 := PS.out.s.lt.1
            have p8 := HQ.out
            have p9 := D10.out.lt.1
            have hg2 := grown_trans G10.out hg
            exact ⟨⟨0, 0, PS.out.r.kept hg2 (by simp) (by simp), D10.out.kept hg (by simp) (by simp), by omega, by omega, by omega, by omega⟩,
              ⟨0, 0, PS.out.s.kept hg2 (by simp) (by simp), hr, by omega, by omega, by omega, by omega⟩, grown_trans PS.out.g hg2, by omega, by omega, by omega, by omega, by omega, by omega, by omega, by omega⟩
          clear hr hg hQ HQ D10 G10 PS A0 B0
          go_wp2
          go_loopw [18] (fun si wv => ∃ k : Nat, k ≤ n ∧ k ≤ 2000 ∧ si = .int .i64 k ∧ Main w wv R w3.heap.size Q wr.heap.size R2 w4.heap.size Q2 w10.heap.size za zb) (fun si _ => n - (intOf si).toNat)
          case atStart => exact ⟨0, Nat.zero_le _, by omega, rfl, M11.out⟩
          case round =>
            obtain ⟨k, hk, hk2, rfl, hmn⟩ := hrel
            have MM := hid_intro hmn
            clear hmn M11
            by_cases h1 : k < n
            · by_cases h2 : k < 2000
              · obtain rfl := HOO.out (by omega)
                have c0 := (HO.out.kept MM.out.g).at0 k h1
                have c1 := (HO.out.kept MM.out.g).at1 k h1
                have c2 := (HO.out.kept MM.out.g).at2 k h1
                obtain ⟨K1, hK⟩ : ∃ K1, K1 = K k := ⟨_, rfl⟩
                obtain ⟨N1, hN⟩ : ∃ N1, N1 = N k := ⟨_, rfl⟩
                obtain ⟨S1, hS⟩ : ∃ S1, S1 = S k := ⟨_, rfl⟩
                rw [← hK] at c0
                rw [← hN] at c1
                rw [← hS] at c2
                clear hK hN hS
                cases S1
                · go_wp2_with fail
                  refine (step_any R _ Q _ za K1 N1 false _ MM.out.a AT.out).mono ?_
                  rintro en v0 ⟨rfl, ht, hf⟩
                  have MM0 := hid_intro (MM.out.nextA ht hf)
                  clear ht hf c0 c1 c2
                  go_wp2_with fail
                  refine (step_any R _ Q _ za 8 0 false _ MM0.out.a AT.out).mono ?_
                  rintro en v1 ⟨rfl, ht, hf⟩
                  have MM1 := hid_intro (MM0.out.nextA ht hf)
                  clear ht hf
                  go_wp2_with fail
                  refine (step_any R _ Q _ za 7 0 false _ MM1.out.a AT.out).mono ?_
                  rintro en v2 ⟨rfl, ht, hf⟩
                  have MM2 := hid_intro (MM1.out.nextA ht hf)
                  clear ht hf
                  go_wp2
                  go_roundw
                  case rel => exact ⟨k + 1, by omega, by omega, by go_num, MM2.out⟩
                  case measure => simp [intOf]; omega
                · go_wp2_with fail
                  refine (step_any R2 _ Q2 _ zb K1 N1 true _ MM.out.b BT.out).mono ?_
                  rintro en v0 ⟨rfl, ht, hf⟩
                  have MM0 := hid_intro (MM.out.nextB ht hf)
                  clear ht hf c0 c1 c2
                  go_wp2_with fail
                  refine (step_any R2 _ Q2 _ zb 8 0 false _ MM0.out.b BT.out).mono ?_
                  rintro en v1 ⟨rfl, ht, hf⟩
                  have MM1 := hid_intro (MM0.out.nextB ht hf)
                  clear ht hf
                  go_wp2_with fail
                  refine (step_any R2 _ Q2 _ zb 7 0 false _ MM1.out.b BT.out).mono ?_
                  rintro en v2 ⟨rfl, ht, hf⟩
                  have MM2 := hid_intro (MM1.out.nextB ht hf)
                  clear ht hf
                  go_wp2
                  go_roundw
                  case rel => exact ⟨k + 1, by omega, by omega, by go_num, MM2.out⟩
                  case measure => simp [intOf]; omega
              · have hk3 : k = 2000 := by omega
                subst hk3
                go_wp2_with fail
                refine (step_any R _ Q _ za 8 0 false _ MM.out.a AT.out).mono ?_
                rintro en v0 ⟨rfl, ht, hf⟩
                have MM0 := hid_intro (MM.out.nextA ht hf)
                clear ht hf
                go_wp2_with fail
                refine (step_any R2 _ Q2 _ zb 8 0 false _ MM0.out.b BT.out).mono ?_
                rintro en v1 ⟨rfl, ht, hf⟩
                have MM1 := hid_intro (MM0.out.nextB ht hf)
                clear ht hf
                go_wp2
                go_ret
                exact ⟨rfl, Below_of MM1.out.g⟩
            · have hd : decide ((k : Int) < (n : Int)) = false := by simp; omega
              go_wp2_with fail
              refine (step_any R _ Q _ za 8 0 false _ MM.out.a AT.out).mono ?_
              rintro en v0 ⟨rfl, ht, hf⟩
              have MM0 := hid_intro (MM.out.nextA ht hf)
              clear ht hf
              go_wp2_with fail
              refine (step_any R2 _ Q2 _ zb 8 0 false _ MM0.out.b BT.out).mono ?_
              rintro en v1 ⟨rfl, ht, hf⟩
              have MM1 := hid_intro (MM0.out.nextB ht hf)
              clear ht hf
              go_wp2
              go_ret
              exact ⟨rfl, Below_of MM1.out.g⟩

theorem reads_walk (ao : Option Addr) (m c : Nat) (za : List Int) (bo : Option Addr) (m2 c2 : Nat) (zb : List Int) (b off n oc : Nat) (K N : Nat → Int) (S : Nat → Bool) (oo : Option Addr) (w : World)
    (ha : Byt w ao m c za) (hat : Bt za) (hb : Byt w bo m2 c2 zb) (hbt : Bt zb)
    (hn : n ≤ 9223372036854775807) (hoo : 0 < n → oo = some ⟨b, off, none⟩) (ho : OpsAt w b off n K N S) :
    Calls Try.prog 3 #[.slice ao m c, .slice bo m2 c2, .slice oo n oc] w fun e w' => e = .returned (.bool true) ∧ Below w.heap.size w w' := by
  by_cases hm : m ≤ 65536
  · by_cases hm2 : m2 ≤ 65536
    · exact reads_main ao m c za bo m2 c2 zb b off n oc K N S oo w ha hat hm hb hbt hm2 hn hoo ho
    · exact reads_longB ao m c bo m2 c2 oo n oc w (by omega) (by omega)
  · exact reads_longA ao m c bo m2 c2 oo n oc w (by omega)
end Go.Proofs.Ythebdbdahdegfaa
