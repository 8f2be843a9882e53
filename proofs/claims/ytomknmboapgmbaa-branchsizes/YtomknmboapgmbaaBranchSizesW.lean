import Derived.Test.YtomknmboapgmbaaBrZ
namespace Go.Proofs.Ytomknmboapgmbaa
open Go.RowKit

set_option maxHeartbeats 4000000 in
set_option maxRecDepth 100000 in
theorem branchSizes_walk (a : Option Addr) (n cap : Nat) (L : List (List Int)) (pi pa x : Int) (w : World) (hl : Lz w a L) (hlb : Lb L) (hn : L.length = n) (_hnc : n ≤ cap) (_hcm : cap ≤ 9223372036854775807) (_h1 : (Lit.int .i64 pi).wf = true) (_h2 : (Lit.int .i64 pa).wf = true) (hx : (Lit.int .u8 x).wf = true) :
    Calls Try.prog 3 #[.slice a n cap, .int .i64 pi, .int .i64 pa, .int .u8 x] w fun en w' => en = .returned (.bool true) ∧ w.grownBy w' none := by
  have hxb := bounds_u8 hx
  have HL := hid_intro hl
  clear hl
  go_enter Try.func3, Try.ntmps3
  go_wp2_with fail
  refine (first5_any _).mono ?_
  rintro en w1 ⟨rfl, hg1⟩
  have G1 := hid_intro hg1
  clear hg1
  go_wp2_with fail
  refine (few_any a n cap L none 0 0 _ (HL.out.keptN G1.out) hn).mono ?_
  rintro en w1 ⟨rfl, rfl⟩
  cases hfw : fw L 0 with
  | false =>
    clear hfw
    go_wp2
    go_ret
    exact ⟨rfl, G1.out⟩
  | true =>
    have hp := fw_parts hfw
    have HKL : Hid (∀ x ∈ L, x.length ≤ 4096) := hp.2.2
    have HKM : Hid (∀ x ∈ L, x.length ≤ 1000000) := fun x hx => by have := hp.2.2 x hx; omega
    have hn2 : n ≤ 2000 := by omega
    clear hfw hp
    go_wp2_with fail
    refine (lent_any a n cap L _ (HL.out.keptN G1.out) hn (by omega) HKM.out).mono ?_
    rintro en w2 ⟨⟨A, c, h, gs, xs, rfl, hln⟩, hg2⟩
    have N2 := hid_intro hln
    have G2 := hid_intro (grown_trans G1.out hg2)
    have hA0 : w.heap.size ≤ w1.heap.size := G1.out.size
    have HG12 := hid_intro hg2
    clear hln hg2
    have hcl := N2.out.cap_le
    go_wp2_with fail
    refine (bsize_any (some ⟨A, 0, none⟩) n c L _ N2.out.lz hn (by omega) (by omega) (by omega) HKM.out).mono ?_
    rintro en w3 ⟨rfl, hg3⟩
    have N3 := hid_intro (N2.out.keptN hg3)
    have G3 := hid_intro (grown_trans G2.out hg3)
    clear hg3 N2 G2
    go_wp2_with fail
    refine (refSize5_any a n cap L _ (HL.out.keptN G3.out) hn (by omega) HKM.out).mono ?_
    rintro en w4 ⟨rfl, hq4⟩
    have N4 := hid_intro (N3.out.keptN (hq4.grown none))
    have G4 := hid_intro (grown_trans G3.out (hq4.grown none))
    clear hq4 N3 G3
    generalize bsize L = sz at *
    go_wp2_with fail
    refine (stays_any w1.heap.size A c h gs xs a n cap L _ N4.out (HL.out.keptN G4.out) hlb hn (by omega)).mono ?_
    rintro en w5 ⟨rfl, hg5⟩
    have N5 := hid_intro (N4.out.keptN hg5)
    have G5 := hid_intro (grown_trans G4.out hg5)
    clear hg5 N4 G4
    by_cases hn0 : n = 0
    · have hn1 : (n : Int) = 0 := by omega
      go_wp2
      go_ret
      exact ⟨rfl, G5.out⟩
    · obtain ⟨i, y, hi, hy, hy1, hy2, hi2⟩ := placeN pi n (by omega)
      have g0 : (0 : Int) ≤ (i : Int) := by omega
      have g1 : (i : Int) < (n : Int) := by omega
      have g2 : ¬ (n : Int) = 0 := by omega
      have cl := N5.out.cell i (by omega)
      have HKi := hid_intro (HKL.out _ (lget_mem (show i < L.length by omega)))
      obtain ⟨k, hk⟩ : ∃ k, (L.getD i []).length = k := ⟨_, rfl⟩
      obtain ⟨g, hgg⟩ : ∃ g, (gs.getD i (0, 0)).1 = g := ⟨_, rfl⟩
      obtain ⟨gc, hgc⟩ : ∃ gc, (gs.getD i (0, 0)).2 = gc := ⟨_, rfl⟩
      rw [hk, hgg, hgc] at cl
      have HKK := hid_intro hk
      have HGG := hid_intro hgg
      have HGC := hid_intro hgc
      clear hk hgg hgc
      go_upto_if 65 with fail
      go_cut [] (fun wx => ∃ L', Lz wx (some ⟨A, 0, none⟩) L' ∧ L'.length = n ∧ (∀ s ∈ L', s.length ≤ 4096) ∧ w.grownBy wx none)
      case first =>
        have hkk := HKi.out
        rw [HKK.out] at hkk
        obtain ⟨_, hOw, hgb⟩ := N5.out.lp.el i (by omega)
        rw [HGG.out, HGC.out] at hOw
        rw [HGG.out] at hgb
        have hk := HKK.out
        by_cases hk0 : 0 < k
        · obtain ⟨j, z, hj, hz, hz1, hz2, hj2⟩ := placeN pa k hk0
          have cb := hOw.cell (j := j) (by rw [List.length_append]; omega)
          have cf := hOw.frozen j
          have hby : 0 ≤ (L.getD i [] ++ [201, 202]).getD j 0 ∧ (L.getD i [] ++ [201, 202]).getD j 0 ≤ 255 := ((hlb _ (lget_mem (show i < L.length by omega))).app (btl [201, 202] rfl)).getD j
          have hxy := xor_byte5 hby hxb
          have hset := N5.out.set i (by omega) j (by omega) (bits .xor .u8 ((L.getD i [] ++ [201, 202]).getD j 0) x)
          rw [HGG.out] at hset
          have HSET := hid_intro hset
          clear hset
          have hw1 : IntKind.i64.wrap (z + (k : Int)) = z + (k : Int) := by simp [IntKind.wrap, IntKind.bits, IntKind.signed]; omega
          have HLL : Hid (∀ s ∈ L.set i ((L.getD i []).set j (bits .xor .u8 ((L.getD i [] ++ [201, 202]).getD j 0) x)), s.length ≤ 4096) := mem_set5 HKL.out (by rw [List.length_set]; omega)
          have HLN : Hid ((L.set i ((L.getD i []).set j (bits .xor .u8 ((L.getD i [] ++ [201, 202]).getD j 0) x))).length = n) := by show _ = _; rw [List.length_set]; exact hn
          have HGR := hid_intro (grown_new G5.out (grown_cell w5 g j (.int .u8 (bits .xor .u8 ((L.getD i [] ++ [201, 202]).getD j 0) x))) (Nat.le_trans hA0 hgb))
          generalize L.set i ((L.getD i []).set j (bits .xor .u8 ((L.getD i [] ++ [201, 202]).getD j 0) x)) = L' at *
          generalize (L.getD i [] ++ [201, 202]).getD j 0 = by0 at *
          have g3 : (0 : Int) < (k : Int) := by omega
          have g4 : ¬ (k : Int) = 0 := by omega
          have g5 : (0 : Int) ≤ (j : Int) := by omega
          have g6 : (j : Int) < (k : Int) := by omega
          clear hOw hk
          go_wp2_with fail
          go_region
          all_goals
            go_wp2_with fail
            go_meet
            exact ⟨L', HSET.out.heap rfl, HLN.out, HLL.out, grown_trans HGR.out ((Qt.refl _).drew.grown none)⟩
        · have g3 : ¬ (0 : Int) < (k : Int) := by omega
          clear hOw
          go_wp2_with fail
          go_meet
          exact ⟨L, N5.out.lz, hn, HKL.out, G5.out⟩
      case rest =>
      obtain ⟨L', h1, h2, h3, h4⟩ := hcut
      have H1 := hid_intro h1
      have H3 : Hid (∀ s ∈ L', s.length ≤ 1000000) := fun s hs => by have := h3 s hs; omega
      have H3' : Hid (∀ s ∈ L', s.length ≤ 20000) := fun s hs => by have := h3 s hs; omega
      have H4 := hid_intro h4
      clear h1 h3 h4 N5 G5 cl
      go_wp2_with fail
      refine (refLists_any (some ⟨A, 0, none⟩) n c L' _ H1.out h2 (by omega) H3'.out).mono ?_
      rintro en w7 ⟨⟨a7, c7, rfl, hl7, hc7, hc8⟩, hg7⟩
      have L7 := hid_intro hl7
      have M7 := hid_intro (H1.out.keptN hg7)
      have G7 := hid_intro (grown_trans H4.out hg7)
      clear hl7 hg7 H1 H4
      go_wp2_with fail
      refine (bsize_any (some ⟨A, 0, none⟩) n c L' _ M7.out h2 (by omega) (by omega) (by omega) H3.out).mono ?_
      rintro en w8 ⟨rfl, hg8⟩
      have L8 := hid_intro (L7.out.keptN hg8)
      have G8 := hid_intro (grown_trans G7.out hg8)
      clear hg8 L7 M7 G7
      go_wp2_with fail
      refine (refSize5_any a7 n c7 L' _ L8.out h2 (by omega) H3.out).mono ?_
      rintro en w9 ⟨rfl, hq9⟩
      have G9 := hid_intro (grown_trans G8.out (hq9.grown none))
      clear hq9 G8 L8
      generalize bsize L' = sz' at *
      go_wp2
      go_ret
      exact ⟨rfl, G9.out⟩
end Go.Proofs.Ytomknmboapgmbaa
