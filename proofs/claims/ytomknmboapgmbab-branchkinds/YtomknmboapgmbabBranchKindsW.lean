import Derived.Test.YtomknmboapgmbabBrIn
namespace Go.Proofs.Ytomknmboapgmbab
open Go.RowKit

theorem Rw.set {w : World} {g : Nat} {zs : List Int} (h : Rw w g zs) (j : Nat) (z : Int) : Rw (w.setCell ⟨g, j, none⟩ (.int .u8 z)) g (zs.set j z) := by
  unfold Rw
  rw [heap_setCell_same w g j _ _ (.int .u8 z) h]
  simp [List.map_set]
theorem Bt.set4 {zs : List Int} (h : Bt zs) (j : Nat) (z : Int) (hz : 0 ≤ z ∧ z ≤ 255) : Bt (zs.set j z) := by
  intro y hy
  rcases List.mem_or_eq_of_mem_set hy with h1 | h1
  · exact h y h1
  · subst h1; exact hz
theorem Rw.owns {w : World} {g n base : Nat} {zs : List Int} (h : Rw w g zs) (hn : zs.length = n) (hb : base ≤ g) (hm : n ≤ 65536) : w.ownsRow base 5 1 (.slice (some ⟨g, 0, none⟩) n n) n (zs.map (Value.int .u8)) :=
  ⟨by rw [List.length_map]; omega, .inr ⟨g, n, (zs.map (Value.int .u8)).toArray, rfl, hb, h, Nat.le_refl _, by unfold maxLen; omega, by simp [hn], by show (zs.map (Value.int .u8)).take (n * 1) = _; exact List.take_of_length_le (by rw [List.length_map]; omega)⟩⟩
theorem good_first {zs : List Int} {lv : Int} {k : Kd} {M : List Sk} (h : BGood zs lv k M) : zs.getD 0 0 = 2 := by
  rw [← h.2]
  unfold bbody bused bhead
  rfl

set_option maxHeartbeats 4000000 in
set_option maxRecDepth 100000 in
theorem branchKinds_walk (lv : Int) (a : Option Addr) (n cap : Nat) (L : List (List Int)) (b : Option Addr) (m cap2 : Nat) (K : List Kd) (x : Int) (w : World) (_hlv : (Lit.int .i64 lv).wf = true) (hl : Lz w a L) (hlb : Lb L) (hn : L.length = n) (hnc : n ≤ cap) (hcm : cap ≤ 9223372036854775807) (hk : Kl w b K) (_hkb : Kb K) (hm : K.length = m) (_hmc : m ≤ cap2) (_hcm2 : cap2 ≤ 9223372036854775807) (hx : (Lit.int .u8 x).wf = true) :
    Calls Try.prog 3 #[.int .i64 lv, .slice a n cap, .slice b m cap2, .int .u8 x] w fun en w' => en = .returned (.bool true) ∧ w.grownBy w' none := by
  have hxb := bounds_u8 hx
  have HL := hid_intro hl
  have HK := hid_intro hk
  clear hl hk
  go_enter Try.func3, Try.ntmps3
  go_wp2_with fail
  refine (first5_any _).mono ?_
  rintro en w1 ⟨rfl, hg1⟩
  have G1 := hid_intro hg1
  clear hg1
  go_wp2_with fail
  refine (few_any a n cap L b m cap2 _ (HL.out.keptN G1.out) hn).mono ?_
  rintro en w1 ⟨rfl, rfl⟩
  cases hfw : fw L m with
  | false =>
    clear hfw
    go_wp2
    go_ret
    exact ⟨rfl, G1.out⟩
  | true =>
    have hp := fw_parts hfw
    have hn2 : n ≤ 2000 := by omega
    have hm2 : m ≤ 2000 := hp.2.1
    clear hfw hp
    by_cases hx2 : x = 2
    · subst hx2
      go_wp2
      go_ret
      exact ⟨rfl, G1.out⟩
    · have hx3 : (x == 2) = false := beq_eq_false_iff_ne.2 hx2
      go_wp2_with fail
      refine (bencode_any lv a n cap L b m cap2 K _ (HL.out.keptN G1.out) hlb hn (by omega) hnc hcm (HK.out.keptN G1.out) hm (by omega)).mono ?_
      rintro en w2 ⟨⟨co, j, cc, e, ys, rfl, hb2, hbe, hj4, hj5, hj6, hgd⟩, hg2⟩
      have G2 := hid_intro (grown_trans G1.out hg2)
      have hyb := hbe.bt hlb
      clear hg2 G1
      by_cases he : e = 0
      · obtain ⟨G, rfl, hr2, hG, rfl, rfl⟩ := hgd he
        have hyl := hbe.len he
        subst he
        have HYB := hid_intro hyb
        have B2 := hid_intro hb2
        clear hr2 hb2 hyb hgd hbe
        go_wp2_with fail
        refine (num5_any _ _).mono ?_
        rintro en w2 ⟨rfl, rfl⟩
        go_wp2_with fail
        refine (refBytes_any _ 4092 4092 ys _ B2.out (by omega)).mono ?_
        rintro en w3 ⟨rfl, hown3, hg3, hs3⟩
        have R3 := hid_intro (Rw.of_owns hown3)
        have G3 := hid_intro (grown_trans G2.out hg3)
        have hgl : w.heap.size ≤ w2.heap.size := G2.out.size
        clear hown3 hg3 hs3 B2 G2
        generalize w2.heap.size = g at *
        have c0 := R3.out.cell 0 (by omega)
        have f0 : w3.frozen? ⟨g, 0, none⟩ = false := frozen_of_row w3 g 0 _ _ R3.out
        have R4 := hid_intro (R3.out.set 0 x)
        have G4 := hid_intro (grown_new G3.out (grown_cell w3 g 0 (.int .u8 x)) hgl)
        have T4 := hid_intro (HYB.out.set4 0 x hxb)
        have HLN : Hid ((ys.set 0 x).length = 4092) := by show _ = _; rw [List.length_set]; exact hyl
        have HNG : Hid (∀ lv k M, ¬ BGood (ys.set 0 x) lv k M) := by
          intro lv' k' M' h
          have h1 := good_first h
          have h2 : (ys.set 0 x).getD 0 0 = x := by simp only [List.getD, List.getElem?_set_self (show 0 < ys.length by omega), Option.getD_some]
          exact hx2 (h2.symm.trans h1)
        generalize ys.set 0 x = zs at *
        clear R3 G3 HYB hyl
        go_wp2_with fail
        clear c0 f0
        generalize w3.setCell ⟨g, 0, none⟩ (.int .u8 x) = w4 at *
        refine (bdecode_any _ 4092 4092 zs _ (R4.out.all 4092 4092 HLN.out.symm) T4.out).mono ?_
        rintro en w5 ⟨⟨lv5, a5, n5, c5, b5, m5, d5, e5, L5, K5, rfl, hdec, _⟩, hg5⟩
        obtain rfl : e5 = 50 := by
          rcases hdec.code with h | h
          · obtain ⟨_, k9, M9, _, _, h3⟩ := hdec.good h
            exact absurd h3 (HNG.out _ _ _)
          · exact h
        have R5 := hid_intro (R4.out.keptN hg5)
        have G5 := hid_intro (grown_trans G4.out hg5)
        clear hdec hg5 R4 G4 HNG
        go_wp2_with fail
        refine (bdecode_len _ 4091 4092 _ (by omega)).mono ?_
        rintro en w5 ⟨rfl, rfl⟩
        have hov := (R5.out.owns (base := w.heap.size) HLN.out hgl (by omega)).alloc (.cells #[.int .u8 0] 5)
        have HOV := hid_intro hov
        have B6 := hid_intro (Byt.lit w5 5 #[.int .u8 0] [0] 1 rfl rfl)
        have hszl := G5.out.size
        clear hov
        go_wp2_with (at_builtin; refine wpList_append_byt rfl _ _ rfl w.heap.size _ 4092 zs rfl HOV.out (some ⟨w5.heap.size, 0, none⟩) 1 1 [0] rfl B6.out (by omega) (by simp; omega) ?_)
        intro v' w6 ho hg6
        have G6 := hid_intro (grown_own G5.out (R5.out.owns (base := w.heap.size) HLN.out hgl (by omega)) (Nat.le_refl _) hg6)
        obtain ⟨ao6, c6, rfl, hb6⟩ := owns_any (zs := zs ++ [0]) (by simpa using ho)
        clear ho hg6 hb6 HOV B6 R5 G5
        go_wp2_with fail
        refine (bdecode_len _ 4093 c6 _ (by omega)).mono ?_
        rintro en w6 ⟨rfl, rfl⟩
        go_wp2_with fail
        refine (num5_any _ _).mono ?_
        rintro en w6 ⟨rfl, rfl⟩
        go_wp2_with fail
        refine (num5_any _ _).mono ?_
        rintro en w6 ⟨rfl, rfl⟩
        go_wp2_with fail
        refine (num5_any _ _).mono ?_
        rintro en w6 ⟨rfl, rfl⟩
        go_wp2
        go_ret
        exact ⟨rfl, G6.out⟩
      · obtain ⟨_, rfl⟩ := hbe.bad he
        obtain rfl : j = 0 := by simpa using hb2.len.symm
        have hwb : (e != 0) = true := bne_iff_ne.2 he
        clear hbe hgd hb2
        go_wp2_with fail
        refine (num5_any _ _).mono ?_
        rintro en w2 ⟨rfl, rfl⟩
        go_wp2
        go_ret
        exact ⟨rfl, G2.out⟩
end Go.Proofs.Ytomknmboapgmbab
