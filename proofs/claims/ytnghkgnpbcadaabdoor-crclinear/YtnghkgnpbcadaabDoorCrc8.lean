import Derived.Test.YtnghkgnpbcadaabDoorCrc4
namespace Go.Proofs.YtnghkgnpbcadaabDoor
open Go.RowKit

/-- The bytes, cut or with zeros behind them, N in all. -/
def padL (zs : List Int) (N : Nat) : List Int := zs.take N ++ (List.replicate N 0).drop (zs.take N).length
theorem padL_len (zs : List Int) (N : Nat) : (padL zs N).length = N := by
  unfold padL
  rw [List.length_append, List.length_drop, List.length_replicate, List.length_take]
  omega
theorem padL_bt {zs : List Int} (h : Bt zs) (N : Nat) : Bt (padL zs N) := (h.take N).app ((bt_zeros N).drop _)

set_option maxHeartbeats 1000000 in
theorem padded_any (ao : Option Addr) (n cap N : Nat) (zs : List Int) (w : World) (hb : Byt w ao n cap zs) (hN : N ≤ 5000) :
    Calls Tryd.prog 8 #[.slice ao n cap, .int .i64 N] w fun e w' =>
      e = .returned (.slice (some ⟨w.heap.size, 0, none⟩) N N) ∧ Rw w' w.heap.size (padL zs N) ∧ w.grownBy w' none := by
  obtain ⟨i0, hi, hz0, hz1, hz2⟩ := info_parts info_u8
  have HB := hid_intro hb
  clear hb
  go_enter Tryd.func8, Tryd.ntmps8
  go_wp2_with (at_make; refine wpList_make_full _ rfl _ _ 22 rfl w.heap.size 5 i0 (.int .u8 0) 1 Tryd.underlying22 hi hz0 hz1 _ _ _ _ N rfl rfl rfl rfl (by rw [hz2]; omega) (by unfold maxLen; omega) (Nat.le_refl _) ?_)
  intro w0 hown0 hg0
  obtain ⟨X, hX⟩ : ∃ X, X = (zs.take N).map (Value.int .u8) := ⟨_, rfl⟩
  obtain ⟨Z, hZ⟩ : ∃ Z, Z = (List.replicate N (0 : Int)).map (Value.int .u8) := ⟨_, rfl⟩
  have hXl : X.length = Nat.min n N := by rw [hX, List.length_map, List.length_take, HB.out.len]; exact Nat.min_comm _ _
  have hZl : Z.length = N := by rw [hZ, List.length_map, List.length_replicate]
  have hX1 : ∀ v ∈ X, v.oneCell' = true := by rw [hX]; exact ints_oneCell _ _
  have R0' : Hid (w0.heap[w.heap.size]? = some (.cells Z.toArray 5 (0, 0))) := by
    show _ = _
    have h1 : w0.ownsRow w.heap.size 5 1 (.slice (some ⟨w.heap.size, 0, none⟩) N N) N ((List.replicate N (0 : Int)).map (Value.int .u8)) := by rw [← made]; simpa using hown0
    rw [hZ]; exact Rw.of_owns h1
  have hc0 : Hid (0 < X.length → ∃ ad, ao = some ad ∧ ∀ j v, X[j]? = some v → w0.cell? (ad.add j) = some v) := by
    intro hpos
    cases ao with
    | none => have := (HB.out.nil rfl).1; rw [hXl, this] at hpos; simp at hpos
    | some ad =>
      refine ⟨ad, rfl, fun j v hv => ?_⟩
      rw [hX, List.map_take, List.getElem?_take] at hv
      split at hv
      · exact (HB.out.keptN hg0).cells ad rfl j v hv
      · cases hv
  have HX := hid_intro hX
  have HZ := hid_intro hZ
  have G0 := hid_intro hg0
  have hXN : X.length ≤ N := by rw [hXl]; exact Nat.min_le_right _ _
  clear hX hZ hown0 hg0 HB
  go_wp2_with (refine wpList_copy_splice rfl _ _ 22 22 rfl 5 Tryd.underlying22 (by rw [hi]; exact congrArg some hz1) _ _ _ _ _ _ rfl rfl w.heap.size 0 Z 5 R0'.out X hXl (fun h => ⟨rfl, hc0.out h⟩) (by omega) hX1 w.heap.size w (Below_of' G0.out) (Nat.le_refl _) ?_)
  intro w1 HR1 hB1
  go_wp2
  go_ret
  refine ⟨rfl, ?_, grown_of_below hB1⟩
  have e : splice Z 0 X = (padL zs N).map (Value.int .u8) := by
    unfold splice padL
    rw [List.take_zero, List.nil_append, Nat.zero_add, List.map_append, ← HX.out, HZ.out, ← List.map_drop, HX.out, List.length_map]
  unfold Rw
  rw [← e]
  exact HR1.out

theorem low4_len (s : Nat) : (low4 s).length = 4 := rfl
theorem Rw.pair {w : World} {g : Nat} {zs ts : List Int} (h : Rw w g (zs ++ ts)) (n cap : Nat) (hn : zs.length = n) : Byt w (some ⟨g, 0, none⟩) n cap zs := by
  have := h.byt 0 n cap (by rw [List.length_append]; omega)
  rwa [List.drop_zero, List.take_left' hn] at this

set_option maxHeartbeats 4000000 in
theorem back_calls (ao bo : Option Addr) (n m ca cb : Nat) (za zb : List Int) (w : World) (ha : Byt w ao n ca za) (hb : Byt w bo m cb zb) (ba : Bt za) (bb : Bt zb) (ht : Tab w) :
    Calls Tryd.prog 3 #[.slice ao n ca, .slice bo m cb] w fun e w' => e = .returned (.bool true) ∧ w.grownBy w' none := by
  have HA := hid_intro ha
  have HB := hid_intro hb
  have HT := hid_intro ht
  clear ha hb ht
  have b1 : Bt (padL za 4092) := padL_bt ba 4092
  have l1 : (padL za 4092).length = 4092 := padL_len za 4092
  have b2 : Bt (padL zb 4096) := padL_bt bb 4096
  have l2 : (padL zb 4096).length = 4096 := padL_len zb 4096
  go_enter Tryd.func3, Tryd.ntmps3
  go_wp2_with fail
  refine (first2_any w HT.out).mono ?_
  rintro e w1 ⟨rfl, hg1⟩
  have G1 := hid_intro hg1
  clear hg1
  go_wp2_with fail
  refine (padded_any ao n ca 4092 za w1 (HA.out.keptN G1.out) (by omega)).mono ?_
  rintro e w2 ⟨rfl, hr2, hg2⟩
  have R2 := hid_intro hr2
  have G2 := hid_intro (grown_trans G1.out hg2)
  clear hr2 hg2 G1
  generalize padL za 4092 = ys at *
  go_wp2_with fail
  refine (seal_ok _ 4092 ys w2 (R2.out.all 4092 4092 l1.symm) b1 (HT.out.keptN G2.out)).mono ?_
  rintro e w3 ⟨rfl, hr3, hg3⟩
  have R3 := hid_intro hr3
  have S3 := hid_intro (R2.out.keptN hg3)
  have G3 := hid_intro (grown_trans G2.out hg3)
  clear hr3 hg3 G2 R2
  go_wp2_with fail
  refine (num2_any _ _).mono ?_
  rintro e w4 ⟨rfl, rfl⟩
  go_wp2_with fail
  refine (sum_any _ 4092 4092 ys w4 (S3.out.all 4092 4092 l1.symm) b1 (HT.out.keptN G3.out) (by omega)).mono ?_
  rintro e w5 ⟨rfl, rfl⟩
  have hl := upd_lt 0 ys
  obtain ⟨s, hs⟩ : ∃ s, s = upd 0 ys := ⟨_, rfl⟩
  have HS := hid_intro hs
  rw [← hs] at R3 hl ⊢
  clear hs
  have q0 : w5.cell? ⟨w2.heap.size, 4092, none⟩ = some (.int .u8 ((s : Int) % 256)) := by
    rw [R3.out.cell 4092 (by rw [List.length_append, l1, low4_len]; decide)]; simp [List.getD, l1, low4]
  have q1 : w5.cell? ⟨w2.heap.size, 4093, none⟩ = some (.int .u8 ((s : Int) / 256 % 256)) := by
    rw [R3.out.cell 4093 (by rw [List.length_append, l1, low4_len]; decide)]; simp [List.getD, l1, low4]
  have q2 : w5.cell? ⟨w2.heap.size, 4094, none⟩ = some (.int .u8 ((s : Int) / 65536 % 256)) := by
    rw [R3.out.cell 4094 (by rw [List.length_append, l1, low4_len]; decide)]; simp [List.getD, l1, low4]
  have q3 : w5.cell? ⟨w2.heap.size, 4095, none⟩ = some (.int .u8 ((s : Int) / 16777216)) := by
    rw [R3.out.cell 4095 (by rw [List.length_append, l1, low4_len]; decide)]
    have : (s : Int) / 16777216 % 256 = (s : Int) / 16777216 := by omega
    simp [List.getD, l1, low4, this]
  have l3 : (ys ++ low4 s).length = 4096 := by rw [List.length_append, l1]; rfl
  have t3 : (ys ++ low4 s).take 4092 = ys := List.take_left' l1
  have d3 : (ys ++ low4 s).drop 4092 = low4 s := List.drop_left' l1
  go_wp2_with fail
  refine (open_yes _ 4096 (ys ++ low4 s) w5 (R3.out.all 4096 4096 l3.symm) (b1.app (bt_low4 s)) (HT.out.keptN G3.out) (by omega) (by rw [d3, t3, HS.out])).mono ?_
  rintro e w6 ⟨g6, rfl, hr6, hs6, hg6⟩
  rw [t3] at hr6
  have R6 := hid_intro hr6
  have P6 := hid_intro (R3.out.keptN hg6)
  have S6 := hid_intro (S3.out.keptN hg6)
  have G6 := hid_intro (grown_trans G3.out hg6)
  clear hr6 hg6 G3 R3 S3 q0 q1 q2 q3
  go_wp2_with fail
  refine (same_yes _ _ 4092 4092 4092 4092 ys ys w6 (R6.out.all 4092 4092 l1.symm) (S6.out.all 4092 4092 l1.symm) rfl).mono ?_
  rintro e w7 ⟨rfl, rfl⟩
  go_wp2_with fail
  refine (same_yes _ _ 4092 4092 4096 4092 ys ys w7 (P6.out.pair 4092 4096 l1) (S6.out.all 4092 4092 l1.symm) rfl).mono ?_
  rintro e w8 ⟨rfl, rfl⟩
  clear R6 P6 S6
  go_wp2_with fail
  refine (num2_any _ _).mono ?_
  rintro e w9 ⟨rfl, rfl⟩
  go_wp2_with fail
  refine (padded_any bo m cb 4096 zb w9 (HB.out.keptN G6.out) (by omega)).mono ?_
  rintro e w10 ⟨rfl, hr10, hg10⟩
  have R10 := hid_intro hr10
  have G10 := hid_intro (grown_trans G6.out hg10)
  clear hr10 hg10 G6
  generalize padL zb 4096 = qs at *
  by_cases hx : qs.drop 4092 = low4 (upd 0 (qs.take 4092))
  · go_wp2_with fail
    refine (open_yes _ 4096 qs w10 (R10.out.all 4096 4096 l2.symm) b2 (HT.out.keptN G10.out) (by omega) hx).mono ?_
    rintro e w11 ⟨g11, rfl, hr11, hs11, hg11⟩
    have R11 := hid_intro hr11
    have Q11 := hid_intro (R10.out.keptN hg11)
    have G11 := hid_intro (grown_trans G10.out hg11)
    have ltk : (qs.take 4092).length = 4092 := by rw [List.length_take, l2]; rfl
    have hcat : qs.take 4092 ++ low4 (upd 0 (qs.take 4092)) = qs := by rw [← hx]; exact List.take_append_drop 4092 qs
    have HCAT := hid_intro hcat
    clear hr11 hg11 G10 R10 hx hcat
    go_wp2_with fail
    refine (num2_any _ _).mono ?_
    rintro e w12 ⟨rfl, rfl⟩
    go_wp2_with fail
    refine (seal_ok _ 4092 (qs.take 4092) w12 (R11.out.all 4092 4092 ltk.symm) (b2.take 4092) (HT.out.keptN G11.out)).mono ?_
    rintro e w13 ⟨rfl, hr13, hg13⟩
    rw [HCAT.out] at hr13
    have R13 := hid_intro hr13
    have Q13 := hid_intro (Q11.out.keptN hg13)
    have G13 := hid_intro (grown_trans G11.out hg13)
    clear hr13 hg13 R11 Q11 G11 HCAT ltk
    go_wp2_with fail
    refine (num2_any _ _).mono ?_
    rintro e w14 ⟨rfl, rfl⟩
    go_wp2_with fail
    refine (same_yes _ _ 4096 4096 4096 4096 qs qs w14 (R13.out.all 4096 4096 l2.symm) (Q13.out.all 4096 4096 l2.symm) rfl).mono ?_
    rintro e w15 ⟨rfl, rfl⟩
    go_wp2
    go_ret
    exact ⟨rfl, G13.out⟩
  · go_wp2_with fail
    refine (open_no _ 4096 qs w10 (R10.out.all 4096 4096 l2.symm) b2 (HT.out.keptN G10.out) (by omega) hx).mono ?_
    rintro e w11 ⟨rfl, hg11⟩
    have G11 := hid_intro (grown_trans G10.out hg11)
    clear hg11 G10 R10 hx
    go_wp2_with fail
    refine (num2_any _ _).mono ?_
    rintro e w12 ⟨rfl, rfl⟩
    go_wp2_with fail
    refine (num2_any _ _).mono ?_
    rintro e w13 ⟨rfl, rfl⟩
    go_wp2
    go_ret
    exact ⟨rfl, G11.out⟩
end Go.Proofs.YtnghkgnpbcadaabDoor
