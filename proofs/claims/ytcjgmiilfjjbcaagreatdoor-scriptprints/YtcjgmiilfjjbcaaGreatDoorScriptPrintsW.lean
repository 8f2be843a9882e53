import Derived.Test.YtcjgmiilfjjbcaaGreatDoorGrpW
namespace Go.Proofs.YtcjgmiilfjjbcaaGreatDoor
open Go.RowKit

set_option maxHeartbeats 16000000 in
set_option maxRecDepth 100000 in
theorem scriptPrints_walk (x : Int) (l : List Opq) (ao : Option Addr) (n cap : Nat) (ii : Int) (xb : Int) (w : World) (hL : Lv w) (hR : OpsR w ao l) (hl : l.length = n) (hx : 0 ≤ xb ∧ xb ≤ 255) : Calls Tryz.prog 3 #[.agg #[.int .i64 x, .slice ao n cap], .int .i64 ii, .int .u8 xb] w fun en w' => en = .returned (.bool true) ∧ w.grownBy w' none := by
  have HL : Hid (Lv w) := hL
  have HR := hid_intro hR
  have HN := hid_intro hl
  have HBT := hid_intro hR.bts
  have g1 := World.grownBy_alloc w (.cells #[.int .i64 x, .slice ao n cap] 24) none
  have X1 := hid_intro (heap_at0S w #[.int .i64 x, .slice ao n cap] 24)
  have G1 := hid_intro g1
  have HF := hid_intro (first23_any _ (hL.keptN g1))
  clear hL hR hl g1
  go_enter Tryz.func3, Tryz.ntmps3
  go_upto_region 1 with fail
  have hS0 : w.heap.size < (w.alloc (.cells #[.int .i64 x, .slice ao n cap] 24)).heap.size := by simp
  generalize w.alloc (.cells #[.int .i64 x, .slice ao n cap] 24) = w1 at *
  have hW0 : w.heap.size ≤ w.heap.size := Nat.le_refl _
  generalize w.heap.size = S0 at X1 hS0 ⊢
  go_wp2_with fail
  refine HF.out.mono ?_
  rintro en w2 ⟨rfl, hg2⟩
  have G2 := hid_intro (grown_trans G1.out hg2)
  have X2 := hid_intro (heap_keptS X1.out hg2)
  have R2 := hid_intro (HR.out.keptN G2.out)
  have c0 := cell_heapS (i := 0) X2.out rfl
  have c1 := cell_heapS (i := 1) X2.out rfl
  clear hg2 X1 G1 HF
  have HFI := hid_intro (fits23 x ao n cap l w2 R2.out HN.out)
  go_wp2_with fail
  refine HFI.out.mono ?_
  rintro en w3 ⟨⟨b, rfl, hb⟩, hg3⟩
  have G3 := hid_intro (grown_trans G2.out hg3)
  have X3 := hid_intro (heap_keptS X2.out hg3)
  clear hg3 c0 c1 X2 G2 R2 HFI
  have c0 := cell_heapS (i := 0) X3.out rfl
  have c1 := cell_heapS (i := 1) X3.out rfl
  cases b with
  | false =>
    clear hb
    go_wp2
    go_ret
    exact ⟨rfl, G3.out⟩
  | true =>
    have HFT := hid_intro (hb rfl)
    have hn : n ≤ 3000 := by have := HFT.out.len; have := HN.out; omega
    clear hb
    go_wp2_with fail
    refine (prints23 x l ao n cap w3 (HL.out.keptN G3.out) (HR.out.keptN G3.out) HN.out HFT.out).mono ?_
    rintro en w4 ⟨rfl, hg4⟩
    have G4 := hid_intro (grown_trans G3.out hg4)
    have X4 := hid_intro (heap_keptS X3.out hg4)
    clear hg4 c0 c1 X3 G3
    have c0 := cell_heapS (i := 0) X4.out rfl
    have c1 := cell_heapS (i := 1) X4.out rfl
    by_cases hz : n = 0
    · subst hz
      go_wp2
      go_ret
      exact ⟨rfl, G4.out⟩
    · have hz0 : 0 < n := by omega
      have hz' : ¬ (n : Int) = 0 := by omega
      go_wp2_with fail
      refine (lent23 ao n cap l w4 (HR.out.keptN G4.out) HN.out HFT.out).mono ?_
      rintro en w5 ⟨M, mc, cur, bd, rfl, hg5, hN5⟩
      have N5 := hid_intro hN5
      have X5 := hid_intro (heap_keptS X4.out hg5)
      have G5 := hid_intro (grown_trans G4.out hg5)
      clear hg5 hN5 c0 c1
      have c0 := cell_heapS (i := 0) X5.out rfl
      have c1 := cell_heapS (i := 1) X5.out rfl
      go_wp2_with fail
      have hP := print_any x l (some ⟨M, 0, none⟩) mc w5 (HL.out.keptN G5.out) (N5.out.opsR HN.out HBT.out) HFT.out.fnw23 HFT.out.szs23 (by have := HN.out; omega)
      rw [HN.out] at hP
      refine hP.mono ?_
      clear hP
      intro en w6 hp6
      obtain ⟨rfl, hg6⟩ := hp6.val
      have N6 := hid_intro (N5.out.keptN hg6)
      have X6 := hid_intro (heap_keptS X5.out hg6)
      have G6 := hid_intro (grown_trans G5.out hg6)
      clear hg6 hp6 c0 c1 X5 G5 N5
      obtain ⟨j, y, hjn, hy1, hy2, hy3, hy4⟩ := placeN23 ii n hz0
      obtain ⟨o, ho⟩ : ∃ o, l[j]? = some o := ⟨_, List.getElem?_eq_getElem (by have := HN.out; omega)⟩
      obtain ⟨i1, i2, i3, i4⟩ := N6.out.ints j o ho
      have dA : w6.cell? ⟨M, j * 8 + 1, none⟩ = _ := cell_heapS N6.out.row i2
      have fA := frozen_of_row w6 M (j * 8 + 1) _ _ N6.out.row
      have wy : IntKind.i64.wrap (y + (n : Int)) = y + (n : Int) := wrap_small _ (by omega) (by omega)
      have hj1 : (j : Int) < (n : Int) := by omega
      have hj0 : (0 : Int) ≤ (j : Int) := by omega
      go_upto_region 12 with fail
      have hMw : w4.heap.size ≤ M := N6.out.new
      have hSw : S0 < w4.heap.size := (Array.getElem?_eq_some_iff.1 X4.out).1
      have hww : w.heap.size ≤ w4.heap.size := G4.out.size
      have hg7 := grown_cell w6 M (j * 8 + 1) (.int .i64 (wrap64 (o.a + 1)))
      have N7 := hid_intro (N6.out.setA ho (wrap64 (o.a + 1)))
      have X7 := hid_intro ((hg7.block S0 (Array.getElem?_eq_some_iff.1 X6.out).1 (fun e => by have := Option.some.inj e; omega)).trans X6.out)
      have G7 := hid_intro (grown_new G6.out hg7 (by omega))
      generalize w6.setCell ⟨M, j * 8 + 1, none⟩ (.int .i64 (wrap64 (o.a + 1))) = w7 at *
      generalize cur.setIfInBounds (j * 8 + 1) (.int .i64 (wrap64 (o.a + 1))) = cur7 at *
      clear hg7 N6 X6 G6 dA fA i1 i2 i3 i4
      have hjl : j < l.length := by have := HN.out; omega
      have FT7 := hid_intro (HFT.out.set23 (o' := { o with a := wrap64 (o.a + 1) }) ho rfl rfl rfl rfl)
      have BT7 := hid_intro (HBT.out.set23 (j := j) (o' := { o with a := wrap64 (o.a + 1) }) (HBT.out j o ho))
      have ho7 : (l.set j { o with a := wrap64 (o.a + 1) })[j]? = some { o with a := wrap64 (o.a + 1) } := List.getElem?_set_self hjl
      have HL7 : Hid ((l.set j { o with a := wrap64 (o.a + 1) }).length = n) := by show _ = _; rw [List.length_set]; exact HN.out
      generalize l.set j { o with a := wrap64 (o.a + 1) } = l7 at *
      obtain ⟨o7, ho7e⟩ : ∃ o7 : Opq, o7 = { o with a := wrap64 (o.a + 1) } := ⟨_, rfl⟩
      rw [← ho7e] at ho7
      obtain ⟨g1, c1, g2, c2, g3, c3, g4, c4, q⟩ := N7.out.el j o7 hjn ho7
      have Q := hid_intro q
      have d4 : w7.cell? ⟨M, j * 8 + 4, none⟩ = _ := cell_heapS N7.out.row q.k1
      clear q ho ho7e
      obtain ⟨kn, hkn⟩ : ∃ k, o7.key.length = k := ⟨_, rfl⟩
      rw [hkn] at d4
      by_cases hk : 0 < kn
      · have hki : (0 : Int) < (kn : Int) := by omega
        obtain ⟨z, zs, hzs⟩ : ∃ z zs, o7.key = z :: zs := by
          cases e : o7.key with
          | nil => rw [e] at hkn; simp at hkn; omega
          | cons z zs => exact ⟨z, zs, rfl⟩
        have hzc : w7.cell? ⟨g1, 0, none⟩ = some (.int .u8 z) := by
          have := Q.out.o1.cell (j := 0) (by simp)
          rw [this, hzs]
          rfl
        have hzf := Q.out.o1.frozen 0
        have hzb : 0 ≤ z ∧ z ≤ 255 := (BT7.out j o7 ho7).1 z (by rw [hzs]; simp)
        have hxz := xor_byte23 hzb hx
        have wz : IntKind.u8.wrap (bits .xor .u8 z xb) = bits .xor .u8 z xb := wrap_u8_23 hxz
        go_upto_region 14 with fail
        have hg8 := grown_cell w7 g1 0 (.int .u8 (bits .xor .u8 z xb))
        have hgM : w.heap.size ≤ g1 := by
          have h1 := Q.out.b1
          have h2 := N7.out.bd_le (Nat.zero_le j) (by omega)
          have h3 := N7.out.lo
          omega
        have hgS : S0 ≠ g1 := by
          have h1 := Q.out.b1
          have h2 := N7.out.bd_le (Nat.zero_le j) (by omega)
          have h3 := N7.out.lo
          omega
        have N8 := hid_intro (N7.out.setK HL7.out ho7 Q.out (bits .xor .u8 z xb) (by omega))
        have X8 := hid_intro ((hg8.block S0 (Array.getElem?_eq_some_iff.1 X7.out).1 (fun e => hgS (Option.some.inj e))).trans X7.out)
        have G8 := hid_intro (grown_new G7.out hg8 hgM)
        have FT8 := hid_intro (FT7.out.set23 (o' := { o7 with key := o7.key.set 0 (bits .xor .u8 z xb) }) ho7 (by simp) rfl rfl rfl)
        have BT8 := hid_intro (BT7.out.set23 (j := j) (o' := { o7 with key := o7.key.set 0 (bits .xor .u8 z xb) }) ⟨(BT7.out j o7 ho7).1.set23 0 _ hxz, (BT7.out j o7 ho7).2.1, (BT7.out j o7 ho7).2.2⟩)
        have HL8 : Hid ((l7.set j { o7 with key := o7.key.set 0 (bits .xor .u8 z xb) }).length = n) := by show _ = _; rw [List.length_set]; exact HL7.out
        generalize w7.setCell ⟨g1, 0, none⟩ (.int .u8 (bits .xor .u8 z xb)) = w8 at *
        generalize l7.set j { o7 with key := o7.key.set 0 (bits .xor .u8 z xb) } = l8 at *
        clear hg8
        have c0 := cell_heapS (i := 0) X8.out rfl
        have c1 := cell_heapS (i := 1) X8.out rfl
        go_wp2_with fail
        refine (refOps23 (some ⟨M, 0, none⟩) n mc l8 w8 (N8.out.opsR HL8.out BT8.out) HL8.out FT8.out).mono ?_
        rintro en w9 ⟨a9, c9, xs9, rfl, ho9, hol9, hg9⟩
        rw [← HL8.out] at ho9
        have R9 := hid_intro (hol9.opsR ho9)
        have N9 := hid_intro (N8.out.keptN hg9)
        have X9 := hid_intro (heap_keptS X8.out hg9)
        have G9 := hid_intro (grown_trans G8.out hg9)
        clear ho9 hol9 hg9 c0 c1
        have c0 := cell_heapS (i := 0) X9.out rfl
        have c1 := cell_heapS (i := 1) X9.out rfl
        go_wp2_with fail
        have hP := print_any x l8 (some ⟨M, 0, none⟩) mc w9 (HL.out.keptN G9.out) (N9.out.opsR HL8.out BT8.out) FT8.out.fnw23 FT8.out.szs23 (by have := HL8.out; omega)
        rw [HL8.out] at hP
        refine hP.mono ?_
        clear hP
        intro en wa hpa
        obtain ⟨rfl, hga⟩ := hpa.val
        have Xa := hid_intro (heap_keptS X9.out hga)
        have Ra := hid_intro (R9.out.keptN hga)
        have Ga := hid_intro (grown_trans G9.out hga)
        clear hga hpa c0 c1
        have c0 := cell_heapS (i := 0) Xa.out rfl
        have c1 := cell_heapS (i := 1) Xa.out rfl
        go_wp2_with fail
        refine (refPrint23 x l8 a9 n c9 wa Ra.out HL8.out FT8.out).mono ?_
        intro en wb hpb
        obtain ⟨rfl, hgb⟩ := hpb.val
        have Gb := hid_intro (grown_trans Ga.out hgb)
        clear hgb hpb c0 c1
        generalize tstr (prv (prt x l8)).1 = tt at *
        generalize (prv (prt x l8)).2 = ee at *
        go_wp2_with (go_at_call 11; refine (num23_any _ _).mono ?_; rintro en wz ⟨rfl, rfl⟩)
        go_wp2
        go_ret
        exact ⟨rfl, Gb.out⟩
      · have hki : ¬ (0 : Int) < (kn : Int) := by omega
        go_upto_region 14 with fail
        have c0 := cell_heapS (i := 0) X7.out rfl
        have c1 := cell_heapS (i := 1) X7.out rfl
        go_wp2_with fail
        refine (refOps23 (some ⟨M, 0, none⟩) n mc l7 w7 (N7.out.opsR HL7.out BT7.out) HL7.out FT7.out).mono ?_
        rintro en w9 ⟨a9, c9, xs9, rfl, ho9, hol9, hg9⟩
        rw [← HL7.out] at ho9
        have R9 := hid_intro (hol9.opsR ho9)
        have N9 := hid_intro (N7.out.keptN hg9)
        have X9 := hid_intro (heap_keptS X7.out hg9)
        have G9 := hid_intro (grown_trans G7.out hg9)
        clear ho9 hol9 hg9 c0 c1
        have c0 := cell_heapS (i := 0) X9.out rfl
        have c1 := cell_heapS (i := 1) X9.out rfl
        go_wp2_with fail
        have hP := print_any x l7 (some ⟨M, 0, none⟩) mc w9 (HL.out.keptN G9.out) (N9.out.opsR HL7.out BT7.out) FT7.out.fnw23 FT7.out.szs23 (by have := HL7.out; omega)
        rw [HL7.out] at hP
        refine hP.mono ?_
        clear hP
        intro en wa hpa
        obtain ⟨rfl, hga⟩ := hpa.val
        have Xa := hid_intro (heap_keptS X9.out hga)
        have Ra := hid_intro (R9.out.keptN hga)
        have Ga := hid_intro (grown_trans G9.out hga)
        clear hga hpa c0 c1
        have c0 := cell_heapS (i := 0) Xa.out rfl
        have c1 := cell_heapS (i := 1) Xa.out rfl
        go_wp2_with fail
        refine (refPrint23 x l7 a9 n c9 wa Ra.out HL7.out FT7.out).mono ?_
        intro en wb hpb
        obtain ⟨rfl, hgb⟩ := hpb.val
        have Gb := hid_intro (grown_trans Ga.out hgb)
        clear hgb hpb c0 c1
        generalize tstr (prv (prt x l7)).1 = tt at *
        generalize (prv (prt x l7)).2 = ee at *
        go_wp2_with (go_at_call 11; refine (num23_any _ _).mono ?_; rintro en wz ⟨rfl, rfl⟩)
        go_wp2
        go_ret
        exact ⟨rfl, Gb.out⟩
end Go.Proofs.YtcjgmiilfjjbcaaGreatDoor
