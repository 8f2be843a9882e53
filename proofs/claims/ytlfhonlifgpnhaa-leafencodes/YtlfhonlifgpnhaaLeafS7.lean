import Derived.Test.YtlfhonlifgpnhaaLeafS6
namespace Go.Proofs.Ytlfhonlifgpnhaa
open Go.RowKit

theorem key_snoc {w : World} {g cap : Nat} {zs : List Int} {x y : Int} (h : Ow w g cap (zs ++ [x, y])) (n : Nat) (hn : zs.length = n) : w.cell? ⟨g, n, none⟩ = some (.int .u8 x) ∧ w.cell? ⟨g, n + 1, none⟩ = some (.int .u8 y) ∧ n + 2 ≤ cap := by
  subst hn
  have hle := h.le
  rw [List.length_append] at hle
  simp only [List.length_cons, List.length_nil] at hle
  refine ⟨?_, ?_, by omega⟩
  · rw [h.cell (j := zs.length) (by rw [List.length_append]; simp)]; simp [List.getD]
  · rw [h.cell (j := zs.length + 1) (by rw [List.length_append]; simp)]; simp [List.getD]

set_option maxHeartbeats 4000000 in
set_option maxRecDepth 100000 in
theorem held_any (base top A c n : Nat) (gk gv : Nat → Nat × Nat) (xs : List Value) (L : List It) (a : Option Addr) (cap : Nat) (w0 w : World) (hd : Lt4 w base top A c gk gv xs L) (hl : Il w0 a L) (hg0 : w0.grownBy w none) (hib : Ib L) (hn : L.length = n) (hm : n ≤ 5000) (hs : ∀ x ∈ L, x.key.length ≤ 5000 ∧ x.val.length ≤ 5000) (hc : n + 1 ≤ c) :
    Calls Try.prog 14 #[.agg #[.slice (some ⟨A, 0, none⟩) (n + 1) c, .int .i64 n], .slice a n cap] w fun en w' => en = .returned (.bool true) ∧ ∃ L', Sm L L' ∧ Lt4 w' base top A c gk gv xs L' ∧ Fw base top w w' := by
  have ga := World.grownBy_alloc w (.cells #[.slice (some ⟨A, 0, none⟩) (n + 1) c, .int .i64 (n : Int)] 26) none
  have T1 := hid_intro (Bl.new w (.slice (some ⟨A, 0, none⟩) (n + 1) c) (.int .i64 (n : Int)))
  have G1 := hid_intro ga
  have D1 := hid_intro (hd.keptN ga)
  have G01 := hid_intro (grown_trans hg0 ga)
  have HL := hid_intro hl
  have HS := hid_intro hs
  clear ga hd hl hs hg0
  have g1 : (n : Int) ≤ (c : Int) := by omega
  have g3 : (0 : Int) ≤ (n : Int) := by omega
  have g4 : (n : Int) < (n : Int) + 1 := by omega
  obtain ⟨y0, y1⟩ := T1.out.cells
  go_enter Try.func14, Try.ntmps14
  go_upto_region 1 with fail
  generalize w.alloc (.cells #[.slice (some ⟨A, 0, none⟩) (n + 1) c, .int .i64 (n : Int)] 26) = w1 at *
  generalize w.heap.size = T at *
  go_wp2_with fail
  refine (sameItems_any (some ⟨A, 0, none⟩) n c L a n cap L _ D1.out.ld.il hib hn (HL.out.keptN G01.out) hib hn (by omega)).mono ?_
  rintro en w2 ⟨⟨b2, rfl, hb2⟩, hg2⟩
  obtain rfl := hb2.2 rfl
  have T2 := hid_intro (T1.out.keptN hg2)
  have D2 := hid_intro (D1.out.keptN hg2)
  have L2 := hid_intro (HL.out.keptN (grown_trans G01.out hg2))
  have F2 := hid_intro (grown_trans G1.out hg2)
  clear hb2 hg2 T1 D1 G01 G1 y0 y1 HL
  obtain ⟨y0, y1⟩ := T2.out.cells
  obtain ⟨l0, l2⟩ := D2.out.last
  rw [hn] at l0 l2
  go_wp2
  go_loopw [5, 6, 7, 8, 9, 10] (fun sok si _ _ _ _ wr => ∃ i : Nat, i ≤ n ∧ si = .int .i64 i ∧ sok = .bool true ∧ w2 = wr) (fun _ si _ _ _ _ _ => n - (intOf si).toNat)
  case atStart => exact ⟨0, Nat.zero_le _, rfl, rfl, rfl⟩
  case round =>
    obtain ⟨i, hi, rfl, rfl, rfl⟩ := hrel
    by_cases hlt : i < n
    · have k1 : (i : Int) < (n : Int) := by omega
      have k2 : (0 : Int) ≤ (i : Int) := by omega
      have k3 : (i : Int) < (n : Int) + 1 := by omega
      obtain ⟨b1, off, ao, k, kc, bo, m, mc, rfl, q1, q2, _, _, hk, _, _, hv, _, _⟩ := L2.out.row i (by omega)
      have hkl := hk.len
      have hvl := hv.len
      obtain ⟨e1, e2⟩ := D2.out.cells i (by omega)
      obtain ⟨o1, o2⟩ := D2.out.ld.lm.ko i (by omega)
      obtain ⟨m1, m2, m3⟩ := key_snoc o1 k hkl
      obtain ⟨n1, n2, n3⟩ := key_snoc o2 m hvl
      have hss := HS.out _ (getD_mem (show i < L.length by omega))
      rw [hkl] at e1 hss
      rw [hvl] at e2 hss
      clear hk hv hkl hvl o1 o2
      generalize (gk i).1 = gg1 at *
      generalize (gk i).2 = gc1 at *
      generalize (gv i).1 = gg2 at *
      generalize (gv i).2 = gc2 at *
      have p1 : (k : Int) + 2 ≤ (gc1 : Int) := by omega
      have p2 : (m : Int) + 2 ≤ (gc2 : Int) := by omega
      have p3 : (0 : Int) ≤ (k : Int) := by omega
      have p4 : (0 : Int) ≤ (m : Int) := by omega
      have p5 : (k : Int) < (k : Int) + 2 := by omega
      have p6 : (m : Int) < (m : Int) + 2 := by omega
      have p7 : (k : Int) + 1 < (k : Int) + 2 := by omega
      have p8 : (m : Int) + 1 < (m : Int) + 2 := by omega
      go_wp2
      go_roundw
      case rel => exact ⟨i + 1, by omega, by go_num, rfl, by trivial⟩
      case measure => simp [intOf]; omega
    · have hin : i = n := by omega
      subst hin
      have k1 : ¬ (i : Int) < (i : Int) := by omega
      go_wp2
      go_loopw [11, 12, 13] (fun si _ _ wr => ∃ (j : Nat) (M : List It), j ≤ i ∧ si = .int .i64 j ∧ Sm L M ∧ Lt4 wr base top A c gk gv xs M ∧ Fw base top w2 wr) (fun si _ _ _ => i - (intOf si).toNat)
      case atStart => exact ⟨0, L, Nat.zero_le _, rfl, Sm.refl L, D2.out, Fw.refl _ _ _⟩
      case round =>
        obtain ⟨j, M, hj, rfl, hsm, hld, hfw⟩ := hrel
        have HSM := hid_intro hsm
        have HLD := hid_intro hld
        have HFW := hid_intro hfw
        have TR := hid_intro (hfw.bl T2.out)
        clear hsm hld hfw y0 y1
        obtain ⟨y0, y1⟩ := TR.out.cells
        by_cases hlt2 : j < i
        · have k2 : (j : Int) < (i : Int) := by omega
          have k3 : (0 : Int) ≤ (j : Int) := by omega
          have k4 : (j : Int) < (i : Int) + 1 := by omega
          have hss := HS.out _ (getD_mem (show j < L.length by omega))
          obtain ⟨kl, hkl⟩ : ∃ kl, (L.getD j it0).key.length = kl := ⟨_, rfl⟩
          obtain ⟨ml, hml⟩ : ∃ ml, (L.getD j it0).val.length = ml := ⟨_, rfl⟩
          rw [hkl, hml] at hss
          have HKL := hid_intro hkl
          have HML := hid_intro hml
          clear hkl hml
          go_wp2
          clear y0 y1
          go_loopw [12] (fun sp wq => ∃ (p : Nat) (M : List It), p ≤ kl ∧ sp = .int .i64 p ∧ Sm L M ∧ Lt4 wq base top A c gk gv xs M ∧ Fw base top w2 wq) (fun sp _ => kl - (intOf sp).toNat)
          case atStart => exact ⟨0, M, Nat.zero_le _, rfl, HSM.out, HLD.out, HFW.out⟩
          case round =>
            clear HSM HLD HFW TR M
            obtain ⟨p, M, hp, rfl, hsm, hld, hfw⟩ := hrel
            have HSM := hid_intro hsm
            have HLD := hid_intro hld
            have HFW := hid_intro hfw
            have TR := hid_intro (hfw.bl T2.out)
            obtain ⟨y0, y1⟩ := TR.out.cells
            have hjm : j < M.length := by have := hsm.len; omega
            obtain ⟨e1, e2⟩ := hld.cells j hjm
            have hk1 := (hsm.el j (by omega)).1.trans HKL.out
            have ho := (hld.ld.lm.ko j hjm).1
            rw [hk1] at e1
            clear hsm hld hfw
            by_cases hpl : p < kl
            · have k5 : (p : Int) < (kl : Int) := by omega
              have k6 : (0 : Int) ≤ (p : Int) := by omega
              have cb := ho.cell (j := p) (by rw [List.length_append]; omega)
              have cf := ho.frozen p
              have hset := ho.set p 35 (by rw [List.length_append]; omega)
              rw [List.set_append_left _ _ (by omega)] at hset
              have hgc := grown_cell wr (gk j).1 p (.int .u8 35)
              obtain ⟨s1, s2, s3⟩ := HLD.out.setKey j hjm _ (by rw [List.length_set]) hgc hset
              have D5 := hid_intro s1
              have F5 := hid_intro (HFW.out.trans s2)
              have S5 := hid_intro (HSM.out.trans s3)
              clear s1 s2 s3 hset hgc ho HLD HFW HSM TR
              generalize M.set j ⟨(M.getD j it0).key.set p 35, (M.getD j it0).val, (M.getD j it0).size, (M.getD j it0).first⟩ = M' at *
              generalize ((M.getD j it0).key ++ [161, 162]).getD p 0 = by0 at *
              generalize (gk j).1 = gg1 at e1 cb cf D5 F5
              generalize (gk j).2 = gc1 at e1
              go_wp2
              go_roundw
              case rel => exact ⟨p + 1, M', by omega, by go_num, S5.out, D5.out, F5.out⟩
              case measure => simp [intOf]; omega
            · have k5 : ¬ (p : Int) < (kl : Int) := by omega
              generalize (gk j).1 = gg1 at e1
              generalize (gk j).2 = gc1 at e1
              clear ho
              go_wp2
              clear y0 y1 e1 e2
              go_loopw [13] (fun sp wr => ∃ (p : Nat) (M : List It), p ≤ ml ∧ sp = .int .i64 p ∧ Sm L M ∧ Lt4 wr base top A c gk gv xs M ∧ Fw base top w2 wr) (fun sp _ => ml - (intOf sp).toNat)
              case atStart => exact ⟨0, M, Nat.zero_le _, rfl, HSM.out, HLD.out, HFW.out⟩
              case round =>
                clear HSM HLD HFW TR
                obtain ⟨q, M, hq, rfl, hsm, hld, hfw⟩ := hrel
                have HSM := hid_intro hsm
                have HLD := hid_intro hld
                have HFW := hid_intro hfw
                have TR := hid_intro (hfw.bl T2.out)
                obtain ⟨y0, y1⟩ := TR.out.cells
                have hjm : j < M.length := by have := hsm.len; omega
                obtain ⟨e1, e2⟩ := hld.cells j hjm
                have hk1 := (hsm.el j (by omega)).2.1.trans HML.out
                have ho := (hld.ld.lm.ko j hjm).2
                rw [hk1] at e2
                clear hsm hld hfw
                by_cases hql : q < ml
                · have k5 : (q : Int) < (ml : Int) := by omega
                  have k6 : (0 : Int) ≤ (q : Int) := by omega
                  have cb := ho.cell (j := q) (by rw [List.length_append]; omega)
                  have cf := ho.frozen q
                  have hset := ho.set q 35 (by rw [List.length_append]; omega)
                  rw [List.set_append_left _ _ (by omega)] at hset
                  have hgc := grown_cell wr (gv j).1 q (.int .u8 35)
                  obtain ⟨s1, s2, s3⟩ := HLD.out.setVal j hjm _ (by rw [List.length_set]) hgc hset
                  have D5 := hid_intro s1
                  have F5 := hid_intro (HFW.out.trans s2)
                  have S5 := hid_intro (HSM.out.trans s3)
                  clear s1 s2 s3 hset hgc ho HLD HFW HSM TR e1
                  generalize M.set j ⟨(M.getD j it0).key, (M.getD j it0).val.set q 35, (M.getD j it0).size, (M.getD j it0).first⟩ = M' at *
                  generalize ((M.getD j it0).val ++ [163, 164]).getD q 0 = by0 at *
                  generalize (gv j).1 = gg2 at e2 cb cf D5 F5
                  generalize (gv j).2 = gc2 at e2
                  go_wp2
                  go_roundw
                  case rel => exact ⟨q + 1, M', by omega, by go_num, S5.out, D5.out, F5.out⟩
                  case measure => simp [intOf]; omega
                · have k5 : ¬ (q : Int) < (ml : Int) := by omega
                  clear ho e1
                  generalize (gv j).1 = gg2 at e2
                  generalize (gv j).2 = gc2 at e2
                  go_wp2
                  go_roundw
                  case rel => exact ⟨j + 1, M, by omega, by go_num, HSM.out, HLD.out, HFW.out⟩
                  case measure => simp [intOf]; omega
        · have k2 : ¬ (j : Int) < (i : Int) := by omega
          go_wp2
          go_ret
          exact ⟨rfl, M, HSM.out, HLD.out, (Fw.of F2.out).trans HFW.out⟩
end Go.Proofs.Ytlfhonlifgpnhaa
