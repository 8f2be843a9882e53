import Derived.Test.YtcjgmiilfjjbcaaGreatDoorSr7
namespace Go.Proofs.YtcjgmiilfjjbcaaGreatDoor
open Go.RowKit

theorem cells_new (w : World) (e : TypeId) (cs : Array Value) : ∀ j u, cs.toList[j]? = some u → (w.alloc (.cells cs e)).drew.cell? ((⟨w.heap.size, 0, none⟩ : Addr).add j) = some u := by
  intro j u hj
  have h : (w.alloc (.cells cs e)).drew.heap[w.heap.size]? = some (.cells cs e (0, 0)) := heap_at0S w cs e
  rw [show (⟨w.heap.size, 0, none⟩ : Addr).add j = ⟨w.heap.size, j, none⟩ by simp [Addr.add]; omega, Lib.cell_of_heap h, ← Array.getElem?_toList]
  exact hj
theorem below_cellS {w w' : World} {B g i : Nat} {v : Value} (h : w.cell? ⟨g, i, none⟩ = some v) (hb : Below B w w') (hg : g < B) : w'.cell? ⟨g, i, none⟩ = some v := by
  unfold World.cell? at h ⊢
  simp only at h ⊢
  rw [hb.block g hg]
  exact h
theorem below_varS {w w' : World} {B g : Nat} {n : String} {vs : Array Value} (hn : Tryz.prog.globalNamed n = some g) (h : w.var? Tryz.prog n = some vs) (hb : Below B w w') (hg : g < B) : w'.var? Tryz.prog n = some vs := by
  unfold World.var? at h ⊢
  rw [hn] at h ⊢
  simp only [Option.bind_some] at h ⊢
  rw [hb.block g hg]
  exact h
theorem Lv.below {w w' : World} {B : Nat} (h : Lv w) (hb : Below B w w') (hg : ∀ k, (k = 2 ∨ k = 7 ∨ k = 8 ∨ k = 0) → k < B) : Lv w' :=
  ⟨below_varS tzd_named h.pow hb (hg _ (.inl rfl)), by obtain ⟨tp, p, e⟩ := h.syn; exact ⟨tp, p, below_varS syn_named e hb (hg _ (.inr (.inl rfl)))⟩, by obtain ⟨tp, p, e⟩ := h.rng; exact ⟨tp, p, below_varS rng_named e hb (hg _ (.inr (.inr (.inl rfl))))⟩, fun i p hp => ⟨below_cellS (h.stp i p hp).1 hb (hg _ (.inr (.inr (.inr rfl)))), below_cellS (h.stp i p hp).2 hb (hg _ (.inr (.inr (.inr rfl))))⟩⟩
set_option maxHeartbeats 8000000 in
set_option maxRecDepth 100000 in
theorem take_first (T0 : List UInt8) (lw : List (List UInt8)) (g m d R B : Nat) (w : World) (hL : Lv w) (hW : Wsl w g 0 (T0 :: lw)) (hn : lw.length = m) (hn2 : m ≤ 2000000) (hT : ∀ T ∈ T0 :: lw, T.length ≤ 2000000000) (hR : RdI w B R none) (hB : B ≤ w.heap.size) (hRB : B ≤ R) (hgR : g ≠ R) (hRg : ∀ k, (k = 2 ∨ k = 7 ∨ k = 8 ∨ k = 0) → k < B) :
    Calls Tryz.prog 33 #[.pointer (some ⟨R, 0, none⟩), .slice (some ⟨g, 0, none⟩) (m + 1) (d + 1)] w fun en w' => TkP w B R (tke none (T0 :: lw)) en w' := by
  · have hb := hR.ofN
    have xb := heap_setCell_same w R 2 _ _ (.bool true) hb
    have gs := grown_cellS w R 2 (.bool true)
    have HL : Hid (Lv (w.setCell ⟨R, 2, none⟩ (.bool true))) := hL.below (below_oneS gs hB hRB) hRg
    have HW : Hid (Wsl (w.setCell ⟨R, 2, none⟩ (.bool true)) g 0 (T0 :: lw)) := fun i T hi => gs.cell (hW i T hi) (by simp; exact hgR)
    have XB := hid_intro xb
    have HF := hid_intro (takeFirst_any T0 lw g m d R 0 true _ HL.out HW.out hn hn2 hT XB.out)
    have GS := hid_intro gs
    have d2 := cell_heapS (i := 2) hb rfl
    have z2 := frozen_of_row w R 2 _ _ hb
    have HT : Hid (tke none (T0 :: lw) = (tkf (T0 :: lw)).map fun n => (n, [])) := rfl
    clear hb xb gs hL hW hT hRg hR
    generalize tke none (T0 :: lw) = Rz at *
    generalize tkf (T0 :: lw) = Rf at *
    go_enter Tryz.func33, Tryz.ntmps33
    go_wp2_with fail
    refine HF.out.mono ?_
    rintro en w2 ⟨hg2, hr2⟩
    have gg := GS.out.trans hg2
    have BB := hid_intro (below_oneS gg hB hRB)
    have TT := hid_intro (tkw_one gg)
    clear hg2 gg
    rcases hr2 with ⟨n, r1, rfl, r3⟩ | ⟨e, r1, r2, rfl⟩
    · go_wp2
      go_ret
      exact ⟨⟨BB.out, TT.out⟩, .inl ⟨(n, []), by rw [HT.out, r1]; rfl, rfl, .mkS n [] _ [] r3 ⟨rfl, .inl ⟨rfl, rfl⟩⟩ (OpL.nil _ _)⟩⟩
    · go_wp2
      go_ret
      exact ⟨⟨BB.out, TT.out⟩, .inr ⟨e, by rw [HT.out, r1]; rfl, r2, rfl⟩⟩
set_option maxHeartbeats 16000000 in
set_option maxRecDepth 100000 in
theorem take_more (T0 : List UInt8) (lw : List (List UInt8)) (g m d R B : Nat) (s : Sq) (w : World) (hL : Lv w) (hW : Wsl w g 0 (T0 :: lw)) (hn : lw.length = m) (hn2 : m ≤ 2000000) (hc : m ≤ d) (hT : ∀ T ∈ T0 :: lw, T.length ≤ 2000000000) (hR : RdI w B R (some s)) (hB : B ≤ w.heap.size) (hRB : B ≤ R) (hl : s.2.length ≤ 2000) :
    Calls Tryz.prog 33 #[.pointer (some ⟨R, 0, none⟩), .slice (some ⟨g, 0, none⟩) (m + 1) (d + 1)] w fun en w' => TkP w B R (tke (some s) (T0 :: lw)) en w' := by
  obtain ⟨ip, hip, hp0, hp1, hp2⟩ := info_parts info_aopS
  · obtain ⟨n, l⟩ := s
    obtain ⟨v, xs, hb, ho, hol⟩ := hR.ofS
    simp only at hb ho hol hl
    obtain ⟨oa', oc', hv⟩ := own_shape20 ho
    have HT : Hid (tke (some (n, l)) (T0 :: lw) = if l.length = 2000 then .error 234 else (stp (T0 :: lw)).map fun o => (n, l ++ [o])) := rfl
    have HF := hid_intro (readStep_any T0 lw g m d w hL hW hn hn2 hc hT)
    have HLL : Hid (l.length ≤ 2000) := hl
    have d1 := cell_heapS (i := 1) hb rfl
    have d2 := cell_heapS (i := 2) hb rfl
    rw [hv] at d1
    have HB := hid_intro hb
    have HO := hid_intro ho
    have HOL := hid_intro hol
    have HV := hid_intro hv
    clear hL hW hT hb ho hol hl hv hR
    generalize tke (some (n, l)) (T0 :: lw) = Rz at *
    generalize stp (T0 :: lw) = Rf at *
    obtain ⟨L, hL⟩ : ∃ L, l.length = L := ⟨_, rfl⟩
    have HLN := hid_intro hL
    rw [hL] at d1
    clear hL
    have hL2 : (L : Int) ≤ 2000 := by have := HLL.out; have := HLN.out; omega
    by_cases h2 : L = 2000
    · subst h2
      go_enter Tryz.func33, Tryz.ntmps33
      go_wp2
      go_ret
      exact ⟨⟨below_grownS (World.grownBy.refl _ _) hB, tkw_grown (World.grownBy.refl _ _)⟩, .inr ⟨234, by rw [HT.out, if_pos HLN.out], by decide, rfl⟩⟩
    · have g2 : ((L : Int) == 2000) = false := by rw [beq_eq_false_iff_ne]; omega
      have HT2 : Hid (Rz = Rf.map fun o => (n, l ++ [o])) := by show _ = _; rw [HT.out, if_neg (by rw [HLN.out]; exact h2)]
      clear HT h2
      go_enter Tryz.func33, Tryz.ntmps33
      go_wp2_with fail
      refine HF.out.mono ?_
      rintro en w3 ⟨hg3, hr3⟩
      have hs3 := hg3.size
      have G3 := hid_intro hg3
      rcases hr3 with ⟨o, kv, vv, hv, fv, r1, rfl, hov⟩ | ⟨e, r1, r2, rfl⟩
      · obtain ⟨ka, kc, hk1⟩ := own_shape20 hov.key
        obtain ⟨va, vc, hk2⟩ := own_shape20 hov.val
        obtain ⟨ha, hc', hk3⟩ := own_shape20 hov.hi
        obtain ⟨fa, fc, hk4⟩ := own_shape20 hov.f
        obtain ⟨kn, hkn⟩ : ∃ x, x = o.key.length := ⟨_, rfl⟩
        obtain ⟨vn, hvn⟩ : ∃ x, x = o.val.length := ⟨_, rfl⟩
        obtain ⟨hn', hhn⟩ : ∃ x, x = o.hi.length := ⟨_, rfl⟩
        obtain ⟨fn, hfn⟩ : ∃ x, x = o.f.length := ⟨_, rfl⟩
        rw [← hkn] at hk1
        rw [← hvn] at hk2
        rw [← hhn] at hk3
        rw [← hfn] at hk4
        clear hkn hvn hhn hfn
        subst hk1 hk2 hk3 hk4
        have HR3 : Hid (Rz = .ok (n, l ++ [o])) := by show _ = _; rw [HT2.out, r1]; rfl
        have ga := World.grownBy_alloc w3 (.cells #[.int .i64 o.k, .int .i64 o.a, .int .i64 o.b, .int .i64 o.c, .slice ka kn kc, .slice va vn vc, .slice ha hn' hc', .slice fa fn fc] 35) none
        have xb := heap_at0S w3 #[.int .i64 o.k, .int .i64 o.a, .int .i64 o.b, .int .i64 o.c, .slice ka kn kc, .slice va vn vc, .slice ha hn' hc', .slice fa fn fc] 35
        have gw := grown_trans hg3 ga
        have V5 := hid_intro ((hov.keptN ga).low (B' := B) hB)
        have O5 := hid_intro (own_keptD HO.out gw)
        have L5 := hid_intro (HOL.out.keptN gw)
        have B5 := hid_intro (heap_keptS HB.out gw)
        have BL5 := hid_intro (below_grownS gw hB)
        have TK5 := hid_intro (tkw_grown (R := R) gw)
        have hB5 : B ≤ (w3.alloc (.cells #[.int .i64 o.k, .int .i64 o.a, .int .i64 o.b, .int .i64 o.c, .slice ka kn kc, .slice va vn vc, .slice ha hn' hc', .slice fa fn fc] 35)).heap.size := by have := gw.size; omega
        have x0 := cell_heapS (i := 0) xb rfl
        have x1 := cell_heapS (i := 1) xb rfl
        have x2 := cell_heapS (i := 2) xb rfl
        have x3 := cell_heapS (i := 3) xb rfl
        have x4 := cell_heapS (i := 4) xb rfl
        have x5 := cell_heapS (i := 5) xb rfl
        have x6 := cell_heapS (i := 6) xb rfl
        have x7 := cell_heapS (i := 7) xb rfl
        clear HT2 r1 hov HOL HO ga gw hs3 hg3 G3
        go_upto_region 9 with fail
        generalize w3.alloc (.cells #[.int .i64 o.k, .int .i64 o.a, .int .i64 o.b, .int .i64 o.c, .slice ka kn kc, .slice va vn vc, .slice ha hn' hc', .slice fa fn fc] 35) = w5 at *
        have e1 := cell_heapS (i := 1) B5.out rfl
        rw [HV.out, HLN.out] at e1
        have e1a : ∀ o, (w5.alloc o).cell? ⟨R, 1, none⟩ = some (.slice oa' L oc') := fun o => cell_keptS e1 (World.grownBy_alloc w5 o none)
        have HAP : Hid (∀ W : World, W.heap = w5.heap → (W.alloc (.cells #[.int .i64 o.k, .int .i64 o.a, .int .i64 o.b, .int .i64 o.c, .slice ka kn kc, .slice va vn vc, .slice ha hn' hc', .slice fa fn fc] 35)).ownsRow B 35 8 (.slice oa' L oc') L xs) := fun W hW => by
          have := O5.out
          rw [HV.out, HLN.out] at this
          exact (own_same20 this hW).alloc _
        have HZ : Hid (∀ (v8 : Value) (w8 : World), w8.ownsRow B 35 8 v8 (L + 1) (xs ++ [.int .i64 o.k, .int .i64 o.a, .int .i64 o.b, .int .i64 o.c, .slice ka kn kc, .slice va vn vc, .slice ha hn' hc', .slice fa fn fc]) → (w5.alloc (.cells #[.int .i64 o.k, .int .i64 o.a, .int .i64 o.b, .int .i64 o.c, .slice ka kn kc, .slice va vn vc, .slice ha hn' hc', .slice fa fn fc] 35)).grownBy w8 (Value.slice oa' L oc').ownBlock → w8.cell? ⟨R, 1, none⟩ = some (.slice oa' L oc') ∧ w8.frozen? ⟨R, 1, none⟩ = false ∧ (Below B w (w8.setCell ⟨R, 1, none⟩ v8) ∧ Tkw w (w8.setCell ⟨R, 1, none⟩ v8) R) ∧ RdI (w8.setCell ⟨R, 1, none⟩ v8) B R (some (n, l ++ [o]))) := fun v8 w8 ho hg => by
          have gb := World.grownBy_alloc w5 (.cells #[.int .i64 o.k, .int .i64 o.a, .int .i64 o.b, .int .i64 o.c, .slice ka kn kc, .slice va vn vc, .slice ha hn' hc', .slice fa fn fc] 35) none
          have f5 := own_keptD O5.out gb
          rw [HV.out, HLN.out] at f5
          have b5 := heap_keptS B5.out gb
          have bx : w8.heap[R]? = some (.cells #[.int .i64 n, v, .bool true] 64 (0, 0)) := by
            rw [hg.block R (Array.getElem?_eq_some_iff.1 b5).1 (fun e => ?_)]
            · exact b5
            · rcases own_neB f5 b5 (by decide) with h | h
              · rw [h] at e; cases e
              · exact h e.symm
          have hb := heap_setCell_same w8 R 1 _ _ v8 bx
          have hg2 := grown_cellS w8 R 1 v8
          have l8 := ((L5.out.keptN gb).own f5 (by decide) (by decide) hg).one bx (by decide) (by decide) hg2
          have o8 := ((V5.out.keptN gb).own f5 (by decide) (by decide) hg).one bx (by decide) (by decide) hg2
          have e1 := below_transS BL5.out (below_grownS gb (by omega))
          have e2 := below_transS e1 (below_ownS hg f5 (by simp; omega))
          have hz2 := e2.size
          refine ⟨?_, frozen_of_row w8 R 1 _ _ bx, ⟨below_transS e2 (below_oneS hg2 (by omega) hRB), ((TK5.out.trans (tkw_grown gb)).trans (tkw_own hg f5)).trans (tkw_one hg2)⟩, ?_⟩
          · rw [← HLN.out, ← HV.out]; exact cell_heapS (i := 1) bx rfl
          · refine .mkS n (l ++ [o]) v8 _ hb ?_ (l8.snoc o8)
            rw [List.length_append, HLN.out]
            exact OpI.own ho bx (by decide) hg2
        clear xb L5 V5 O5 B5 BL5 TK5
        go_region_law (refine step_append20 rfl (.tmp 38) (.tmp 40) 22 (by rfl) B 35 ip (.agg #[.int .i64 0, .int .i64 0, .int .i64 0, .int .i64 0, .slice none 0 0, .slice none 0 0, .slice none 0 0, .slice none 0 0]) 8 128 Tryz.underlying22 hip hp0 hp1 hp2 rfl (by decide) (.slice oa' L oc') L xs (by rfl) (by exact HAP.out _ rfl) ⟨w5.heap.size, 0, none⟩ 1 1 [.int .i64 o.k, .int .i64 o.a, .int .i64 o.b, .int .i64 o.c, .slice ka kn kc, .slice va vn vc, .slice ha hn' hc', .slice fa fn fc] (by rfl) rfl (by exact cells_new _ _ _) (by intro u hu; simp at hu; rcases hu with rfl | rfl | rfl | rfl | rfl | rfl | rfl | rfl <;> rfl) (by unfold maxLen; omega) (by omega) (by simp; omega) ?_; intro v8 w8 ho8 hg8; have Z8 := HZ.out v8 w8 ho8 (grown_undrew hg8); obtain ⟨pa, pc, hv8⟩ := own_shape20 ho8; subst hv8; have c8 := Z8.1; have f8 := Z8.2.1; have ZZ := hid_intro Z8; clear ho8 hg8 Z8)
        all_goals
          go_wp2
          go_ret
          exact ⟨ZZ.out.2.2.1, .inl ⟨_, HR3.out, rfl, ZZ.out.2.2.2⟩⟩
      · have HR3 : Hid (Rz = .error e) := by show _ = _; rw [HT2.out, r1]; rfl
        have ge : (e == 0) = false := by rw [beq_eq_false_iff_ne]; exact r2
        have ga := World.grownBy_alloc w3 (.cells #[.int .i64 0, .int .i64 0, .int .i64 0, .int .i64 0, .slice none 0 0, .slice none 0 0, .slice none 0 0, .slice none 0 0] 35) none
        have G4 := hid_intro (grown_trans hg3 ga)
        clear HT2 r1 hg3 ga
        go_wp2
        go_ret
        exact ⟨⟨below_grownS G4.out hB, tkw_grown G4.out⟩, .inr ⟨e, HR3.out, r2, rfl⟩⟩
end Go.Proofs.YtcjgmiilfjjbcaaGreatDoor
