import Derived.Test.YtpoflmcmlnghhaaRp2
namespace Go.Proofs.Ytpoflmcmlnghhaa
open Go.RowKit Go.Maps

set_option maxHeartbeats 16000000 in
set_option maxRecDepth 100000 in
theorem plays_lists {w : World} {Q B s q R : Nat} {F : Nat → Prop} {p : Po} {r : Ro} (h : Pr w Q B s q R F p r) (kd A Bv : Int) (go : Option Addr) (n gc : Nat) (g : List Int) (sec : Bool) (hl : Nt w go g) (hw : Wf g) (hn : g.length = n) (hgb : ∀ ad, go = some ad → 0 < n → ¬ Ob Q B s q F ad.block) (hA : -9223372036854775808 ≤ A ∧ A ≤ 9223372036854775807) (hBv : -9223372036854775808 ≤ Bv ∧ Bv ≤ 9223372036854775807) (hps : r.ps.length ≤ 100000) (hn4 : n ≤ 4000) (hkd : kd = 4) :
    Calls Try.prog 11 #[.pointer (some ⟨Q, 0, none⟩), .agg #[.int .i64 kd, .int .i64 A, .int .i64 Bv, .slice go n gc, .bool sec]] w fun e w' => e = .returned (.bool true) ∧ Po1 w w' Q B s q R F r := by
  obtain ⟨i1, hi1, hy0, hy1, hy2⟩ := info_parts info_int
  have e1 : (kd == 1) = false := by rw [hkd]; decide
  have e2 : (kd == 2) = false := by rw [hkd]; decide
  have e3 : (kd == 3) = false := by rw [hkd]; decide
  have e4 : (kd == 4) = true := by rw [hkd]; decide
  clear hkd
  have HP := hid_intro h
  have HL := hid_intro hl
  have HW := hid_intro hw
  have HGB := hid_intro hgb
  have HA := hid_intro hA
  have HBV := hid_intro hBv
  have hn4' : ¬ (4000 : Int) < (n : Int) := by omega
  have gA := World.grownBy_alloc w (.cells (opc kd A Bv go n gc sec) 35) none
  have HPX : Hid ((w.alloc (.cells (opc kd A Bv go n gc sec) 35)).heap[w.heap.size]? = some (.cells (opc kd A Bv go n gc sec) 35 (0, 0))) := heap_alloc_new w _
  have a3 : (w.alloc (.cells #[.int .i64 kd, .int .i64 A, .int .i64 Bv, .slice go n gc, .bool sec] 35)).cell? ⟨w.heap.size, 3, none⟩ = some (.slice go n gc) := cell_of_row _ _ 3 _ _ _ HPX.out
  clear h hl hw hgb hA hBv
  go_enter Try.func11, Try.ntmps11
  go_wp2_with fail
  have HGA := hid_intro (show w.grownBy (w.alloc (.cells #[.int .i64 kd, .int .i64 A, .int .i64 Bv, .slice go n gc, .bool sec] 35)) none from gA)
  have HPA := hid_intro (show (w.alloc (.cells #[.int .i64 kd, .int .i64 A, .int .i64 Bv, .slice go n gc, .bool sec] 35)).heap[w.heap.size]? = some (.cells (opc kd A Bv go n gc sec) 35 (0, 0)) from HPX.out)
  clear gA HPX
  generalize w.alloc (.cells #[.int .i64 kd, .int .i64 A, .int .i64 Bv, .slice go n gc, .bool sec] 35) = wA at *
  refine (refInts_any go n gc g _ (HL.out.keptN HGA.out) hn (by omega)).mono ?_
  rintro en w1 ⟨⟨v1, rfl, ho1⟩, hg1, hs1⟩
  have HO1 := hid_intro ho1
  have HG1 := hid_intro (grown_trans HGA.out hg1)
  have HPX1 := hid_intro ((hg1.block _ (Array.getElem?_eq_some_iff.1 HPA.out).1 (by simp)).trans HPA.out)
  have hsA := hg1.size
  clear ho1 hg1 a3 HPA
  go_wp2_with (at_builtin; refine wpList_append_own _ rfl _ _ 22 rfl wA.heap.size 3 i1 (.int .i64 0) 1 8 Try.underlying22 hi1 hy0 hy1 hy2 rfl (by decide) v1 n (g.map (Value.int .i64)) rfl (HO1.out.alloc _) ⟨w1.heap.size, 0, none⟩ 2 2 [.int .i64 201, .int .i64 202] rfl rfl (news2 w1 3 (.int .i64 201) (.int .i64 202) _ rfl) (by intro u hu; simp at hu; rcases hu with rfl | rfl <;> rfl) (by unfold maxLen; omega) (by omega) (by simp; omega) ?_; intro v2 w2 ho2 hg2 _; obtain ⟨gl, cp, cur, e2, -⟩ := ho2.2.resolve_left (fun e => by have := e.2; omega); subst e2; have HG2 := hid_intro (grown_app5 HG1.out HO1.out HGA.out.size hg2); have HCL : Hid (Cl w2 w.heap.size gl cp n g kd A Bv go gc sec w.heap.size) := (by refine ⟨(hg2.block _ (by have := (Array.getElem?_eq_some_iff.1 HPX1.out).1; simp; omega) (fun e => own_ne_ty HO1.out HPX1.out (by decide) e)).trans ((Below.heap_alloc w1 _ _ (Array.getElem?_eq_some_iff.1 HPX1.out).1).trans HPX1.out), ?_, Nat.le_refl _⟩; rw [List.map_append]; exact own_base ho2 HGA.out.size); clear ho2 hg2; have hcp := (marks_cells HCL.out.lo hn).2.2.2.1; have hcp2 := (marks_cells HCL.out.lo hn).2.2.2.2; have HP2 := hid_intro (HP.out.keptN HG2.out); have S2 := sc_of HP2.out HCL.out; unfold Sc at S2; have t0 := S2.2.2.1; have HS2 := hid_intro (sc_of HP2.out HCL.out); clear S2)
  have hn0 : (0 : Int) ≤ (n : Int) := by omega
  have hncp : (n : Int) ≤ (cp : Int) := by omega
  have NL2 := hid_intro (marks_cells HCL.out.lo hn).1
  go_wp2_with fail
  have S2 := HS2.out
  unfold Sc at S2
  go_region_held3 (fun w' => w'.cell? ⟨Q, 0, none⟩ = some (.pointer (some ⟨B, 0, none⟩)) ∧ w'.cell? ⟨Q, 1, none⟩ = some (.pointer (some ⟨R, 0, none⟩)) ∧ w'.cell? ⟨w.heap.size, 0, none⟩ = some (.int .i64 kd) ∧ w'.cell? ⟨w.heap.size, 1, none⟩ = some (.int .i64 A) ∧ w'.cell? ⟨w.heap.size, 2, none⟩ = some (.int .i64 Bv) ∧ w'.cell? ⟨w.heap.size, 3, none⟩ = some (.slice go n gc)) (first | exact S2 | exact T4.out | exact T3.out | go_keep)
    (first
      | (go_at_call 22; refine (lists_any (HP2.out.keptN ((Qt.refl w2).drew.grown none)).pl HP.out.ok A (some ⟨gl, 0, none⟩) n cp g (NL2.out.keptN ((Qt.refl w2).drew.grown none)) hn HW.out (by omega) HA.out.2).mono ?_; rintro en w3 ⟨rfl, hg3⟩; have HG3 := hid_intro (grown_trans ((Qt.refl w2).drew.grown none) hg3); have T3 := hid_intro (show ((fun w' => w'.cell? ⟨Q, 0, none⟩ = some (.pointer (some ⟨B, 0, none⟩)) ∧ w'.cell? ⟨Q, 1, none⟩ = some (.pointer (some ⟨R, 0, none⟩)) ∧ w'.cell? ⟨w.heap.size, 0, none⟩ = some (.int .i64 kd) ∧ w'.cell? ⟨w.heap.size, 1, none⟩ = some (.int .i64 A) ∧ w'.cell? ⟨w.heap.size, 2, none⟩ = some (.int .i64 Bv) ∧ w'.cell? ⟨w.heap.size, 3, none⟩ = some (.slice go n gc)) w3) from HS2.out.keptN HG3.out); clear hg3)
      | (go_at_call 34; refine (rlists_any (HP2.out.rz.keptN (grown_trans HG3.out (by first | exact World.grownBy.refl _ _ | exact (Qt.refl w3).drew.grown none | exact ((Qt.refl w3).drew).drew.grown none))) HP.out.ag HP.out.ok HP.out.pl.ms.ris (by omega) A go n gc g (HL.out.keptN (grown_trans (grown_trans HG2.out HG3.out) (by first | exact World.grownBy.refl _ _ | exact (Qt.refl w3).drew.grown none | exact ((Qt.refl w3).drew).drew.grown none))) hn (by omega) HA.out).mono ?_; rintro en w4 ⟨rfl, hg4⟩; have HG4 := hid_intro (grown_trans (grown_trans HG3.out (by first | exact World.grownBy.refl _ _ | exact (Qt.refl w3).drew.grown none | exact ((Qt.refl w3).drew).drew.grown none)) hg4); have T4 := hid_intro (show ((fun w' => w'.cell? ⟨Q, 0, none⟩ = some (.pointer (some ⟨B, 0, none⟩)) ∧ w'.cell? ⟨Q, 1, none⟩ = some (.pointer (some ⟨R, 0, none⟩)) ∧ w'.cell? ⟨w.heap.size, 0, none⟩ = some (.int .i64 kd) ∧ w'.cell? ⟨w.heap.size, 1, none⟩ = some (.int .i64 A) ∧ w'.cell? ⟨w.heap.size, 2, none⟩ = some (.int .i64 Bv) ∧ w'.cell? ⟨w.heap.size, 3, none⟩ = some (.slice go n gc)) w4) from HS2.out.keptN HG4.out); clear hg4))
  all_goals
    clear S2 T3 T4 HG3 NL2 hn0 hncp
    have HGK := hid_intro (grown_trans HG2.out HG4.out)
    have CLK := hid_intro (HCL.out.keptN HG4.out)
    clear HG4
    go_upto_region 20 with fail
    have HPN : Hid (∃ F' p' r', Pr w4 Q B s q R F' p' r' ∧ (∀ i, F' i → F i ∨ (w.heap.size ≤ i ∧ i ≠ gl)) ∧ r'.ps.length ≤ r.ps.length + 1) := ⟨F, p, r, HP.out.keptN HGK.out, fun i hi => .inl hi, by omega⟩
    have HFK : Hid (Fr w w4 (Ob Q B s q F)) := Fr.ofN HGK.out
    clear HP2 HCL HG2 HG1 HO1 HGA HPX1 hsA HS2 t0
    have HLW : Hid (Nt w4 go g) := HFK.out.nt HL.out (fun ad e h0 => HGB.out ad e (by omega))
    obtain ⟨m1, m2, m3, -, -⟩ := marks_cells CLK.out.lo hn
    have NL5 := hid_intro m1
    have c3 : w4.cell? ⟨w.heap.size, 3, none⟩ = some (.slice go n gc) := CLK.out.cell 3
    have HSI := hid_intro (fun (W : World) (hW : W.heap = w4.heap) => sameI_yes (some ⟨gl, 0, none⟩) n cp go n gc g W (NL5.out.heap hW) hn (HLW.out.heap hW) hn (by omega))
    have hn1 : (n : Int) < (n : Int) + 2 := by omega
    have hn2 : (n : Int) + 1 < (n : Int) + 2 := by omega
    have hn0 : (0 : Int) ≤ (n : Int) := by omega
    have hn3 : (0 : Int) ≤ (n : Int) + 1 := by omega
    have hncp : (n : Int) ≤ (cp : Int) := by omega
    have hw1 : IntKind.i64.wrap ((n : Int) + 1) = (n : Int) + 1 := by simp [IntKind.wrap, IntKind.signed, IntKind.bits]; omega
    have hgl : Hid (w.heap.size ≤ gl ∧ ∃ cur, w4.heap[gl]? = some (.cells cur 3 (0, 0)) ∧ cur.size = cp) := by
      rcases CLK.out.lo.2 with ⟨e, _⟩ | ⟨g', cp', cur', e, hb', hc', _, _, hsz, _⟩
      · cases e
      · injection e with e1 _ e3
        injection e1 with e1
        injection e1 with e1
        subst e1 e3
        exact ⟨hb', cur', hc', by omega⟩
    clear m1
    go_region_held3 (fun w' => w'.cell? ⟨w.heap.size, 3, none⟩ = some (.slice go n gc) ∧ w'.cell? ⟨gl, n, none⟩ = some (.int .i64 201) ∧ w'.cell? ⟨gl, n + 1, none⟩ = some (.int .i64 202)) (first | exact ⟨c3, m2, m3⟩ | exact T6.out | go_keep)
      (first | (go_at_call 26; refine (HSI.out _ (by rfl)).mono ?_; rintro en w6 ⟨rfl, hq6⟩; have HQ6 : Hid (Qt w4 w6) := ⟨hq6.os, hq6.tape, hq6.output, hq6.heap⟩; have T6 := hid_intro (show w6.cell? ⟨w.heap.size, 3, none⟩ = some (.slice go n gc) ∧ w6.cell? ⟨gl, n, none⟩ = some (.int .i64 201) ∧ w6.cell? ⟨gl, n + 1, none⟩ = some (.int .i64 202) from ⟨(HQ6.out.cell _).trans c3, (HQ6.out.cell _).trans m2, (HQ6.out.cell _).trans m3⟩); clear hq6))
    all_goals
      clear T6 c3 m2 m3
      have HW0 : Hid (Ow7 w4 w6 gl cp) := by
        obtain ⟨_, cur, hc, hsz⟩ := hgl.out
        exact ⟨⟨cur, by rw [HQ6.out.heap]; exact hc, hsz⟩, Fr.ofN (HQ6.out.grown none)⟩
      go_wp2
      go_loopw [13] (fun si wr => ∃ i : Nat, i ≤ n + 2 ∧ si = .int .i64 i ∧ Ow7 w4 wr gl cp) (fun si _ => n + 2 - (zOf si).toNat)
      case atStart => exact ⟨0, Nat.zero_le _, rfl, HW0.out⟩
      case round =>
        obtain ⟨i, hi, rfl, hw⟩ := hrel
        have HWW := hid_intro hw
        clear hw HW0 HQ6
        by_cases hlt : i < n + 2
        · obtain ⟨⟨v, d0⟩, f0⟩ := HWW.out.cell (i := i) (by omega)
          have HW2 := hid_intro (HWW.out.put i (.int .i64 7))
          have g1 : (i : Int) < (n : Int) + 2 := by omega
          go_wp2
          go_roundw
          case rel => exact ⟨i + 1, by omega, by go_num, HW2.out⟩
          case measure => simp [zOf]; omega
        · have g1 : ¬ (i : Int) < (n : Int) + 2 := by omega
          have HEND := hid_intro (po1_end HP.out HPN.out HFK.out HWW.out hgl.out.1)
          go_wp2
          go_ret
          exact ⟨by first | rfl | simp, HEND.out⟩

set_option maxHeartbeats 16000000 in
set_option maxRecDepth 100000 in
theorem plays_cno {w : World} {Q B s q R : Nat} {F : Nat → Prop} {p : Po} {r : Ro} (h : Pr w Q B s q R F p r) (kd A Bv : Int) (go : Option Addr) (n gc : Nat) (g : List Int) (sec : Bool) (hl : Nt w go g) (hw : Wf g) (hn : g.length = n) (hgb : ∀ ad, go = some ad → 0 < n → ¬ Ob Q B s q F ad.block) (hA : -9223372036854775808 ≤ A ∧ A ≤ 9223372036854775807) (hBv : -9223372036854775808 ≤ Bv ∧ Bv ≤ 9223372036854775807) (hps : r.ps.length ≤ 100000) (hn4 : n ≤ 4000) (hkd : kd = 5) (E : Int) (hE : (lsP p A g = -1 ∧ E = 171) ∨ (0 ≤ lsP p A g ∧ rm p - lsP p A g < A ∧ E = 170)) :
    Calls Try.prog 11 #[.pointer (some ⟨Q, 0, none⟩), .agg #[.int .i64 kd, .int .i64 A, .int .i64 Bv, .slice go n gc, .bool sec]] w fun e w' => e = .returned (.bool true) ∧ Po1 w w' Q B s q R F r := by
  obtain ⟨i1, hi1, hy0, hy1, hy2⟩ := info_parts info_int
  have e1 : (kd == 1) = false := by rw [hkd]; decide
  have e2 : (kd == 2) = false := by rw [hkd]; decide
  have e3 : (kd == 3) = false := by rw [hkd]; decide
  have e4 : (kd == 4) = false := by rw [hkd]; decide
  have e5 : (kd == 5) = true := by rw [hkd]; decide
  clear hkd
  have HEE := hid_intro hE
  have HCM : Hid (∀ W, Pl W B s q p → ∀ (a : Option Addr) (cap : Nat), Nt W a g → Calls Try.prog 23 #[.pointer (some ⟨B, 0, none⟩), .int .i64 A, .slice a n cap, .int .i64 Bv] W fun e w' => e = .returned (.tuple #[.slice none 0 0, .int .i64 E]) ∧ W.grownBy w' none) := fun W hp a cap hnt => by
    rcases hE with ⟨h1, rfl⟩ | ⟨h1, h2, rfl⟩
    · exact commit_pool hp h.ok A a n cap g Bv hnt hn hw (by omega) hA.2 h1
    · exact commit_full hp h.ok A a n cap g Bv hnt hn hw (by omega) hA.2 h1 h2
  have hEb : 0 ≤ E ∧ E ≤ 1000 := by rcases hE with ⟨_, rfl⟩ | ⟨_, _, rfl⟩ <;> omega
  have hEE : (E == E) = true := by simp
  clear hE
  have HP := hid_intro h
  have HL := hid_intro hl
  have HW := hid_intro hw
  have HGB := hid_intro hgb
  have HA := hid_intro hA
  have HBV := hid_intro hBv
  have hn4' : ¬ (4000 : Int) < (n : Int) := by omega
  have gA := World.grownBy_alloc w (.cells (opc kd A Bv go n gc sec) 35) none
  have HPX : Hid ((w.alloc (.cells (opc kd A Bv go n gc sec) 35)).heap[w.heap.size]? = some (.cells (opc kd A Bv go n gc sec) 35 (0, 0))) := heap_alloc_new w _
  have a3 : (w.alloc (.cells #[.int .i64 kd, .int .i64 A, .int .i64 Bv, .slice go n gc, .bool sec] 35)).cell? ⟨w.heap.size, 3, none⟩ = some (.slice go n gc) := cell_of_row _ _ 3 _ _ _ HPX.out
  clear h hl hw hgb hA hBv
  go_enter Try.func11, Try.ntmps11
  go_wp2_with fail
  have HGA := hid_intro (show w.grownBy (w.alloc (.cells #[.int .i64 kd, .int .i64 A, .int .i64 Bv, .slice go n gc, .bool sec] 35)) none from gA)
  have HPA := hid_intro (show (w.alloc (.cells #[.int .i64 kd, .int .i64 A, .int .i64 Bv, .slice go n gc, .bool sec] 35)).heap[w.heap.size]? = some (.cells (opc kd A Bv go n gc sec) 35 (0, 0)) from HPX.out)
  clear gA HPX
  generalize w.alloc (.cells #[.int .i64 kd, .int .i64 A, .int .i64 Bv, .slice go n gc, .bool sec] 35) = wA at *
  refine (refInts_any go n gc g _ (HL.out.keptN HGA.out) hn (by omega)).mono ?_
  rintro en w1 ⟨⟨v1, rfl, ho1⟩, hg1, hs1⟩
  have HO1 := hid_intro ho1
  have HG1 := hid_intro (grown_trans HGA.out hg1)
  have HPX1 := hid_intro ((hg1.block _ (Array.getElem?_eq_some_iff.1 HPA.out).1 (by simp)).trans HPA.out)
  have hsA := hg1.size
  clear ho1 hg1 a3 HPA
  go_wp2_with (at_builtin; refine wpList_append_own _ rfl _ _ 22 rfl wA.heap.size 3 i1 (.int .i64 0) 1 8 Try.underlying22 hi1 hy0 hy1 hy2 rfl (by decide) v1 n (g.map (Value.int .i64)) rfl (HO1.out.alloc _) ⟨w1.heap.size, 0, none⟩ 2 2 [.int .i64 201, .int .i64 202] rfl rfl (news2 w1 3 (.int .i64 201) (.int .i64 202) _ rfl) (by intro u hu; simp at hu; rcases hu with rfl | rfl <;> rfl) (by unfold maxLen; omega) (by omega) (by simp; omega) ?_; intro v2 w2 ho2 hg2 _; obtain ⟨gl, cp, cur, e2, -⟩ := ho2.2.resolve_left (fun e => by have := e.2; omega); subst e2; have HG2 := hid_intro (grown_app5 HG1.out HO1.out HGA.out.size hg2); have HCL : Hid (Cl w2 w.heap.size gl cp n g kd A Bv go gc sec w.heap.size) := (by refine ⟨(hg2.block _ (by have := (Array.getElem?_eq_some_iff.1 HPX1.out).1; simp; omega) (fun e => own_ne_ty HO1.out HPX1.out (by decide) e)).trans ((Below.heap_alloc w1 _ _ (Array.getElem?_eq_some_iff.1 HPX1.out).1).trans HPX1.out), ?_, Nat.le_refl _⟩; rw [List.map_append]; exact own_base ho2 HGA.out.size); clear ho2 hg2; have hcp := (marks_cells HCL.out.lo hn).2.2.2.1; have hcp2 := (marks_cells HCL.out.lo hn).2.2.2.2; have HP2 := hid_intro (HP.out.keptN HG2.out); have S2 := sc_of HP2.out HCL.out; unfold Sc at S2; have t0 := S2.2.2.1; have HS2 := hid_intro (sc_of HP2.out HCL.out); clear S2)
  have hn0 : (0 : Int) ≤ (n : Int) := by omega
  have hncp : (n : Int) ≤ (cp : Int) := by omega
  have NL2 := hid_intro (marks_cells HCL.out.lo hn).1
  go_wp2_with fail
  have S2 := HS2.out
  unfold Sc at S2
  go_region_held3 (fun w' => w'.cell? ⟨Q, 0, none⟩ = some (.pointer (some ⟨B, 0, none⟩)) ∧ w'.cell? ⟨Q, 1, none⟩ = some (.pointer (some ⟨R, 0, none⟩)) ∧ w'.cell? ⟨w.heap.size, 0, none⟩ = some (.int .i64 kd) ∧ w'.cell? ⟨w.heap.size, 1, none⟩ = some (.int .i64 A) ∧ w'.cell? ⟨w.heap.size, 2, none⟩ = some (.int .i64 Bv) ∧ w'.cell? ⟨w.heap.size, 3, none⟩ = some (.slice go n gc)) (first | exact S2 | exact T3.out | go_keep)
    (first
      | (go_at_call 23; refine (HCM.out _ (HP2.out.keptN ((Qt.refl w2).drew.grown none)).pl (some ⟨gl, 0, none⟩) cp (NL2.out.keptN ((Qt.refl w2).drew.grown none))).mono ?_; rintro en w3 ⟨rfl, hg3⟩; have HG3 := hid_intro (grown_trans ((Qt.refl w2).drew.grown none) hg3); have T3 := hid_intro (show ((fun w' => w'.cell? ⟨Q, 0, none⟩ = some (.pointer (some ⟨B, 0, none⟩)) ∧ w'.cell? ⟨Q, 1, none⟩ = some (.pointer (some ⟨R, 0, none⟩)) ∧ w'.cell? ⟨w.heap.size, 0, none⟩ = some (.int .i64 kd) ∧ w'.cell? ⟨w.heap.size, 1, none⟩ = some (.int .i64 A) ∧ w'.cell? ⟨w.heap.size, 2, none⟩ = some (.int .i64 Bv) ∧ w'.cell? ⟨w.heap.size, 3, none⟩ = some (.slice go n gc)) w3) from HS2.out.keptN HG3.out); clear hg3))
  all_goals
    have S3 := T3.out
    clear S2 T3
    go_wp2_with fail
    go_region_held3 (fun w' => w'.cell? ⟨Q, 0, none⟩ = some (.pointer (some ⟨B, 0, none⟩)) ∧ w'.cell? ⟨Q, 1, none⟩ = some (.pointer (some ⟨R, 0, none⟩)) ∧ w'.cell? ⟨w.heap.size, 0, none⟩ = some (.int .i64 kd) ∧ w'.cell? ⟨w.heap.size, 1, none⟩ = some (.int .i64 A) ∧ w'.cell? ⟨w.heap.size, 2, none⟩ = some (.int .i64 Bv) ∧ w'.cell? ⟨w.heap.size, 3, none⟩ = some (.slice go n gc)) (first | exact S3 | exact T4.out | go_keep)
      (first
        | (go_at_call 35; refine (rcommit_no (HP2.out.rz.keptN (grown_trans HG3.out (by first | exact World.grownBy.refl _ _ | exact (Qt.refl w3).drew.grown none | exact ((Qt.refl w3).drew).drew.grown none))) HP.out.ag HP.out.ok HP.out.pl.ms.ris (by omega) A go n gc g Bv (HL.out.keptN (grown_trans (grown_trans HG2.out HG3.out) (by first | exact World.grownBy.refl _ _ | exact (Qt.refl w3).drew.grown none | exact ((Qt.refl w3).drew).drew.grown none))) hn (by omega) HA.out E HEE.out).mono ?_; rintro en w4 ⟨rfl, hg4⟩; have HG4 := hid_intro (grown_trans (grown_trans HG3.out (by first | exact World.grownBy.refl _ _ | exact (Qt.refl w3).drew.grown none | exact ((Qt.refl w3).drew).drew.grown none)) hg4); have T4 := hid_intro (show ((fun w' => w'.cell? ⟨Q, 0, none⟩ = some (.pointer (some ⟨B, 0, none⟩)) ∧ w'.cell? ⟨Q, 1, none⟩ = some (.pointer (some ⟨R, 0, none⟩)) ∧ w'.cell? ⟨w.heap.size, 0, none⟩ = some (.int .i64 kd) ∧ w'.cell? ⟨w.heap.size, 1, none⟩ = some (.int .i64 A) ∧ w'.cell? ⟨w.heap.size, 2, none⟩ = some (.int .i64 Bv) ∧ w'.cell? ⟨w.heap.size, 3, none⟩ = some (.slice go n gc)) w4) from HS2.out.keptN HG4.out); clear hg4))
    all_goals
      clear S3 T4 HG3 NL2 hn0 hncp
      go_wp2_with fail
      refine (sameI_yes none 0 0 none 0 0 [] w4 (Nt.zero _ _) rfl (Nt.zero _ _) rfl (by omega)).mono ?_
      rintro en w5 ⟨rfl, hq5⟩
      have HGK := hid_intro (grown_trans (grown_trans HG2.out HG4.out) (hq5.grown none))
      have CLK := hid_intro ((HCL.out.keptN HG4.out).keptN (hq5.grown none))
      clear HG4 hq5
      go_wp2_with fail
      refine (num17_any _ _).mono ?_
      rintro en w5 ⟨rfl, rfl⟩
      go_upto_region 20 with fail
      have HPN : Hid (∃ F' p' r', Pr w5 Q B s q R F' p' r' ∧ (∀ i, F' i → F i ∨ (w.heap.size ≤ i ∧ i ≠ gl)) ∧ r'.ps.length ≤ r.ps.length + 1) := ⟨F, p, r, HP.out.keptN HGK.out, fun i hi => .inl hi, by omega⟩
      have HFK : Hid (Fr w w5 (Ob Q B s q F)) := Fr.ofN HGK.out
      clear HP2 HCL HG2 HG1 HO1 HGA HPX1 hsA HS2 t0
      have HLW : Hid (Nt w5 go g) := HFK.out.nt HL.out (fun ad e h0 => HGB.out ad e (by omega))
      obtain ⟨m1, m2, m3, -, -⟩ := marks_cells CLK.out.lo hn
      have NL5 := hid_intro m1
      have c3 : w5.cell? ⟨w.heap.size, 3, none⟩ = some (.slice go n gc) := CLK.out.cell 3
      have HSI := hid_intro (fun (W : World) (hW : W.heap = w5.heap) => sameI_yes (some ⟨gl, 0, none⟩) n cp go n gc g W (NL5.out.heap hW) hn (HLW.out.heap hW) hn (by omega))
      have hn1 : (n : Int) < (n : Int) + 2 := by omega
      have hn2 : (n : Int) + 1 < (n : Int) + 2 := by omega
      have hn0 : (0 : Int) ≤ (n : Int) := by omega
      have hn3 : (0 : Int) ≤ (n : Int) + 1 := by omega
      have hncp : (n : Int) ≤ (cp : Int) := by omega
      have hw1 : IntKind.i64.wrap ((n : Int) + 1) = (n : Int) + 1 := by simp [IntKind.wrap, IntKind.signed, IntKind.bits]; omega
      have hgl : Hid (w.heap.size ≤ gl ∧ ∃ cur, w5.heap[gl]? = some (.cells cur 3 (0, 0)) ∧ cur.size = cp) := by
        rcases CLK.out.lo.2 with ⟨e, _⟩ | ⟨g', cp', cur', e, hb', hc', _, _, hsz, _⟩
        · cases e
        · injection e with e1 _ e3
          injection e1 with e1
          injection e1 with e1
          subst e1 e3
          exact ⟨hb', cur', hc', by omega⟩
      clear m1
      go_region_held3 (fun w' => w'.cell? ⟨w.heap.size, 3, none⟩ = some (.slice go n gc) ∧ w'.cell? ⟨gl, n, none⟩ = some (.int .i64 201) ∧ w'.cell? ⟨gl, n + 1, none⟩ = some (.int .i64 202)) (first | exact ⟨c3, m2, m3⟩ | exact T6.out | go_keep)
        (first | (go_at_call 26; refine (HSI.out _ (by rfl)).mono ?_; rintro en w6 ⟨rfl, hq6⟩; have HQ6 : Hid (Qt w5 w6) := ⟨hq6.os, hq6.tape, hq6.output, hq6.heap⟩; have T6 := hid_intro (show w6.cell? ⟨w.heap.size, 3, none⟩ = some (.slice go n gc) ∧ w6.cell? ⟨gl, n, none⟩ = some (.int .i64 201) ∧ w6.cell? ⟨gl, n + 1, none⟩ = some (.int .i64 202) from ⟨(HQ6.out.cell _).trans c3, (HQ6.out.cell _).trans m2, (HQ6.out.cell _).trans m3⟩); clear hq6))
      all_goals
        clear T6 c3 m2 m3
        have HW0 : Hid (Ow7 w5 w6 gl cp) := by
          obtain ⟨_, cur, hc, hsz⟩ := hgl.out
          exact ⟨⟨cur, by rw [HQ6.out.heap]; exact hc, hsz⟩, Fr.ofN (HQ6.out.grown none)⟩
        go_wp2
        go_loopw [13] (fun si wr => ∃ i : Nat, i ≤ n + 2 ∧ si = .int .i64 i ∧ Ow7 w5 wr gl cp) (fun si _ => n + 2 - (zOf si).toNat)
        case atStart => exact ⟨0, Nat.zero_le _, rfl, HW0.out⟩
        case round =>
          obtain ⟨i, hi, rfl, hw⟩ := hrel
          have HWW := hid_intro hw
          clear hw HW0 HQ6
          by_cases hlt : i < n + 2
          · obtain ⟨⟨v, d0⟩, f0⟩ := HWW.out.cell (i := i) (by omega)
            have HW2 := hid_intro (HWW.out.put i (.int .i64 7))
            have g1 : (i : Int) < (n : Int) + 2 := by omega
            go_wp2
            go_roundw
            case rel => exact ⟨i + 1, by omega, by go_num, HW2.out⟩
            case measure => simp [zOf]; omega
          · have g1 : ¬ (i : Int) < (n : Int) + 2 := by omega
            have HEND := hid_intro (po1_end HP.out HPN.out HFK.out HWW.out hgl.out.1)
            go_wp2
            go_ret
            exact ⟨by first | rfl | simp, HEND.out⟩
end Go.Proofs.Ytpoflmcmlnghhaa
