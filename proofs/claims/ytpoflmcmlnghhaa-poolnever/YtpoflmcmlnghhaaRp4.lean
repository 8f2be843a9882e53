import Derived.Test.YtpoflmcmlnghhaaRp2
namespace Go.Proofs.Ytpoflmcmlnghhaa
open Go.RowKit Go.Maps

set_option maxHeartbeats 16000000 in
set_option maxRecDepth 100000 in
theorem plays_unyes {w : World} {Q B s q R : Nat} {F : Nat → Prop} {p : Po} {r : Ro} (h : Pr w Q B s q R F p r) (kd A Bv : Int) (go : Option Addr) (n gc : Nat) (g : List Int) (sec : Bool) (hl : Nt w go g) (hw : Wf g) (hn : g.length = n) (hgb : ∀ ad, go = some ad → 0 < n → ¬ Ob Q B s q F ad.block) (hA : -9223372036854775808 ≤ A ∧ A ≤ 9223372036854775807) (hBv : -9223372036854775808 ≤ Bv ∧ Bv ≤ 9223372036854775807) (hps : r.ps.length ≤ 100000) (hn4 : n ≤ 4000) (hkd : kd = 2) (hv : A ∈ r.ps) :
    Calls Try.prog 11 #[.pointer (some ⟨Q, 0, none⟩), .agg #[.int .i64 kd, .int .i64 A, .int .i64 Bv, .slice go n gc, .bool sec]] w fun e w' => e = .returned (.bool true) ∧ Po1 w w' Q B s q R F r := by
  obtain ⟨i1, hi1, hy0, hy1, hy2⟩ := info_parts info_int
  have e1 : (kd == 1) = false := by rw [hkd]; decide
  have e2 : (kd == 2) = true := by rw [hkd]; decide
  clear hkd
  have HP := hid_intro h
  have HL := hid_intro hl
  have HW := hid_intro hw
  have HGB := hid_intro hgb
  have HA := hid_intro hA
  have HBV := hid_intro hBv
  have hn4' : ¬ (4000 : Int) < (n : Int) := by omega
  have gA := World.grownBy_alloc w (.cells (opc kd A Bv go n gc sec) 35) none
  have HPX : Hid ((w.alloc (.cells (opc kd A Bv go n gc sec) 35)).heap[w.heap.size]? = some (.cells (opc kd A Bv go n gc sec) 35 (0, 0))) := heap_alloc_new w _
  have a3 : (w.alloc (.cells #[.int .i64 kd, .int .i64 A, .int .i64 Bv, .slice go n gc, .bool sec] 35)).cell? ⟨w.heap.size, 3, none⟩ = some (.slice go n gc) := cell_of_row _ _ 3 _ _ _ HPX.out
  clear h hl hw hgb hA hBv
  go_enter Try.func11, Try.ntmps11
  go_wp2_with fail
  have HGA := hid_intro (show w.grownBy (w.alloc (.cells #[.int .i64 kd, .int .i64 A, .int .i64 Bv, .slice go n gc, .bool sec] 35)) none from gA)
  have HPA := hid_intro (show (w.alloc (.cells #[.int .i64 kd, .int .i64 A, .int .i64 Bv, .slice go n gc, .bool sec] 35)).heap[w.heap.size]? = some (.cells (opc kd A Bv go n gc sec) 35 (0, 0)) from HPX.out)
  clear gA HPX
  generalize w.alloc (.cells #[.int .i64 kd, .int .i64 A, .int .i64 Bv, .slice go n gc, .bool sec] 35) = wA at *
  refine (refInts_any go n gc g _ (HL.out.keptN HGA.out) hn (by omega)).mono ?_
  rintro en w1 ⟨⟨v1, rfl, ho1⟩, hg1, hs1⟩
  have HO1 := hid_intro ho1
  have HG1 := hid_intro (grown_trans HGA.out hg1)
  have HPX1 := hid_intro ((hg1.block _ (Array.getElem?_eq_some_iff.1 HPA.out).1 (by simp)).trans HPA.out)
  have hsA := hg1.size
  clear ho1 hg1 a3 HPA
  go_wp2_with (at_builtin; refine wpList_append_own _ rfl _ _ 22 rfl wA.heap.size 3 i1 (.int .i64 0) 1 8 Try.underlying22 hi1 hy0 hy1 hy2 rfl (by decide) v1 n (g.map (Value.int .i64)) rfl (HO1.out.alloc _) ⟨w1.heap.size, 0, none⟩ 2 2 [.int .i64 201, .int .i64 202] rfl rfl (news2 w1 3 (.int .i64 201) (.int .i64 202) _ rfl) (by intro u hu; simp at hu; rcases hu with rfl | rfl <;> rfl) (by unfold maxLen; omega) (by omega) (by simp; omega) ?_; intro v2 w2 ho2 hg2 _; obtain ⟨gl, cp, cur, e2, -⟩ := ho2.2.resolve_left (fun e => by have := e.2; omega); subst e2; have HG2 := hid_intro (grown_app5 HG1.out HO1.out HGA.out.size hg2); have HCL : Hid (Cl w2 w.heap.size gl cp n g kd A Bv go gc sec w.heap.size) := (by refine ⟨(hg2.block _ (by have := (Array.getElem?_eq_some_iff.1 HPX1.out).1; simp; omega) (fun e => own_ne_ty HO1.out HPX1.out (by decide) e)).trans ((Below.heap_alloc w1 _ _ (Array.getElem?_eq_some_iff.1 HPX1.out).1).trans HPX1.out), ?_, Nat.le_refl _⟩; rw [List.map_append]; exact own_base ho2 HGA.out.size); clear ho2 hg2; have hcp := (marks_cells HCL.out.lo hn).2.2.2.1; have hcp2 := (marks_cells HCL.out.lo hn).2.2.2.2; have HP2 := hid_intro (HP.out.keptN HG2.out); have S2 := sc_of HP2.out HCL.out; unfold Sc at S2; have t0 := S2.2.2.1; have HS2 := hid_intro (sc_of HP2.out HCL.out); clear S2)
  have HPQ := hid_intro (HP.out.ag.q.get A)
  have hql := HP.out.ag.q.len
  have HV := hid_intro hv
  have HG0 : Hid (1 ≤ getI p.q A) := by
    have h1 := HPQ.out.1
    have h2 := HPQ.out.2.2
    have h3 : getI p.q A ≠ 0 := fun e => h2.1 e HV.out
    show 1 ≤ getI p.q A
    omega
  have HQB := hid_intro HP.out.qB
  have HQF := hid_intro HP.out.qF
  clear hv
  go_wp2_with fail
  have S2 := HS2.out
  unfold Sc at S2
  go_region_held3 (fun w' => w'.cell? ⟨Q, 0, none⟩ = some (.pointer (some ⟨B, 0, none⟩)) ∧ w'.cell? ⟨Q, 1, none⟩ = some (.pointer (some ⟨R, 0, none⟩)) ∧ w'.cell? ⟨w.heap.size, 0, none⟩ = some (.int .i64 kd) ∧ w'.cell? ⟨w.heap.size, 1, none⟩ = some (.int .i64 A) ∧ w'.cell? ⟨w.heap.size, 2, none⟩ = some (.int .i64 Bv) ∧ w'.cell? ⟨w.heap.size, 3, none⟩ = some (.slice go n gc)) (first | exact S2 | exact T4.out | exact T3.out | go_keep)
    (first
      | (go_at_call 25; refine (unpin_yes A (HP2.out.keptN ((Qt.refl w2).drew.grown none)).pl HA.out HG0.out (by omega)).mono ?_; rintro en w3 ⟨rfl, hp3, hf3⟩; have HP3 := hid_intro hp3; have HF3 := hid_intro (fr_drew hf3); have HS3 := hid_intro (HS2.out.fr HF3.out HQB.out (fun e => by have := HP.out.pl.low _ e; omega)); have T3 := hid_intro (show ((fun w' => w'.cell? ⟨Q, 0, none⟩ = some (.pointer (some ⟨B, 0, none⟩)) ∧ w'.cell? ⟨Q, 1, none⟩ = some (.pointer (some ⟨R, 0, none⟩)) ∧ w'.cell? ⟨w.heap.size, 0, none⟩ = some (.int .i64 kd) ∧ w'.cell? ⟨w.heap.size, 1, none⟩ = some (.int .i64 A) ∧ w'.cell? ⟨w.heap.size, 2, none⟩ = some (.int .i64 Bv) ∧ w'.cell? ⟨w.heap.size, 3, none⟩ = some (.slice go n gc)) w3) from HS3.out); clear hp3 hf3)
      | (go_at_call 33; refine (runpin_yes (v := A) ((HP2.out.rz.fr HF3.out (fun i hi => HP.out.dj i hi)).keptN (by first | exact World.grownBy.refl _ _ | exact (Qt.refl w3).drew.grown none | exact ((Qt.refl w3).drew).drew.grown none)) (by omega) HV.out).mono ?_; rintro en w4 ⟨rfl, hz4, hf4⟩; have HZ4 := hid_intro (show Rz w4 (Nf F w3 w4) R _ from hz4); have HF4 : Hid (Fr w3 w4 F) := (by first | exact hf4 | exact fr_drew hf4); have T4 := hid_intro (show ((fun w' => w'.cell? ⟨Q, 0, none⟩ = some (.pointer (some ⟨B, 0, none⟩)) ∧ w'.cell? ⟨Q, 1, none⟩ = some (.pointer (some ⟨R, 0, none⟩)) ∧ w'.cell? ⟨w.heap.size, 0, none⟩ = some (.int .i64 kd) ∧ w'.cell? ⟨w.heap.size, 1, none⟩ = some (.int .i64 A) ∧ w'.cell? ⟨w.heap.size, 2, none⟩ = some (.int .i64 Bv) ∧ w'.cell? ⟨w.heap.size, 3, none⟩ = some (.slice go n gc)) w4) from HS3.out.fr HF4.out HQF.out (fun e => by have := HP.out.rz.low _ e; omega)); clear hz4 hf4))
  all_goals
    clear S2 T3 T4 HS3
    go_upto_region 20 with fail
    have HBO := hid_intro (pr_both (gl := gl) HP.out HG2.out HF3.out HP3.out HF4.out HZ4.out (⟨HP.out.ok.c2, HP.out.ok.ck, HP.out.ok.k, HP.out.ok.l⟩) (⟨HP.out.ag.c, HP.out.ag.k, HP.out.ag.l, HP.out.ag.q.unpin HV.out⟩) (by show (r.ps.erase A).length ≤ _; have := List.length_erase_of_mem HV.out; omega) hps HCL.out.glt)
    have HPN := hid_intro HBO.out.1
    have HFK := hid_intro HBO.out.2
    have CLK := hid_intro ((HCL.out.fr HF3.out (fun i hi => .inl (HP.out.pl.low i hi))).fr HF4.out (fun i hi => .inl (HP.out.rz.low i hi)))
    clear HBO HF3 HP3 HF4 HZ4
    clear HP2 HCL HG2 HG1 HO1 HGA HPX1 hsA HS2 t0
    have HLW : Hid (Nt w4 go g) := HFK.out.nt HL.out (fun ad e h0 => HGB.out ad e (by omega))
    obtain ⟨m1, m2, m3, -, -⟩ := marks_cells CLK.out.lo hn
    have NL5 := hid_intro m1
    have c3 : w4.cell? ⟨w.heap.size, 3, none⟩ = some (.slice go n gc) := CLK.out.cell 3
    have HSI := hid_intro (fun (W : World) (hW : W.heap = w4.heap) => sameI_yes (some ⟨gl, 0, none⟩) n cp go n gc g W (NL5.out.heap hW) hn (HLW.out.heap hW) hn (by omega))
    have hn1 : (n : Int) < (n : Int) + 2 := by omega
    have hn2 : (n : Int) + 1 < (n : Int) + 2 := by omega
    have hn0 : (0 : Int) ≤ (n : Int) := by omega
    have hn3 : (0 : Int) ≤ (n : Int) + 1 := by omega
    have hncp : (n : Int) ≤ (cp : Int) := by omega
    have hw1 : IntKind.i64.wrap ((n : Int) + 1) = (n : Int) + 1 := by simp [IntKind.wrap, IntKind.signed, IntKind.bits]; omega
    have hgl : Hid (w.heap.size ≤ gl ∧ ∃ cur, w4.heap[gl]? = some (.cells cur 3 (0, 0)) ∧ cur.size = cp) := by
      rcases CLK.out.lo.2 with ⟨e, _⟩ | ⟨g', cp', cur', e, hb', hc', _, _, hsz, _⟩
      · cases e
      · injection e with e1 _ e3
        injection e1 with e1
        injection e1 with e1
        subst e1 e3
        exact ⟨hb', cur', hc', by omega⟩
    clear m1
    go_region_held3 (fun w' => w'.cell? ⟨w.heap.size, 3, none⟩ = some (.slice go n gc) ∧ w'.cell? ⟨gl, n, none⟩ = some (.int .i64 201) ∧ w'.cell? ⟨gl, n + 1, none⟩ = some (.int .i64 202)) (first | exact ⟨c3, m2, m3⟩ | exact T6.out | go_keep)
      (first | (go_at_call 26; refine (HSI.out _ (by rfl)).mono ?_; rintro en w6 ⟨rfl, hq6⟩; have HQ6 : Hid (Qt w4 w6) := ⟨hq6.os, hq6.tape, hq6.output, hq6.heap⟩; have T6 := hid_intro (show w6.cell? ⟨w.heap.size, 3, none⟩ = some (.slice go n gc) ∧ w6.cell? ⟨gl, n, none⟩ = some (.int .i64 201) ∧ w6.cell? ⟨gl, n + 1, none⟩ = some (.int .i64 202) from ⟨(HQ6.out.cell _).trans c3, (HQ6.out.cell _).trans m2, (HQ6.out.cell _).trans m3⟩); clear hq6))
    all_goals
      clear T6 c3 m2 m3
      have HW0 : Hid (Ow7 w4 w6 gl cp) := by
        obtain ⟨_, cur, hc, hsz⟩ := hgl.out
        exact ⟨⟨cur, by rw [HQ6.out.heap]; exact hc, hsz⟩, Fr.ofN (HQ6.out.grown none)⟩
      go_wp2
      go_loopw [13] (fun si wr => ∃ i : Nat, i ≤ n + 2 ∧ si = .int .i64 i ∧ Ow7 w4 wr gl cp) (fun si _ => n + 2 - (zOf si).toNat)
      case atStart => exact ⟨0, Nat.zero_le _, rfl, HW0.out⟩
      case round =>
        obtain ⟨i, hi, rfl, hw⟩ := hrel
        have HWW := hid_intro hw
        clear hw HW0 HQ6
        by_cases hlt : i < n + 2
        · obtain ⟨⟨v, d0⟩, f0⟩ := HWW.out.cell (i := i) (by omega)
          have HW2 := hid_intro (HWW.out.put i (.int .i64 7))
          have g1 : (i : Int) < (n : Int) + 2 := by omega
          go_wp2
          go_roundw
          case rel => exact ⟨i + 1, by omega, by go_num, HW2.out⟩
          case measure => simp [zOf]; omega
        · have g1 : ¬ (i : Int) < (n : Int) + 2 := by omega
          have HEND := hid_intro (po1_end HP.out HPN.out HFK.out HWW.out hgl.out.1)
          go_wp2
          go_ret
          exact ⟨by first | rfl | simp, HEND.out⟩

set_option maxHeartbeats 16000000 in
set_option maxRecDepth 100000 in
theorem plays_tells {w : World} {Q B s q R : Nat} {F : Nat → Prop} {p : Po} {r : Ro} (h : Pr w Q B s q R F p r) (kd A Bv : Int) (go : Option Addr) (n gc : Nat) (g : List Int) (sec : Bool) (hl : Nt w go g) (hw : Wf g) (hn : g.length = n) (hgb : ∀ ad, go = some ad → 0 < n → ¬ Ob Q B s q F ad.block) (hA : -9223372036854775808 ≤ A ∧ A ≤ 9223372036854775807) (hBv : -9223372036854775808 ≤ Bv ∧ Bv ≤ 9223372036854775807) (_hps : r.ps.length ≤ 100000) (hn4 : n ≤ 4000) (hkd : kd = 3) :
    Calls Try.prog 11 #[.pointer (some ⟨Q, 0, none⟩), .agg #[.int .i64 kd, .int .i64 A, .int .i64 Bv, .slice go n gc, .bool sec]] w fun e w' => e = .returned (.bool true) ∧ Po1 w w' Q B s q R F r := by
  obtain ⟨i1, hi1, hy0, hy1, hy2⟩ := info_parts info_int
  have e1 : (kd == 1) = false := by rw [hkd]; decide
  have e2 : (kd == 2) = false := by rw [hkd]; decide
  have e3 : (kd == 3) = true := by rw [hkd]; decide
  clear hkd
  have HP := hid_intro h
  have HL := hid_intro hl
  have HW := hid_intro hw
  have HGB := hid_intro hgb
  have HA := hid_intro hA
  have HBV := hid_intro hBv
  have hn4' : ¬ (4000 : Int) < (n : Int) := by omega
  have gA := World.grownBy_alloc w (.cells (opc kd A Bv go n gc sec) 35) none
  have HPX : Hid ((w.alloc (.cells (opc kd A Bv go n gc sec) 35)).heap[w.heap.size]? = some (.cells (opc kd A Bv go n gc sec) 35 (0, 0))) := heap_alloc_new w _
  have a3 : (w.alloc (.cells #[.int .i64 kd, .int .i64 A, .int .i64 Bv, .slice go n gc, .bool sec] 35)).cell? ⟨w.heap.size, 3, none⟩ = some (.slice go n gc) := cell_of_row _ _ 3 _ _ _ HPX.out
  clear h hl hw hgb hA hBv
  go_enter Try.func11, Try.ntmps11
  go_wp2_with fail
  have HGA := hid_intro (show w.grownBy (w.alloc (.cells #[.int .i64 kd, .int .i64 A, .int .i64 Bv, .slice go n gc, .bool sec] 35)) none from gA)
  have HPA := hid_intro (show (w.alloc (.cells #[.int .i64 kd, .int .i64 A, .int .i64 Bv, .slice go n gc, .bool sec] 35)).heap[w.heap.size]? = some (.cells (opc kd A Bv go n gc sec) 35 (0, 0)) from HPX.out)
  clear gA HPX
  generalize w.alloc (.cells #[.int .i64 kd, .int .i64 A, .int .i64 Bv, .slice go n gc, .bool sec] 35) = wA at *
  refine (refInts_any go n gc g _ (HL.out.keptN HGA.out) hn (by omega)).mono ?_
  rintro en w1 ⟨⟨v1, rfl, ho1⟩, hg1, hs1⟩
  have HO1 := hid_intro ho1
  have HG1 := hid_intro (grown_trans HGA.out hg1)
  have HPX1 := hid_intro ((hg1.block _ (Array.getElem?_eq_some_iff.1 HPA.out).1 (by simp)).trans HPA.out)
  have hsA := hg1.size
  clear ho1 hg1 a3 HPA
  go_wp2_with (at_builtin; refine wpList_append_own _ rfl _ _ 22 rfl wA.heap.size 3 i1 (.int .i64 0) 1 8 Try.underlying22 hi1 hy0 hy1 hy2 rfl (by decide) v1 n (g.map (Value.int .i64)) rfl (HO1.out.alloc _) ⟨w1.heap.size, 0, none⟩ 2 2 [.int .i64 201, .int .i64 202] rfl rfl (news2 w1 3 (.int .i64 201) (.int .i64 202) _ rfl) (by intro u hu; simp at hu; rcases hu with rfl | rfl <;> rfl) (by unfold maxLen; omega) (by omega) (by simp; omega) ?_; intro v2 w2 ho2 hg2 _; obtain ⟨gl, cp, cur, e2, -⟩ := ho2.2.resolve_left (fun e => by have := e.2; omega); subst e2; have HG2 := hid_intro (grown_app5 HG1.out HO1.out HGA.out.size hg2); have HCL : Hid (Cl w2 w.heap.size gl cp n g kd A Bv go gc sec w.heap.size) := (by refine ⟨(hg2.block _ (by have := (Array.getElem?_eq_some_iff.1 HPX1.out).1; simp; omega) (fun e => own_ne_ty HO1.out HPX1.out (by decide) e)).trans ((Below.heap_alloc w1 _ _ (Array.getElem?_eq_some_iff.1 HPX1.out).1).trans HPX1.out), ?_, Nat.le_refl _⟩; rw [List.map_append]; exact own_base ho2 HGA.out.size); clear ho2 hg2; have hcp := (marks_cells HCL.out.lo hn).2.2.2.1; have hcp2 := (marks_cells HCL.out.lo hn).2.2.2.2; have HP2 := hid_intro (HP.out.keptN HG2.out); have S2 := sc_of HP2.out HCL.out; unfold Sc at S2; have t0 := S2.2.2.1; have HS2 := hid_intro (sc_of HP2.out HCL.out); clear S2)
  go_wp2_with fail
  refine (tells_any HP2.out).mono ?_
  rintro en wK ⟨rfl, hg3⟩
  have HGK := hid_intro (grown_trans HG2.out hg3)
  have CLK := hid_intro (HCL.out.keptN hg3)
  clear hg3
  go_upto_region 20 with fail
  have HPN : Hid (∃ F' p' r', Pr wK Q B s q R F' p' r' ∧ (∀ i, F' i → F i ∨ (w.heap.size ≤ i ∧ i ≠ gl)) ∧ r'.ps.length ≤ r.ps.length + 1) := ⟨F, p, r, HP.out.keptN HGK.out, fun i hi => .inl hi, by omega⟩
  have HFK : Hid (Fr w wK (Ob Q B s q F)) := Fr.ofN HGK.out
  clear HP2 HCL HG2 HG1 HO1 HGA HPX1 hsA HS2 t0
  have HLW : Hid (Nt wK go g) := HFK.out.nt HL.out (fun ad e h0 => HGB.out ad e (by omega))
  obtain ⟨m1, m2, m3, -, -⟩ := marks_cells CLK.out.lo hn
  have NL5 := hid_intro m1
  have c3 : wK.cell? ⟨w.heap.size, 3, none⟩ = some (.slice go n gc) := CLK.out.cell 3
  have HSI := hid_intro (fun (W : World) (hW : W.heap = wK.heap) => sameI_yes (some ⟨gl, 0, none⟩) n cp go n gc g W (NL5.out.heap hW) hn (HLW.out.heap hW) hn (by omega))
  have hn1 : (n : Int) < (n : Int) + 2 := by omega
  have hn2 : (n : Int) + 1 < (n : Int) + 2 := by omega
  have hn0 : (0 : Int) ≤ (n : Int) := by omega
  have hn3 : (0 : Int) ≤ (n : Int) + 1 := by omega
  have hncp : (n : Int) ≤ (cp : Int) := by omega
  have hw1 : IntKind.i64.wrap ((n : Int) + 1) = (n : Int) + 1 := by simp [IntKind.wrap, IntKind.signed, IntKind.bits]; omega
  have hgl : Hid (w.heap.size ≤ gl ∧ ∃ cur, wK.heap[gl]? = some (.cells cur 3 (0, 0)) ∧ cur.size = cp) := by
    rcases CLK.out.lo.2 with ⟨e, _⟩ | ⟨g', cp', cur', e, hb', hc', _, _, hsz, _⟩
    · cases e
    · injection e with e1 _ e3
      injection e1 with e1
      injection e1 with e1
      subst e1 e3
      exact ⟨hb', cur', hc', by omega⟩
  clear m1
  go_region_held3 (fun w' => w'.cell? ⟨w.heap.size, 3, none⟩ = some (.slice go n gc) ∧ w'.cell? ⟨gl, n, none⟩ = some (.int .i64 201) ∧ w'.cell? ⟨gl, n + 1, none⟩ = some (.int .i64 202)) (first | exact ⟨c3, m2, m3⟩ | exact T6.out | go_keep)
    (first | (go_at_call 26; refine (HSI.out _ (by rfl)).mono ?_; rintro en w6 ⟨rfl, hq6⟩; have HQ6 : Hid (Qt wK w6) := ⟨hq6.os, hq6.tape, hq6.output, hq6.heap⟩; have T6 := hid_intro (show w6.cell? ⟨w.heap.size, 3, none⟩ = some (.slice go n gc) ∧ w6.cell? ⟨gl, n, none⟩ = some (.int .i64 201) ∧ w6.cell? ⟨gl, n + 1, none⟩ = some (.int .i64 202) from ⟨(HQ6.out.cell _).trans c3, (HQ6.out.cell _).trans m2, (HQ6.out.cell _).trans m3⟩); clear hq6))
  all_goals
    clear T6 c3 m2 m3
    have HW0 : Hid (Ow7 wK w6 gl cp) := by
      obtain ⟨_, cur, hc, hsz⟩ := hgl.out
      exact ⟨⟨cur, by rw [HQ6.out.heap]; exact hc, hsz⟩, Fr.ofN (HQ6.out.grown none)⟩
    go_wp2
    go_loopw [13] (fun si wr => ∃ i : Nat, i ≤ n + 2 ∧ si = .int .i64 i ∧ Ow7 wK wr gl cp) (fun si _ => n + 2 - (zOf si).toNat)
    case atStart => exact ⟨0, Nat.zero_le _, rfl, HW0.out⟩
    case round =>
      obtain ⟨i, hi, rfl, hw⟩ := hrel
      have HWW := hid_intro hw
      clear hw HW0 HQ6
      by_cases hlt : i < n + 2
      · obtain ⟨⟨v, d0⟩, f0⟩ := HWW.out.cell (i := i) (by omega)
        have HW2 := hid_intro (HWW.out.put i (.int .i64 7))
        have g1 : (i : Int) < (n : Int) + 2 := by omega
        go_wp2
        go_roundw
        case rel => exact ⟨i + 1, by omega, by go_num, HW2.out⟩
        case measure => simp [zOf]; omega
      · have g1 : ¬ (i : Int) < (n : Int) + 2 := by omega
        have HEND := hid_intro (po1_end HP.out HPN.out HFK.out HWW.out hgl.out.1)
        go_wp2
        go_ret
        exact ⟨by first | rfl | simp, HEND.out⟩
end Go.Proofs.Ytpoflmcmlnghhaa
