import Derived.Test.YtpoflmcmlnghhaaRp2
namespace Go.Proofs.Ytpoflmcmlnghhaa
open Go.RowKit Go.Maps

set_option maxHeartbeats 16000000 in
set_option maxRecDepth 100000 in
theorem plays_cyes {w : World} {Q B s q R : Nat} {F : Nat → Prop} {p : Po} {r : Ro} (h : Pr w Q B s q R F p r) (kd A Bv : Int) (go : Option Addr) (n gc : Nat) (g : List Int) (sec : Bool) (hl : Nt w go g) (hw : Wf g) (hn : g.length = n) (hgb : ∀ ad, go = some ad → 0 < n → ¬ Ob Q B s q F ad.block) (hA : -9223372036854775808 ≤ A ∧ A ≤ 9223372036854775807) (hBv : -9223372036854775808 ≤ Bv ∧ Bv ≤ 9223372036854775807) (hps : r.ps.length ≤ 100000) (hn4 : n ≤ 4000) (hkd : kd = 5) (hf : 0 ≤ lsP p A g) (hr : A ≤ rm p - lsP p A g) :
    Calls Try.prog 11 #[.pointer (some ⟨Q, 0, none⟩), .agg #[.int .i64 kd, .int .i64 A, .int .i64 Bv, .slice go n gc, .bool sec]] w fun e w' => e = .returned (.bool true) ∧ Po1 w w' Q B s q R F r := by
  obtain ⟨i1, hi1, hy0, hy1, hy2⟩ := info_parts info_int
  have e1 : (kd == 1) = false := by rw [hkd]; decide
  have e2 : (kd == 2) = false := by rw [hkd]; decide
  have e3 : (kd == 3) = false := by rw [hkd]; decide
  have e4 : (kd == 4) = false := by rw [hkd]; decide
  have e5 : (kd == 5) = true := by rw [hkd]; decide
  clear hkd
  have hA0 := (may_of_ls hf).1
  have HFF := hid_intro hf
  have HRR := hid_intro hr
  clear hf hr
  have HP := hid_intro h
  have HL := hid_intro hl
  have HW := hid_intro hw
  have HGB := hid_intro hgb
  have HA := hid_intro hA
  have HBV := hid_intro hBv
  have hn4' : ¬ (4000 : Int) < (n : Int) := by omega
  have gA := World.grownBy_alloc w (.cells (opc kd A Bv go n gc sec) 35) none
  have HPX : Hid ((w.alloc (.cells (opc kd A Bv go n gc sec) 35)).heap[w.heap.size]? = some (.cells (opc kd A Bv go n gc sec) 35 (0, 0))) := heap_alloc_new w _
  have a3 : (w.alloc (.cells #[.int .i64 kd, .int .i64 A, .int .i64 Bv, .slice go n gc, .bool sec] 35)).cell? ⟨w.heap.size, 3, none⟩ = some (.slice go n gc) := cell_of_row _ _ 3 _ _ _ HPX.out
  clear h hl hw hgb hA hBv
  go_enter Try.func11, Try.ntmps11
  go_wp2_with fail
  have HGA := hid_intro (show w.grownBy (w.alloc (.cells #[.int .i64 kd, .int .i64 A, .int .i64 Bv, .slice go n gc, .bool sec] 35)) none from gA)
  have HPA := hid_intro (show (w.alloc (.cells #[.int .i64 kd, .int .i64 A, .int .i64 Bv, .slice go n gc, .bool sec] 35)).heap[w.heap.size]? = some (.cells (opc kd A Bv go n gc sec) 35 (0, 0)) from HPX.out)
  clear gA HPX
  generalize w.alloc (.cells #[.int .i64 kd, .int .i64 A, .int .i64 Bv, .slice go n gc, .bool sec] 35) = wA at *
  refine (refInts_any go n gc g _ (HL.out.keptN HGA.out) hn (by omega)).mono ?_
  rintro en w1 ⟨⟨v1, rfl, ho1⟩, hg1, hs1⟩
  have HO1 := hid_intro ho1
  have HG1 := hid_intro (grown_trans HGA.out hg1)
  have HPX1 := hid_intro ((hg1.block _ (Array.getElem?_eq_some_iff.1 HPA.out).1 (by simp)).trans HPA.out)
  have hsA := hg1.size
  clear ho1 hg1 a3 HPA
  go_wp2_with (at_builtin; refine wpList_append_own _ rfl _ _ 22 rfl wA.heap.size 3 i1 (.int .i64 0) 1 8 Try.underlying22 hi1 hy0 hy1 hy2 rfl (by decide) v1 n (g.map (Value.int .i64)) rfl (HO1.out.alloc _) ⟨w1.heap.size, 0, none⟩ 2 2 [.int .i64 201, .int .i64 202] rfl rfl (news2 w1 3 (.int .i64 201) (.int .i64 202) _ rfl) (by intro u hu; simp at hu; rcases hu with rfl | rfl <;> rfl) (by unfold maxLen; omega) (by omega) (by simp; omega) ?_; intro v2 w2 ho2 hg2 _; obtain ⟨gl, cp, cur, e2, -⟩ := ho2.2.resolve_left (fun e => by have := e.2; omega); subst e2; have HG2 := hid_intro (grown_app5 HG1.out HO1.out HGA.out.size hg2); have HCL : Hid (Cl w2 w.heap.size gl cp n g kd A Bv go gc sec w.heap.size) := (by refine ⟨(hg2.block _ (by have := (Array.getElem?_eq_some_iff.1 HPX1.out).1; simp; omega) (fun e => own_ne_ty HO1.out HPX1.out (by decide) e)).trans ((Below.heap_alloc w1 _ _ (Array.getElem?_eq_some_iff.1 HPX1.out).1).trans HPX1.out), ?_, Nat.le_refl _⟩; rw [List.map_append]; exact own_base ho2 HGA.out.size); clear ho2 hg2; have hcp := (marks_cells HCL.out.lo hn).2.2.2.1; have hcp2 := (marks_cells HCL.out.lo hn).2.2.2.2; have HP2 := hid_intro (HP.out.keptN HG2.out); have S2 := sc_of HP2.out HCL.out; unfold Sc at S2; have t0 := S2.2.2.1; have HS2 := hid_intro (sc_of HP2.out HCL.out); clear S2)
  have hn0 : (0 : Int) ≤ (n : Int) := by omega
  have hncp : (n : Int) ≤ (cp : Int) := by omega
  have NL2 := hid_intro (marks_cells HCL.out.lo hn).1
  have hgl2 := HCL.out.lo
  have HGB2 : Hid (∀ ad : Addr, some (⟨gl, 0, none⟩ : Addr) = some ad → 0 < n → ¬ Bk B s q ad.block) := fun ad e _ hb => by
    cases e
    have h1 := HP.out.pl.low _ hb
    have h2 := (own_lt HCL.out.lo (g := gl) rfl).1
    simp at h1
    omega
  have HGF : Hid (∀ ad, go = some ad → 0 < n → ¬ F ad.block) := fun ad e h0 hb => HGB.out ad e h0 (.inr (.inr hb))
  have HQB := hid_intro HP.out.qB
  have HQF := hid_intro HP.out.qF
  clear hgl2
  go_wp2_with fail
  have S2 := HS2.out
  unfold Sc at S2
  go_region_held3 (fun w' => w'.cell? ⟨Q, 0, none⟩ = some (.pointer (some ⟨B, 0, none⟩)) ∧ w'.cell? ⟨Q, 1, none⟩ = some (.pointer (some ⟨R, 0, none⟩)) ∧ w'.cell? ⟨w.heap.size, 0, none⟩ = some (.int .i64 kd) ∧ w'.cell? ⟨w.heap.size, 1, none⟩ = some (.int .i64 A) ∧ w'.cell? ⟨w.heap.size, 2, none⟩ = some (.int .i64 Bv) ∧ w'.cell? ⟨w.heap.size, 3, none⟩ = some (.slice go n gc)) (first | exact S2 | exact T3.out | go_keep)
    (first
      | (go_at_call 23; refine (commit_ok (HP2.out.keptN ((Qt.refl w2).drew.grown none)).pl HP.out.ok A (some ⟨gl, 0, none⟩) n cp g Bv (NL2.out.keptN ((Qt.refl w2).drew.grown none)) HGB2.out hn HW.out (by omega) hA0 HA.out.2 HFF.out HRR.out HBV.out).mono ?_; rintro en w3 ⟨u3, rfl, ho3, hp3, hf3⟩; obtain ⟨xa, xc, rfl, -⟩ := owns_ints ho3; have HO3 := hid_intro (show w3.ownsRow w2.heap.size 3 1 _ _ _ from ho3); have HP3 := hid_intro hp3; have HF3 := hid_intro (fr_drew hf3); have HS3 := hid_intro (HS2.out.fr HF3.out HQB.out (fun e => by have := HP.out.pl.low _ e; omega)); have T3 := hid_intro (show ((fun w' => w'.cell? ⟨Q, 0, none⟩ = some (.pointer (some ⟨B, 0, none⟩)) ∧ w'.cell? ⟨Q, 1, none⟩ = some (.pointer (some ⟨R, 0, none⟩)) ∧ w'.cell? ⟨w.heap.size, 0, none⟩ = some (.int .i64 kd) ∧ w'.cell? ⟨w.heap.size, 1, none⟩ = some (.int .i64 A) ∧ w'.cell? ⟨w.heap.size, 2, none⟩ = some (.int .i64 Bv) ∧ w'.cell? ⟨w.heap.size, 3, none⟩ = some (.slice go n gc)) w3) from HS3.out); clear hp3 hf3 ho3))
  all_goals
    clear S2 T3
    have S3 := HS3.out
    unfold Sc at S3
    have HL3 : Hid (Nt w3 go g) := ((Fr.ofN HG2.out).trans (HF3.out.wide (G := Ob Q B s q F) (fun i hi _ => .inr (.inl hi)))).nt HL.out (fun ad e h0 => HGB.out ad e (by omega))
    go_wp2_with fail
    go_region_held3 (fun w' => w'.cell? ⟨Q, 0, none⟩ = some (.pointer (some ⟨B, 0, none⟩)) ∧ w'.cell? ⟨Q, 1, none⟩ = some (.pointer (some ⟨R, 0, none⟩)) ∧ w'.cell? ⟨w.heap.size, 0, none⟩ = some (.int .i64 kd) ∧ w'.cell? ⟨w.heap.size, 1, none⟩ = some (.int .i64 A) ∧ w'.cell? ⟨w.heap.size, 2, none⟩ = some (.int .i64 Bv) ∧ w'.cell? ⟨w.heap.size, 3, none⟩ = some (.slice go n gc)) (first | exact S3 | exact T4.out | go_keep)
      (first
        | (go_at_call 35; refine (rcommit_ok ((HP2.out.rz.fr HF3.out (fun i hi => HP.out.dj i hi)).keptN (by first | exact World.grownBy.refl _ _ | exact (Qt.refl w3).drew.grown none | exact ((Qt.refl w3).drew).drew.grown none)) HP.out.ag HP.out.ok HP.out.pl.ms.ris (by omega) A go n gc g Bv (HL3.out.keptN (by first | exact World.grownBy.refl _ _ | exact (Qt.refl w3).drew.grown none | exact ((Qt.refl w3).drew).drew.grown none)) HGF.out hn (by omega) HA.out HFF.out HRR.out).mono ?_; rintro en w4 ⟨u4, rfl, ho4, hz4, hf4⟩; obtain ⟨ya, yc, rfl, hny, -⟩ := owns_ints ho4; have HNY := hid_intro hny; have HZ4 := hid_intro (show Rz w4 (Nf F w3 w4) R _ from hz4); have HF4 : Hid (Fr w3 w4 F) := (by first | exact hf4 | exact fr_drew hf4); have T4 := hid_intro (show ((fun w' => w'.cell? ⟨Q, 0, none⟩ = some (.pointer (some ⟨B, 0, none⟩)) ∧ w'.cell? ⟨Q, 1, none⟩ = some (.pointer (some ⟨R, 0, none⟩)) ∧ w'.cell? ⟨w.heap.size, 0, none⟩ = some (.int .i64 kd) ∧ w'.cell? ⟨w.heap.size, 1, none⟩ = some (.int .i64 A) ∧ w'.cell? ⟨w.heap.size, 2, none⟩ = some (.int .i64 Bv) ∧ w'.cell? ⟨w.heap.size, 3, none⟩ = some (.slice go n gc)) w4) from HS3.out.fr HF4.out HQF.out (fun e => by have := HP.out.rz.low _ e; omega)); clear hz4 hf4 ho4 hny))
    all_goals
      clear S3 T4 HS3 NL2 hn0 hncp HL3
      have hNl := tkn_len p (cmN p A g)
      have hNb : cmN p A g ≤ 4000000 := by
        have h1 := lsP_range HP.out.ok HP.out.pl.ms.ris A g (by omega)
        have h2 := HRR.out
        have h3 := us_len p
        have h4 := HP.out.ok.len HP.out.pl.ms.ris
        have h5 := HP.out.ok.k
        have h6 := HP.out.ok.c2
        unfold rm at h2
        unfold cmN
        omega
      have ho34 := own_fr HO3.out HF4.out (fun j e hF => by have h1 := (own_lt HO3.out e).1; have h2 := HP.out.rz.low _ hF; have h3 := HG2.out.size; omega)
      obtain ⟨xa', xc', e9, hnx, -⟩ := owns_ints ho34
      injection e9 with e9 _ e99
      subst e9 e99
      have HNX := hid_intro hnx
      have HOKC := hid_intro (ok_commit HP.out.ok Bv HFF.out HRR.out)
      have HAGC : Hid (Ag (cmP p A g Bv) ⟨(cmP p A g Bv).c, r.k, (cmP p A g Bv).l, r.ps⟩) := ⟨rfl, HP.out.ag.k, rfl, HP.out.ag.q⟩
      clear ho34 hnx HO3
      generalize hTT : tkn p (cmN p A g) = TT at *
      generalize hNN : cmN p A g = NN at *
      clear hTT hNN
      go_wp2_with fail
      refine (sameI_yes xa NN xc ya NN yc TT w4 HNX.out hNl HNY.out hNl (by omega)).mono ?_
      rintro en w5 ⟨rfl, hq5⟩
      have HQ5 := hid_intro hq5
      clear hq5 HNX HNY
      go_wp2_with fail
      refine (num17_any _ _).mono ?_
      rintro en w5 ⟨rfl, rfl⟩
      go_upto_region 20 with fail
      have HBO := hid_intro (pr_both (gl := gl) HP.out HG2.out HF3.out HP3.out (HF4.out.trans (Fr.ofN (HQ5.out.grown none))) (show Rz w5 (Nf F w3 w5) R _ from by have hz := HZ4.out.keptN (HQ5.out.grown none); have e : Nf F w3 w5 = Nf F w3 w4 := (by unfold Nf; rw [HQ5.out.heap]); rw [e]; exact hz) HOKC.out HAGC.out (by simp) hps HCL.out.glt)
      have HPN := hid_intro HBO.out.1
      have HFK := hid_intro HBO.out.2
      have CLK := hid_intro (((HCL.out.fr HF3.out (fun i hi => .inl (HP.out.pl.low i hi))).fr HF4.out (fun i hi => .inl (HP.out.rz.low i hi))).keptN (HQ5.out.grown none))
      clear HBO HF3 HP3 HF4 HZ4 HQ5 HOKC HAGC hNl hNb
      clear HP2 HCL HG2 HG1 HO1 HGA HPX1 hsA HS2 t0
      have HLW : Hid (Nt w5 go g) := HFK.out.nt HL.out (fun ad e h0 => HGB.out ad e (by omega))
      obtain ⟨m1, m2, m3, -, -⟩ := marks_cells CLK.out.lo hn
      have NL5 := hid_intro m1
      have c3 : w5.cell? ⟨w.heap.size, 3, none⟩ = some (.slice go n gc) := CLK.out.cell 3
      have HSI := hid_intro (fun (W : World) (hW : W.heap = w5.heap) => sameI_yes (some ⟨gl, 0, none⟩) n cp go n gc g W (NL5.out.heap hW) hn (HLW.out.heap hW) hn (by omega))
      have hn1 : (n : Int) < (n : Int) + 2 := by omega
      have hn2 : (n : Int) + 1 < (n : Int) + 2 := by omega
      have hn0 : (0 : Int) ≤ (n : Int) := by omega
      have hn3 : (0 : Int) ≤ (n : Int) + 1 := by omega
      have hncp : (n : Int) ≤ (cp : Int) := by omega
      have hw1 : IntKind.i64.wrap ((n : Int) + 1) = (n : Int) + 1 := by simp [IntKind.wrap, IntKind.signed, IntKind.bits]; omega
      have hgl : Hid (w.heap.size ≤ gl ∧ ∃ cur, w5.heap[gl]? = some (.cells cur 3 (0, 0)) ∧ cur.size = cp) := by
        rcases CLK.out.lo.2 with ⟨e, _⟩ | ⟨g', cp', cur', e, hb', hc', _, _, hsz, _⟩
        · cases e
        · injection e with e1 _ e3
          injection e1 with e1
          injection e1 with e1
          subst e1 e3
          exact ⟨hb', cur', hc', by omega⟩
      clear m1
      go_region_held3 (fun w' => w'.cell? ⟨w.heap.size, 3, none⟩ = some (.slice go n gc) ∧ w'.cell? ⟨gl, n, none⟩ = some (.int .i64 201) ∧ w'.cell? ⟨gl, n + 1, none⟩ = some (.int .i64 202)) (first | exact ⟨c3, m2, m3⟩ | exact T6.out | go_keep)
        (first | (go_at_call 26; refine (HSI.out _ (by rfl)).mono ?_; rintro en w6 ⟨rfl, hq6⟩; have HQ6 : Hid (Qt w5 w6) := ⟨hq6.os, hq6.tape, hq6.output, hq6.heap⟩; have T6 := hid_intro (show w6.cell? ⟨w.heap.size, 3, none⟩ = some (.slice go n gc) ∧ w6.cell? ⟨gl, n, none⟩ = some (.int .i64 201) ∧ w6.cell? ⟨gl, n + 1, none⟩ = some (.int .i64 202) from ⟨(HQ6.out.cell _).trans c3, (HQ6.out.cell _).trans m2, (HQ6.out.cell _).trans m3⟩); clear hq6))
      all_goals
        clear T6 c3 m2 m3
        have HW0 : Hid (Ow7 w5 w6 gl cp) := by
          obtain ⟨_, cur, hc, hsz⟩ := hgl.out
          exact ⟨⟨cur, by rw [HQ6.out.heap]; exact hc, hsz⟩, Fr.ofN (HQ6.out.grown none)⟩
        go_wp2
        go_loopw [13] (fun si wr => ∃ i : Nat, i ≤ n + 2 ∧ si = .int .i64 i ∧ Ow7 w5 wr gl cp) (fun si _ => n + 2 - (zOf si).toNat)
        case atStart => exact ⟨0, Nat.zero_le _, rfl, HW0.out⟩
        case round =>
          obtain ⟨i, hi, rfl, hw⟩ := hrel
          have HWW := hid_intro hw
          clear hw HW0 HQ6
          by_cases hlt : i < n + 2
          · obtain ⟨⟨v, d0⟩, f0⟩ := HWW.out.cell (i := i) (by omega)
            have HW2 := hid_intro (HWW.out.put i (.int .i64 7))
            have g1 : (i : Int) < (n : Int) + 2 := by omega
            go_wp2
            go_roundw
            case rel => exact ⟨i + 1, by omega, by go_num, HW2.out⟩
            case measure => simp [zOf]; omega
          · have g1 : ¬ (i : Int) < (n : Int) + 2 := by omega
            have HEND := hid_intro (po1_end HP.out HPN.out HFK.out HWW.out hgl.out.1)
            go_wp2
            go_ret
            exact ⟨by first | rfl | simp, HEND.out⟩
end Go.Proofs.Ytpoflmcmlnghhaa
