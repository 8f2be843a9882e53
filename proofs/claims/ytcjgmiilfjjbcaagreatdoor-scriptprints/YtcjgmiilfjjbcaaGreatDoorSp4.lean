import Derived.Test.YtcjgmiilfjjbcaaGreatDoorSp3
import Derived.Test.YtcjgmiilfjjbcaaGreatDoorSg2
namespace Go.Proofs.YtcjgmiilfjjbcaaGreatDoor
open Go.RowKit

theorem lin_le {o : Opq} (hj : jdS o = 0) (h1 : o.key.length ≤ 2097152) (h2 : o.val.length ≤ 2097152) (h3 : o.hi.length ≤ 2097152) (h4 : o.f.length ≤ 1048576) : (lin o).length ≤ 100000000 := by
  have hJ := jdp hj
  have hN : smn o.a = true ∧ smn o.b = true ∧ smn o.c = true := by
    have e := dfl_jdS o
    rw [hj] at e
    unfold dfl at e
    split at e
    · cases e
    split at e
    · cases e
    split at e
    · rename_i q; exact q
    · cases e
  have hw : (wrd o.k).length ≤ 20 := by
    have k0 := hJ.k0
    have k1 := hJ.k1
    obtain ⟨i0, hi0⟩ : ∃ i : Nat, o.k = i := ⟨o.k.toNat, by omega⟩
    rw [hi0]
    have : ∀ i : Fin 23, (wrd (i.val : Int)).length ≤ 20 := by decide
    exact this ⟨i0, by omega⟩
  have hf : ∀ fs : List UInt8, (fs.flatMap (lfd o)).length ≤ 20000000 * fs.length := by
    intro fs
    induction fs with
    | nil => simp
    | cons c fs ih =>
      have := lfd_len hJ hN h1 h2 h3 h4 c
      rw [List.flatMap_cons, List.length_append, List.length_cons]
      omega
  have hl := fds_len o.k
  have := hf (fds o.k)
  unfold lin
  simp only [List.length_append, List.length_cons, List.length_nil]
  omega
theorem dpl_true (l : List Opq) (t t' : List UInt8) : dpl l t true = dpl l t' true := by rw [dpl_many, dpl_many]
set_option maxHeartbeats 32000000 in
set_option maxRecDepth 100000 in
theorem refPrint23 (n : Int) (l : List Opq) (ao : Option Addr) (N cap : Nat) (w : World) (hR : OpsR w ao l) (hl : l.length = N) (hF : FitP l) : Calls Tryz.prog 10 #[.agg #[.int .i64 n, .slice ao N cap]] w fun en w' => PrP w (prt n l) en w' := by
  have HP := hid_intro (dpr_prt n l)
  have HR := hid_intro hR
  have HN := hid_intro hl
  have hN3 : N ≤ 3000 := by have := hF.len; omega
  have HFE := hid_intro hF.el
  have g1 := World.grownBy_alloc w (.cells #[.int .i64 n, .slice ao N cap] 24) none
  have XS := hid_intro (heap_at0S w #[.int .i64 n, .slice ao N cap] 24)
  have G1 := hid_intro g1
  have HSM := hid_intro (fun W => small23 n W)
  rw [hl] at HP
  clear hR hl hF g1
  generalize prt n l = R at *
  go_enter Tryz.func10, Tryz.ntmps10
  go_upto_region 1 with fail
  generalize w.alloc (.cells #[.int .i64 n, .slice ao N cap] 24) = w1 at *
  generalize w.heap.size = S0 at *
  have c0 := cell_heapS (i := 0) XS.out rfl
  have c1 := cell_heapS (i := 1) XS.out rfl
  by_cases hs : smn n = true
  · rw [hs] at HSM
    have HP2 : Hid (R = if 2000 < N then .error 234 else dpl l (lnw [ttw, Lib.itoa n]) false) := by show _ = _; rw [HP.out, if_pos hs]
    have HDC := hid_intro (fun W => decimal23 n hs W)
    have hil := itoa_short hs
    clear HP
    go_wp2_with fail
    refine (HSM.out _).mono ?_
    rintro en w2 ⟨rfl, hw2⟩
    rw [hw2]
    clear hw2
    by_cases h2 : 2000 < N
    · have HR2 : Hid (R = .error 234) := by show _ = _; rw [HP2.out, if_pos h2]
      have t1 : (2000 : Int) < (N : Int) := by omega
      go_wp2
      go_ret2
      exact ⟨G1.out, .inr ⟨234, HR2.out, by decide, rfl⟩⟩
    · have t1 : ¬ (2000 : Int) < (N : Int) := by omega
      obtain ⟨hd, hhd⟩ : ∃ hd, lnw [ttw, Lib.itoa n] = hd := ⟨_, rfl⟩
      have HH : Hid ((⟨#[99, 111, 112, 112, 105, 99, 101, 32]⟩ : ByteArray) ++ tstr (Lib.itoa n) ++ (⟨#[10]⟩ : ByteArray) = tstr hd) := by
        show tstr [99, 111, 112, 112, 105, 99, 101, 32] ++ tstr (Lib.itoa n) ++ tstr [10] = _
        rw [tstr_app, tstr_app, ← hhd, lnw_eq]
        congr 2
        simp [ttw]
      have hhl : hd.length ≤ 30 := by rw [← hhd, lnw_eq]; simp [ttw]; omega
      have HR2 : Hid (R = dpl (l.drop 0) hd false) := by show _ = _; rw [HP2.out, if_neg h2, hhd]; rfl
      have z1 : (tstr (Lib.itoa n)).size ≤ 11 := by rw [tstr_size]; exact hil
      clear hhd HP2 hil
      generalize tstr (Lib.itoa n) = D at *
      have z2 : ¬ (9223372036854775807 < 8 + D.size) := by omega
      have z3 : ¬ (9223372036854775807 < 8 + D.size + 1) := by omega
      go_wp2_with fail
      refine (HDC.out _).mono ?_
      rintro en w3 ⟨rfl, hw3⟩
      rw [hw3]
      clear hw3
      have hcv := Lib.run_convert_string_bytes (P := Tryz.prog) w1 9 32 5 (tstr hd) (u := .string) Tryz.underlying9 Tryz.underlying32 Tryz.underlying5
      have OG := hid_intro (conv_og w1 hd (by omega))
      have G12 := hid_intro (bytesW_grownD w1 5 (tstr hd))
      have hh := HH.out
      rw [← hh] at hcv OG G12
      have e2 : ((⟨#[99, 111, 112, 112, 105, 99, 101, 32]⟩ : ByteArray) ++ D ++ (⟨#[10]⟩ : ByteArray)).size = 8 + D.size + 1 := by rw [ByteArray.size_append', ByteArray.size_append']; rfl
      have HE2 := hid_intro e2
      clear hh
      go_upto_region 7 with fail
      generalize Lib.bytesWorld w1 5 ((⟨#[99, 111, 112, 112, 105, 99, 101, 32]⟩ : ByteArray) ++ D ++ (⟨#[10]⟩ : ByteArray)) = w2 at *
      rw [HE2.out] at OG
      generalize grownCap w1 (8 + D.size + 1) 0 5 = cp at *
      clear hcv z1 z2 z3 HDC HSM c0 c1 e2
      obtain ⟨BB, hBB⟩ : ∃ BB, w1.heap.size = BB := ⟨_, rfl⟩
      have HBB : Hid (w1.heap.size ≤ BB) := by show _ ≤ _; rw [hBB]; exact Nat.le_refl _
      rw [hBB] at OG ⊢
      clear hBB
      go_wp2
      go_loopw [5, 6, 7, 8, 9, 10] (fun st sm si _ _ _ wr => ∃ (i : Nat) (tt : List UInt8) (many : Bool), i ≤ N ∧ si = .int .i64 (i : Nat) ∧ sm = .bool many ∧ Og wr BB st tt ∧ w1.grownBy wr none ∧ R = dpl (l.drop i) tt many ∧ (many = false → tt.length ≤ 1048576) ∧ tt.length ≤ 200000000) (fun _ _ si _ _ _ _ => N - (intOf si).toNat)
      case atStart => exact ⟨0, hd, false, Nat.zero_le _, rfl, rfl, OG.out, G12.out, HR2.out, fun _ => by omega, by omega⟩
      case round =>
        obtain ⟨i, tt, many, hi, rfl, rfl, hog, hg, hr, hfew, htl⟩ := hrel
        have HOG := hid_intro hog
        have HG := hid_intro hg
        have HRR := hid_intro hr
        have HFEW := hid_intro hfew
        have d1 := cell_heapS (i := 1) (heap_keptS XS.out hg) rfl
        obtain ⟨sa, sc, hst⟩ := hog.shape
        subst hst
        obtain ⟨TN, hTN⟩ : ∃ n, tt.length = n := ⟨_, rfl⟩
        rw [hTN] at HOG HFEW htl ⊢
        have HTN := hid_intro hTN
        have hbs := hog.size
        clear hog hg hr hfew OG G12 HR2 hTN
        by_cases hlt : i < N
        · have e1 : (i : Int) < (N : Int) := by omega
          have e2 : (0 : Int) ≤ (i : Int) := by omega
          have wi : IntKind.i64.wrap ((i : Int) + 1) = (i : Int) + 1 := wrap_small _ (by omega) (by omega)
          obtain ⟨o, ho⟩ : ∃ o, l[i]? = some o := ⟨_, List.getElem?_eq_getElem (by have := HN.out; omega)⟩
          obtain ⟨g, off, ka, kc, va, vc, ha, hc, fa, fc, eao, hcells, hop⟩ := (HR.out.keptN (grown_trans G1.out HG.out)) i o ho
          subst eao
          have d0 : wr.cell? ⟨g, off + i * 8, none⟩ = some (.int .i64 o.k) := hcells 0 _ rfl
          have D1 : wr.cell? ⟨g, off + i * 8 + 1, none⟩ = some (.int .i64 o.a) := hcells 1 _ rfl
          have d2 : wr.cell? ⟨g, off + i * 8 + 2, none⟩ = some (.int .i64 o.b) := hcells 2 _ rfl
          have d3 : wr.cell? ⟨g, off + i * 8 + 3, none⟩ = some (.int .i64 o.c) := hcells 3 _ rfl
          have d4 : wr.cell? ⟨g, off + i * 8 + 4, none⟩ = some (.slice ka o.key.length kc) := hcells 4 _ rfl
          have d5 : wr.cell? ⟨g, off + i * 8 + 5, none⟩ = some (.slice va o.val.length vc) := hcells 5 _ rfl
          have d6 : wr.cell? ⟨g, off + i * 8 + 6, none⟩ = some (.slice ha o.hi.length hc) := hcells 6 _ rfl
          have d7 : wr.cell? ⟨g, off + i * 8 + 7, none⟩ = some (.slice fa o.f.length fc) := hcells 7 _ rfl
          obtain ⟨b1, b2, b3, b4⟩ := HFE.out o (List.mem_of_getElem? ho)
          have HFA := hid_intro (fault23 o ka kc va vc ha hc fa fc wr hop (by omega))
          have HOP := hid_intro hop
          have HR3 : Hid (R = if dfl o ≠ 0 then .error (dfl o) else if many = true then dpl (l.drop (i + 1)) tt many else dpl (l.drop (i + 1)) (tt ++ lin o) (decide (1048576 < tt.length + (lin o).length))) := by
            show _ = _
            have h1 := (List.getElem?_eq_some_iff.1 ho).2
            rw [HRR.out, List.drop_eq_getElem_cons (by have := HN.out; omega), h1]
            rfl
          have HDJ := hid_intro (dfl_jdS o)
          have HCE : Hid (∀ W, wr.grownBy W none → W.cell? ⟨g, off + i * 8, none⟩ = some (.int .i64 o.k) ∧ W.cell? ⟨g, off + i * 8 + 1, none⟩ = some (.int .i64 o.a) ∧ W.cell? ⟨g, off + i * 8 + 2, none⟩ = some (.int .i64 o.b) ∧ W.cell? ⟨g, off + i * 8 + 3, none⟩ = some (.int .i64 o.c) ∧ W.cell? ⟨g, off + i * 8 + 4, none⟩ = some (.slice ka o.key.length kc) ∧ W.cell? ⟨g, off + i * 8 + 5, none⟩ = some (.slice va o.val.length vc) ∧ W.cell? ⟨g, off + i * 8 + 6, none⟩ = some (.slice ha o.hi.length hc) ∧ W.cell? ⟨g, off + i * 8 + 7, none⟩ = some (.slice fa o.f.length fc)) := fun W hW => ⟨cell_keptS d0 hW, cell_keptS D1 hW, cell_keptS d2 hW, cell_keptS d3 hW, cell_keptS d4 hW, cell_keptS d5 hW, cell_keptS d6 hW, cell_keptS d7 hW⟩
          clear ho HRR hcells hop
          obtain ⟨fl, hfl⟩ : ∃ fl, dfl o = fl := ⟨_, rfl⟩
          rw [hfl] at HFA HR3 HDJ
          clear hfl
          go_wp2_with fail
          refine HFA.out.mono ?_
          rintro en w4 ⟨rfl, hg4⟩
          have G4 := hid_intro (grown_trans HG.out hg4)
          have OG4 := hid_intro (HOG.out.kept hg4)
          have OP4 := hid_intro (HOP.out.keptN hg4)
          have cc4 := HCE.out _ hg4
          have dd1 := cell_keptS d1 hg4
          clear hg4 d0 D1 d2 d3 d4 d5 d6 d7 HCE HFA d1
          obtain ⟨q0, q1, q2, q3, q4, q5, q6, q7⟩ := cc4
          by_cases hz : fl = 0
          · have gz : (fl == 0) = true := by rw [hz]; rfl
            have hjs : jdS o = 0 := by rw [← HDJ.out]; exact hz
            have HR4 : Hid (R = if many = true then dpl (l.drop (i + 1)) tt many else dpl (l.drop (i + 1)) (tt ++ lin o) (decide (1048576 < tt.length + (lin o).length))) := by show _ = _; rw [HR3.out, if_neg (fun h => h hz)]
            have HLN := hid_intro (line23 o ka kc va vc ha hc fa fc w4 OP4.out hjs b1 b2 b3 b4)
            have HLG := hid_intro (lin_ge hjs)
            have HLL := hid_intro (lin_le hjs b1 b2 b3 b4)
            clear HR3 HDJ hjs hz
            cases many with
            | true =>
              have HR5 : Hid (R = dpl (l.drop (i + 1)) tt true) := by show _ = _; rw [HR4.out, if_pos rfl]
              clear HR4 HLN
              go_wp2
              go_roundw
              case rel => exact ⟨i + 1, tt, true, by omega, by go_num, rfl, by rw [← HTN.out] at OG4; first | exact OG4.out | (have h := OG4.out; rw [HTN.out] at h; exact h), G4.out, HR5.out, (fun e => by cases e), by rw [HTN.out]; exact htl⟩
              case measure => simp [intOf]; omega
            | false =>
              have hfew := HFEW.out rfl
              have HR5 : Hid (R = dpl (l.drop (i + 1)) (tt ++ lin o) (decide (1048576 < tt.length + (lin o).length))) := by show _ = _; rw [HR4.out, if_neg (by decide)]
              clear HR4
              go_wp2_with fail
              refine HLN.out.mono ?_
              rintro en w5 ⟨hg5, hr5⟩
              have G5 := hid_intro (grown_trans G4.out hg5)
              have OG5 := hid_intro (OG4.out.kept hg5)
              have hb5 := OG5.out.size
              clear hg5 q0 q1 q2 q3 q4 q5 q6 q7 dd1 HLN
              rcases hr5 with ⟨big, rfl⟩ | ⟨nbig, rfl⟩
              · have HR6 : Hid (R = dpl (l.drop (i + 1)) tt true) := by
                  show _ = _
                  rw [HR5.out, decide_eq_true (by have := HLG.out.2.1; omega)]
                  exact dpl_true _ _ _
                clear HR5 big
                go_wp2_with (at_builtin; refine wpList_append_og rfl _ _ rfl BB (.slice sa TN sc) tt rfl OG5.out _ [] rfl rfl (by have := HTN.out; simp; omega) hb5 ?_)
                intro v8 w8 ho8 hg8
                have HO8 := hid_intro ho8
                have G8 := hid_intro (grown_og G5.out OG5.out HBB.out hg8)
                clear ho8 hg8
                go_wp2
                go_roundw
                case rel => exact ⟨i + 1, tt, true, by omega, by go_num, rfl, HO8.out, G8.out, HR6.out, (fun e => by cases e), by rw [HTN.out]; exact htl⟩
                case measure => simp [intOf]; omega
              · obtain ⟨LL, hLL⟩ : ∃ n, (lin o).length = n := ⟨_, rfl⟩
                have hll := HLL.out
                have z1 := tstr_size (lin o)
                rw [hLL] at hll HR5 z1
                rw [HTN.out] at HR5
                have HZ1 := hid_intro z1
                have HLLE := hid_intro hLL
                have wz : IntKind.i64.wrap ((TN : Int) + (LL : Int)) = (TN : Int) + (LL : Int) := wrap_small _ (by omega) (by omega)
                by_cases hm : 1048576 < TN + LL
                · have t2 : (1048576 : Int) < (TN : Int) + (LL : Int) := by omega
                  have t3 : decide ((1048576 : Int) < (TN : Int) + (LL : Int)) = true := decide_eq_true t2
                  have t4 : decide (1048576 < TN + LL) = true := decide_eq_true hm
                  rw [decide_eq_true hm] at HR5
                  have hX : ((tstr (lin o)).size : Int) = (LL : Int) := by rw [HZ1.out]
                  clear hLL nbig z1
                  obtain ⟨sL, hsL⟩ : ∃ s, tstr (lin o) = s := ⟨_, rfl⟩
                  rw [hsL] at hX ⊢
                  have HSL : Hid (sL = tstr (lin o)) := hsL.symm
                  clear hsL
                  go_wp2_with (at_builtin; refine wpList_append_og rfl _ _ rfl BB (.slice sa TN sc) tt rfl OG5.out _ (lin o) HSL.out rfl (by have := HTN.out; have := HLLE.out; omega) hb5 ?_)
                  intro v8 w8 ho8 hg8
                  have HO8 := hid_intro ho8
                  have G8 := hid_intro (grown_og G5.out OG5.out HBB.out hg8)
                  clear ho8 hg8
                  go_wp2
                  go_roundw
                  case rel => exact ⟨i + 1, tt ++ lin o, true, by omega, by go_num, rfl, HO8.out, G8.out, HR5.out, (fun e => by cases e), by rw [List.length_append, HTN.out, HLLE.out]; omega⟩
                  case measure => simp [intOf]; omega
                · have t2 : ¬ (1048576 : Int) < (TN : Int) + (LL : Int) := by omega
                  have t3 : decide ((1048576 : Int) < (TN : Int) + (LL : Int)) = false := decide_eq_false t2
                  have t4 : decide (1048576 < TN + LL) = false := decide_eq_false hm
                  rw [decide_eq_false hm] at HR5
                  have hX : ((tstr (lin o)).size : Int) = (LL : Int) := by rw [HZ1.out]
                  clear hLL nbig z1
                  obtain ⟨sL, hsL⟩ : ∃ s, tstr (lin o) = s := ⟨_, rfl⟩
                  rw [hsL] at hX ⊢
                  have HSL : Hid (sL = tstr (lin o)) := hsL.symm
                  clear hsL
                  go_wp2_with (at_builtin; refine wpList_append_og rfl _ _ rfl BB (.slice sa TN sc) tt rfl OG5.out _ (lin o) HSL.out rfl (by have := HTN.out; have := HLLE.out; omega) hb5 ?_)
                  intro v8 w8 ho8 hg8
                  have HO8 := hid_intro ho8
                  have G8 := hid_intro (grown_og G5.out OG5.out HBB.out hg8)
                  clear ho8 hg8
                  go_wp2
                  go_roundw
                  case rel => exact ⟨i + 1, tt ++ lin o, false, by omega, by go_num, rfl, HO8.out, G8.out, HR5.out, fun _ => by rw [List.length_append, HTN.out, HLLE.out]; omega, by rw [List.length_append, HTN.out, HLLE.out]; omega⟩
                  case measure => simp [intOf]; omega
          · have gz : (fl == 0) = false := by rw [beq_eq_false_iff_ne]; exact hz
            have HR4 : Hid (R = .error fl) := by show _ = _; rw [HR3.out, if_pos hz]
            have HZ := hid_intro hz
            clear HR3 hz
            go_wp2
            go_ret2
            exact ⟨grown_trans G1.out G4.out, .inr ⟨fl, HR4.out, HZ.out, rfl⟩⟩
        · obtain rfl : i = N := by omega
          have HR4 : Hid (R = if many = true then .error 234 else .ok tt) := by show _ = _; rw [HRR.out, List.drop_of_length_le (by have := HN.out; omega)]; rfl
          cases many with
          | true =>
            have HR5 : Hid (R = .error 234) := by show _ = _; rw [HR4.out, if_pos rfl]
            go_wp2
            go_ret2
            exact ⟨grown_trans G1.out HG.out, .inr ⟨234, HR5.out, by decide, rfl⟩⟩
          | false =>
            have HR5 : Hid (R = .ok tt) := by show _ = _; rw [HR4.out, if_neg (by decide)]
            have hcv := conv_ogS HOG.out
            go_wp2
            go_ret2
            exact ⟨grown_trans G1.out HG.out, .inl ⟨tt, HR5.out, rfl⟩⟩
  · have hs2 : smn n = false := by simpa using hs
    rw [hs2] at HSM
    have HR2 : Hid (R = .error 232) := by show _ = _; rw [HP.out, if_neg hs]
    go_wp2_with fail
    refine (HSM.out _).mono ?_
    rintro en w2 ⟨rfl, hw2⟩
    rw [hw2]
    clear hw2
    go_wp2
    go_ret2
    exact ⟨G1.out, .inr ⟨232, HR2.out, by decide, rfl⟩⟩
end Go.Proofs.YtcjgmiilfjjbcaaGreatDoor
