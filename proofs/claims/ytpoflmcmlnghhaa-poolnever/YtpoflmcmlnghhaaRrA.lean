import Derived.Test.YtpoflmcmlnghhaaRr9
namespace Go.Proofs.Ytpoflmcmlnghhaa
open Go.RowKit Go.Maps

theorem Rf.setL {w w1 : World} {F : Nat → Prop} {R : Nat} {r : Ro} {vL vP v' : Value} {l' : List (Int × Int)} {c' : Int} (h : Rf w F R r vL vP) (hs : w.heap.size ≤ w1.heap.size) (hb : Rb w1 R c' r.k vL vP) (hp : w1.ownsRow 0 3 1 vP r.ps.length (r.ps.map (Value.int .i64))) (ho : w1.ownsRow 0 79 2 v' l'.length (fcs l')) (hn : ∀ g, v'.ownBlock = some g → F g ∨ w.heap.size ≤ g) :
    Rf (w1.setCell ⟨R, 2, none⟩ v') (Nf F w (w1.setCell ⟨R, 2, none⟩ v')) R { r with l := l', c := c' } v' vP := by
  have hg := grown_cellP w1 R 2 v'
  have hz : (w1.setCell ⟨R, 2, none⟩ v').heap.size = w1.heap.size := by simp
  refine ⟨hb.set2 v', own_keptR ho hg (fun g e e' => own_ne_ty ho hb (by decide) (by rw [e, e'])), own_keptR hp hg (fun g e e' => own_ne_ty hp hb (by decide) (by rw [e, e'])), .inl h.fR, fun g e => ?_, fun g e => .inl (h.fP g e), fun i hi => ?_⟩
  · rcases hn g e with h1 | h1
    · exact .inl h1
    · obtain ⟨_, cur, hc⟩ := own_lt ho e
      exact .inr ⟨h1, by rw [hz]; exact (Array.getElem?_eq_some_iff.1 hc).1⟩
  · rcases hi with h1 | h1
    · have := h.low i h1
      omega
    · exact h1.2

set_option maxHeartbeats 16000000 in
set_option maxRecDepth 100000 in
theorem rcommit_ok {w : World} {F : Nat → Prop} {R : Nat} {r : Ro} {p : Po} (h : Rz w F R r) (ag : Ag p r) (ok : Ok p) (hris : Ris p.l) (hps : r.ps.length ≤ 2000000) (d : Int) (a : Option Addr) (n cap : Nat) (g : List Int) (v : Int) (hl : Nt w a g) (hab : ∀ ad, a = some ad → 0 < n → ¬ F ad.block) (hn : g.length = n) (hm : n ≤ 1000000) (hd : -9223372036854775808 ≤ d ∧ d ≤ 9223372036854775807) (hf : 0 ≤ lsP p d g) (hr : d ≤ rm p - lsP p d g) :
    Calls Try.prog 35 #[.pointer (some ⟨R, 0, none⟩), .int .i64 d, .slice a n cap, .int .i64 v] w fun e w' => ∃ u, e = .returned (.tuple #[u, .int .i64 0]) ∧ w'.ownsRow w.heap.size 3 1 u (cmN p d g) ((tkn p (cmN p d g)).map (Value.int .i64)) ∧ Rz w' (Nf F w w') R ⟨(cmP p d g v).c, r.k, (cmP p d g v).l, r.ps⟩ ∧ Fr w w' F := by
  obtain ⟨i1, hi1, hy0, hy1, hy2⟩ := info_parts info_int
  obtain ⟨i0, hinf, hz0, hz1, hz2⟩ := info_parts info_rfree
  have HC := hid_intro (rlists_any h ag ok hris hps d a n cap g hl hn hm hd)
  have hpl := ok.len hris
  have hrl : r.l.length = p.l.length := by rw [ag.l]
  have HRM := hid_intro (fun (W : World) (hW : w.grownBy W none) => rroom_any (h.keptN hW) (by omega) hps (by rw [ag.c]; have := ok.c2; omega) (by rw [ag.c, ag.k]; exact ok.ck) (by rw [ag.k]; have := ok.k; omega))
  rw [ag.rm] at HRM
  have HUS := hid_intro (fun (W : World) (hW : w.grownBy W none) => rusable_any (h.keptN hW) (by omega) hps)
  rw [ag.us] at HUS
  have hfr := lsP_range ok hris d g (by omega)
  have hrr : 0 ≤ rm p ∧ rm p ≤ 2000000 := by
    have := us_len p
    have := ok.ck
    have := ok.k
    have := ok.c2
    unfold rm
    omega
  obtain ⟨hd0, hmay⟩ := may_of_ls hf
  have HLC := hid_intro (lay_commit (d := d) ok hris v hmay)
  have HCC : Hid ((cmP p d g v).c = p.c + ((cmN p d g - (us p).length : Nat) : Int)) := rfl
  have hN : ((cmN p d g : Nat) : Int) = d + lsP p d g := by unfold cmN; omega
  have hul := us_len p
  obtain ⟨vL, vP, hR⟩ := h
  have HR := hid_intro hR
  have HL := hid_intro hl
  have HAB := hid_intro hab
  have hc2 := ok.c2
  have hck := ok.ck
  have hkk := ok.k
  have HK := hid_intro ag.k
  have HLE := hid_intro ag.l
  have HCE := hid_intro ag.c
  clear hR hl hab ok hris hmay ag hrl
  generalize hNN : cmN p d g = N at *
  clear hNN
  generalize lsP p d g = f at *
  generalize rm p = rr at *
  obtain ⟨u, hu⟩ : ∃ u, u = (us p).length := ⟨_, rfl⟩
  rw [← hu] at HUS HCC hul
  have HUE := hid_intro hu
  clear hu
  have hf0 : decide (f < 0) = false := by simp; omega
  have h3d : decide (rr < d) = false := by simp; omega
  have hz : d + f = (N : Int) := hN.symm
  clear hN
  have hNb : N ≤ 2000000 := by omega
  have h4d : decide (rr < (N : Int)) = false := by simp; omega
  have hPC : p.c ≤ 524287 := by omega
  go_enter Try.func35, Try.ntmps35
  go_wp2_with fail
  refine HC.out.mono ?_
  rintro en w1 ⟨rfl, hg1⟩
  have HG1 := hid_intro hg1
  clear hg1 HC
  go_wp2_with fail
  refine (HRM.out w1 HG1.out).mono ?_
  rintro en w2 ⟨rfl, hg2⟩
  have HG2 := hid_intro (grown_trans HG1.out hg2)
  clear hg2 HRM HG1
  go_wp2_with fail
  refine (HUS.out w2 HG2.out).mono ?_
  rintro en w3 ⟨uv, rfl, ho3, hg3⟩
  obtain ⟨ua, uc, rfl, hnt3, huc, huc2, -, hub⟩ := owns_ints ho3
  have HG3 := hid_intro (grown_trans HG2.out hg3)
  have HU3 := hid_intro hnt3
  have HUB : Hid (∀ ad, ua = some ad → w.heap.size ≤ ad.block) := fun ad e => Nat.le_trans HG2.out.size (hub ad e)
  have HB3 : Hid (Rb w3 R (p.c + ((0 - u : Nat) : Int)) r.k vL vP) := by
    have := (HR.out.keptN HG3.out).bx
    rw [HCE.out] at this
    simp only [Nat.zero_sub, Int.natCast_zero, Int.add_zero]
    exact this
  clear ho3 hg3 hnt3 hub HUS HG2
  have hRlow : Hid (R < w.heap.size) := HR.out.low R HR.out.fR
  go_wp2
  go_loopw [13, 14] (fun sv si wr => ∃ i : Nat, i ≤ N ∧ si = .int .i64 i ∧ wr.ownsRow w3.heap.size 3 1 sv i ((tkn p i).map (Value.int .i64)) ∧ Rb wr R (p.c + ((i - u : Nat) : Int)) r.k vL vP ∧ Fr w3 wr (fun j => j = R)) (fun _ si _ => N - (zOf si).toNat)
  case atStart => exact ⟨0, Nat.zero_le _, rfl, by simpa [tkn, ups] using own_nil w3 w3.heap.size 1 3, HB3.out, Fr.refl _ _⟩
  case round =>
    obtain ⟨i, hi, rfl, ho, hb, hfr2⟩ := hrel
    have HO := hid_intro ho
    have HB := hid_intro hb
    have HF := hid_intro hfr2
    clear ho hb hfr2 HB3
    by_cases hlt : i < N
    · have g1 : (i : Int) < (N : Int) := by omega
      by_cases hiu : i < u
      · have g2 : (i : Int) < (u : Int) := by omega
        obtain ⟨ub, uoff, rfl, q0⟩ := HU3.out.row i (by rw [← HUE.out]; exact hiu)
        have hne : ub ≠ R := by
          have h1 := HUB.out _ rfl
          have h2 := hRlow.out
          intro e
          rw [e] at h1
          simp at h1
          omega
        have d0 := HF.out.cell q0 hne
        have HT := hid_intro (tkn_lo (p := p) (i := i) (by rw [← HUE.out]; exact hiu))
        have HBN : Hid (Rb wr R (p.c + ((i + 1 - u : Nat) : Int)) r.k vL vP) := by
          have := HB.out
          rw [show i + 1 - u = i - u by omega]
          exact this
        clear q0
        generalize (us p).getD i 0 = x at *
        go_wp2_with (at_builtin; refine wpList_append_own _ rfl _ _ 22 rfl w3.heap.size 3 i1 (.int .i64 0) 1 8 Try.underlying22 hi1 hy0 hy1 hy2 rfl (by decide) u13 i ((tkn p i).map (Value.int .i64)) rfl (HO.out.alloc _) ⟨wr.heap.size, 0, none⟩ 1 1 [.int .i64 x] rfl rfl (cell_one_new _ _ _) (by intro u hu; simp at hu; subst hu; rfl) (by unfold maxLen; omega) (by omega) (by have := HF.out.size; simp; omega) ?_; intro v' w10 ho hg10 _; have HO10 := hid_intro ho; have gA := World.grownBy_alloc wr (.cells #[.int .i64 x] 3) none; have HB10 := hid_intro ((HBN.out.keptN gA).kept hg10 (own_ne_ty (HO.out.alloc (.cells #[.int .i64 x] 3)) (HBN.out.keptN gA) (by decide))); have HF10 := hid_intro ((HF.out.trans (Fr.ofN gA)).then (Fr.of (F := fun m => u13.ownBlock = some m) hg10 (fun k e => .inr e)) (fun m hm hlt' => by have := (own_lt HO.out hm).1; omega)); clear ho hg10 gA)
        go_wp2
        go_roundw
        case rel => exact ⟨i + 1, by omega, by go_num, by rw [HT.out, List.map_append]; exact HO10.out, HB10.out, HF10.out⟩
        case measure => simp [zOf]; omega
      · have g2 : ¬ (i : Int) < (u : Int) := by omega
        have HT := hid_intro (tkn_hi (p := p) (i := i) (by rw [← HUE.out]; exact hiu))
        rw [← HUE.out] at HT
        obtain ⟨x, hx⟩ : ∃ x, x = p.c + ((i - u : Nat) : Int) := ⟨_, rfl⟩
        rw [← hx] at HB HT
        have hx0 : 0 ≤ x := by omega
        have hx1 : x ≤ 9000000 := by omega
        have c0 : wr.cell? ⟨R, 0, none⟩ = some (.int .i64 x) := HB.out.cell 0
        have HXS : Hid (x + 1 = p.c + ((i + 1 - u : Nat) : Int)) := by show _ = _; omega
        clear hx
        go_wp2_with (at_builtin; refine wpList_append_own _ rfl _ _ 22 rfl w3.heap.size 3 i1 (.int .i64 0) 1 8 Try.underlying22 hi1 hy0 hy1 hy2 rfl (by decide) u13 i ((tkn p i).map (Value.int .i64)) rfl (HO.out.alloc _) ⟨wr.heap.size, 0, none⟩ 1 1 [.int .i64 x] rfl rfl (cell_one_new _ _ _) (by intro u hu; simp at hu; subst hu; rfl) (by unfold maxLen; omega) (by omega) (by have := HF.out.size; simp; omega) ?_; intro v' w10 ho hg10 _; have HO10 := hid_intro ho; have gA := World.grownBy_alloc wr (.cells #[.int .i64 x] 3) none; have hb10 := ((HB.out.keptN gA).kept hg10 (own_ne_ty (HO.out.alloc (.cells #[.int .i64 x] 3)) (HB.out.keptN gA) (by decide))); have c10 : w10.cell? ⟨R, 0, none⟩ = some (.int .i64 x) := hb10.cell 0; have f10 := hb10.fz 0; have HB10 := hid_intro hb10; have HF10 := hid_intro ((HF.out.trans (Fr.ofN gA)).then (Fr.of (F := fun m => u13.ownBlock = some m) hg10 (fun k e => .inr e)) (fun m hm hlt' => by have := (own_lt HO.out hm).1; omega)); clear ho hg10 gA hb10)
        have HO11 := hid_intro (own_keptR HO10.out (grown_cellP w10 R 0 (.int .i64 (x + 1))) (fun g e e' => own_ne_ty HO10.out HB10.out (by decide) (by rw [e, e'])))
        have HB11 : Hid (Rb (w10.setCell ⟨R, 0, none⟩ (.int .i64 (x + 1))) R (p.c + ((i + 1 - u : Nat) : Int)) r.k vL vP) := by
          show Rb _ _ _ _ _ _
          rw [← HXS.out]
          exact HB10.out.set0 (x + 1)
        have HF11 := hid_intro (HF10.out.trans (Fr.of (grown_cellP w10 R 0 (.int .i64 (x + 1))) (fun j e => .inr (Option.some.inj e).symm)))
        exact ⟨⟨i + 1, by omega, by go_num, by rw [HT.out, List.map_append]; exact HO11.out, HB11.out, HF11.out⟩, by simp [zOf]; omega⟩
    · have hiN : i = N := by omega
      have g1 : ¬ (i : Int) < (N : Int) := by omega
      have hTl := tkn_len p N
      subst hiN
      obtain ⟨ta, tc, rfl, hTn, htc, htc2, -, -⟩ := owns_ints HO.out
      have HTN := hid_intro hTn
      have HOT := hid_intro HO.out
      obtain ⟨T, hT⟩ : ∃ T, T = tkn p i := ⟨_, rfl⟩
      rw [← hT] at hTl HTN HOT HLC
      have HTQ := hid_intro hT
      clear hT
      obtain ⟨la, lc, rfl, hlc, hlc2, hat⟩ := own_pairs HR.out.lr
      have HWA : Hid (∀ W, wr.grownBy W none → W.cell? ⟨R, 2, none⟩ = some (.slice la r.l.length lc)) := fun W hW => (HB.out.keptN hW).c2
      have HAT : Hid (∀ W, wr.grownBy W none → ∀ j, j < r.l.length → ∃ gL, la = some ⟨gL, 0, none⟩ ∧ W.cell? ⟨gL, j * 2, none⟩ = some (.int .i64 (r.l.getD j (0, 0)).1) ∧ W.cell? ⟨gL, j * 2 + 1, none⟩ = some (.int .i64 (r.l.getD j (0, 0)).2)) := fun W hW j hj => by
        obtain ⟨gL, e, q1, q2⟩ := hat j hj
        subst e
        have hne : gL ≠ R := fun e => own_ne_ty HR.out.lr HR.out.bx (by decide) (by rw [← e]; rfl)
        exact ⟨gL, rfl, hW.cell (HF.out.cell (HG3.out.cell q1 (by simp)) hne) (by simp), hW.cell (HF.out.cell (HG3.out.cell q2 (by simp)) hne) (by simp)⟩
      obtain ⟨nl, hnl⟩ : ∃ nl, nl = r.l.length := ⟨_, rfl⟩
      have hnl5 : nl ≤ 524287 := by rw [hnl, HLE.out]; exact hpl
      rw [← hnl] at HWA HAT hlc
      have HNL := hid_intro hnl
      have HST : Hid (stay (r.l.take nl) T = stay p.l T) := by
        show _ = _
        rw [HNL.out, List.take_length, HLE.out]
      have HWR := hid_intro (World.grownBy.refl wr none)
      have HBW := hid_intro HB.out
      have HFW := hid_intro HF.out
      obtain ⟨wa, hwa⟩ : ∃ wa, wa = wr := ⟨_, rfl⟩
      rw [← hwa] at HWA HAT HTN HBW HFW HOT
      have HW0 : Hid (wa.grownBy wr none) := by rw [hwa]; exact World.grownBy.refl _ _
      clear hwa hat hnl HO HB HF HU3 HUB HWR hTn
      go_wp2
      go_loopw [15, 16, 17, 18] (fun sl sj _ _ wr => ∃ j : Nat, j ≤ nl ∧ sj = .int .i64 j ∧ wr.ownsRow wa.heap.size 79 2 sl (stay (r.l.take j) T).length (fcs (stay (r.l.take j) T)) ∧ wa.grownBy wr none) (fun _ sj _ _ _ => nl - (zOf sj).toNat)
      case atStart => exact ⟨0, Nat.zero_le _, rfl, own_nil _ _ _ _, HW0.out⟩
      case round =>
        obtain ⟨j, hj, rfl, ho, hg⟩ := hrel
        have HO := hid_intro ho
        have HG := hid_intro hg
        have c2 := HWA.out _ hg
        clear ho hg HW0
        by_cases hjl : j < nl
        · obtain ⟨gL, rfl, e1, e2⟩ := HAT.out _ HG.out j hjl
          have HSS := hid_intro (stay_succ r.l T (i := j) (by rw [← HNL.out]; exact hjl))
          have hsl : (stay (r.l.take j) T).length ≤ 600000 := by
            have h1 := stay_len (r.l.take j) T
            rw [List.length_take] at h1
            omega
          obtain ⟨y, hy⟩ : ∃ y, y = r.l.getD j (0, 0) := ⟨_, rfl⟩
          rw [← hy] at e1 e2 HSS
          clear hy
          obtain ⟨y1, y2⟩ := y
          have k1 : (j : Int) < (nl : Int) := by omega
          have k0 : (0 : Int) ≤ (j : Int) := by omega
          go_wp2
          have HC2 : Hid (∀ W, Qt wr W → W.cell? ⟨R, 2, none⟩ = some (.slice (some ⟨gL, 0, none⟩) nl lc) ∧ W.cell? ⟨gL, j * 2, none⟩ = some (.int .i64 y1) ∧ W.cell? ⟨gL, j * 2 + 1, none⟩ = some (.int .i64 y2)) := fun W hW => ⟨(hW.cell _).trans c2, (hW.cell _).trans e1, (hW.cell _).trans e2⟩
          obtain ⟨wb, hwb⟩ : ∃ wb, wb = wr := ⟨_, rfl⟩
          rw [← hwb] at HC2 HO HG
          have HQ0 : Hid (Qt wb wr) := by rw [hwb]; exact Qt.refl _
          clear hwb c2 e1 e2
          go_loopw [17, 18] (fun sb sk wr => ∃ k : Nat, k ≤ i ∧ sk = .int .i64 k ∧ sb = .bool (decide (y1 ∈ T.take k)) ∧ Qt wb wr) (fun _ sk _ => i - (zOf sk).toNat)
          case atStart => exact ⟨0, Nat.zero_le _, rfl, by simp, HQ0.out⟩
          case round =>
            obtain ⟨k, hk, rfl, hsb, hq⟩ := hrel
            have HQ := hid_intro hq
            obtain ⟨c2, e1, e2⟩ := HC2.out _ hq
            clear hq HQ0
            by_cases hki : k < i
            · obtain ⟨tb, toff, rfl, q3⟩ := HTN.out.row k (by omega)
              have f0 := (HQ.out.cell _).trans (HG.out.cell q3 (by simp))
              have HTS : Hid (decide (y1 ∈ T.take (k + 1)) = (decide (y1 ∈ T.take k) || decide (T.getD k 0 = y1))) := by
                show _ = _
                rw [take_snoc (show k < T.length by omega), Bool.eq_iff_iff]
                simp only [decide_eq_true_eq, List.mem_append, List.mem_singleton, Bool.or_eq_true]
                exact ⟨fun h => h.imp id Eq.symm, fun h => h.imp id Eq.symm⟩
              have k3 : (k : Int) < (i : Int) := by omega
              have k2 : (0 : Int) ≤ (k : Int) := by omega
              clear q3
              generalize T.getD k 0 = z at *
              cases hp : decide (y1 ∈ T.take k) with
              | true =>
                rw [hp] at hsb
                subst hsb
                have HP2 : Hid (decide (y1 ∈ T.take (k + 1)) = true) := by show _ = _; rw [HTS.out, hp]; rfl
                clear HTS hp
                go_wp2
                go_quiet (fail)
                go_wp2
                go_roundw
                case rel => exact ⟨k + 1, by omega, by go_num, by rw [HP2.out], HQ.out.trans (Qt.drewN _ _)⟩
                case measure => simp [zOf]; omega
              | false =>
                rw [hp] at hsb
                subst hsb
                by_cases hzy : z = y1
                · have hd1 : (z == y1) = true := by simp [hzy]
                  have HP2 : Hid (decide (y1 ∈ T.take (k + 1)) = true) := by show _ = _; rw [HTS.out, hp]; simp [hzy]
                  clear HTS hp hzy
                  go_wp2
                  go_quiet (fail)
                  go_wp2
                  go_roundw
                  case rel => exact ⟨k + 1, by omega, by go_num, by rw [HP2.out], HQ.out.trans (Qt.drewN _ _)⟩
                  case measure => simp [zOf]; omega
                · have hd1 : (z == y1) = false := by simp [hzy]
                  have HP2 : Hid (decide (y1 ∈ T.take (k + 1)) = false) := by show _ = _; rw [HTS.out, hp]; simp [hzy]
                  clear HTS hp hzy
                  go_wp2
                  go_quiet (fail)
                  go_wp2
                  go_roundw
                  case rel => exact ⟨k + 1, by omega, by go_num, by rw [HP2.out], HQ.out.trans (Qt.drewN _ _)⟩
                  case measure => simp [zOf]; omega
            · have hki2 : k = i := by omega
              subst hki2
              have HTT : Hid (T.take k = T) := by show _ = _; rw [← hTl, List.take_length]
              rw [HTT.out] at hsb
              have HGQ := hid_intro (grown_trans HG.out (HQ.out.grown none))
              have HOQ := hid_intro (own_kept5 HO.out (HQ.out.grown none))
              by_cases hyT : y1 ∈ T
              · have hsb2 : decide (y1 ∈ T) = true := by simp [hyT]
                rw [hsb2] at hsb
                subst hsb
                have HS2 : Hid (stay (r.l.take (j + 1)) T = stay (r.l.take j) T) := by
                  show _ = _
                  rw [HSS.out, if_pos hyT, List.append_nil]
                clear hsb2 hyT
                go_wp2
                go_roundw
                case rel => exact ⟨j + 1, by omega, by go_num, by rw [HS2.out]; exact HOQ.out, HGQ.out⟩
                case measure => simp [zOf]; omega
              · have hsb2 : decide (y1 ∈ T) = false := by simp [hyT]
                rw [hsb2] at hsb
                subst hsb
                have HS2 : Hid (stay (r.l.take (j + 1)) T = stay (r.l.take j) T ++ [(y1, y2)]) := by
                  show _ = _
                  rw [HSS.out, if_neg hyT]
                clear hsb2 hyT HSS
                generalize stay (r.l.take j) T = S at *
                go_wp2_with (at_builtin; refine wpList_append_own _ rfl _ _ 62 rfl wa.heap.size 79 i0 (.agg #[.int .i64 0, .int .i64 0]) 2 16 Try.underlying62 hinf hz0 hz1 hz2 rfl (by decide) u15 S.length (fcs S) rfl (HOQ.out.alloc _) ⟨wr.heap.size, 0, none⟩ 1 1 [.int .i64 y1, .int .i64 y2] rfl rfl (news2 wr 79 (.int .i64 y1) (.int .i64 y2) _ rfl) (by intro u hu; simp at hu; rcases hu with rfl | rfl <;> rfl) (by unfold maxLen; omega) (by omega) (by have := HGQ.out.size; simp; omega) ?_; intro v6 w6 ho6 hg6 _; have HO6 : Hid (w6.ownsRow wa.heap.size 79 2 v6 (S ++ [(y1, y2)]).length (fcs (S ++ [(y1, y2)]))) := (by rw [fcs_app, List.length_append]; exact ho6); have HG6 := hid_intro (grown_app5 HGQ.out HOQ.out (Nat.le_refl _) hg6); clear ho6 hg6)
                go_wp2
                go_roundw
                case rel => exact ⟨j + 1, by omega, by go_num, by rw [HS2.out]; exact HO6.out, HG6.out⟩
                case measure => simp [zOf]; omega
        · have hjn : j = nl := by omega
          subst hjn
          rw [HST.out] at HO
          have hsl : (stay p.l T).length ≤ 600000 := by
            have h1 := stay_len p.l T
            omega
          have HGW : Hid (Fr w wr F) := by
            refine (Fr.ofN HG3.out).trans ?_
            refine (HFW.out.wide (fun i e _ => by rw [e]; exact HR.out.fR)).trans (Fr.ofN HG.out)
          have HLW := hid_intro (HGW.out.nt HL.out (fun ad e h0 => HAB.out ad e (by omega)))
          go_wp2_with fail
          refine (laid_any HO.out (by omega) v a n cap g HLW.out hn hm).mono ?_
          rintro en w7 ⟨lv, rfl, ho7, hg7⟩
          obtain ⟨l7, c7, rfl, -⟩ := own_pairs ho7
          have hb7 := (HBW.out.keptN HG.out).keptN hg7
          have c27 := hb7.c2
          have f27 := hb7.fz 2
          obtain ⟨V, hV⟩ : ∃ V : Value, V = .slice l7 (lay (stay p.l T) g v).length c7 := ⟨_, rfl⟩
          have hg37 := grown_trans HG.out hg7
          have hT7 := own_kept5 HOT.out hg37
          have hT8 := own_base (own_keptR hT7 (grown_cellP w7 R 2 V) (fun g e e' => own_ne_ty hT7 hb7 (by decide) (by rw [e, e']))) (show w.heap.size ≤ w3.heap.size from HG3.out.size)
          have hP3 := own_kept5 HR.out.pr HG3.out
          have hPa := own_fr hP3 HFW.out (fun g e e' => own_ne_ty hP3 (HR.out.keptN HG3.out).bx (by decide) (by rw [e, ← e']))
          have hP7 := own_kept5 hPa hg37
          have ho0 : w7.ownsRow 0 79 2 V (lay (stay p.l T) g v).length (fcs (lay (stay p.l T) g v)) := by
            rw [hV]
            exact own_base ho7 (Nat.zero_le _)
          have hsz : w.heap.size ≤ w7.heap.size := Nat.le_trans HGW.out.size hg7.size
          have hnw : ∀ g, V.ownBlock = some g → F g ∨ w.heap.size ≤ g := fun g e => .inr (Nat.le_trans HGW.out.size (own_lt ho7 (hV ▸ e)).1)
          have hz8 := HR.out.setL hsz hb7 hP7 ho0 hnw
          have HZ8 : Hid (Rz (w7.setCell ⟨R, 2, none⟩ V) (Nf F w (w7.setCell ⟨R, 2, none⟩ V)) R ⟨(cmP p d g v).c, r.k, (cmP p d g v).l, r.ps⟩) := by
            refine ⟨V, vP, ?_⟩
            rw [HCC.out, ← HLC.out]
            exact hz8
          have HF8 := hid_intro ((HGW.out.trans (Fr.ofN hg7)).trans (Fr.of (F := F) (grown_cellP w7 R 2 V) (fun k e => .inr (by rw [← Option.some.inj e]; exact HR.out.fR))))
          have HT8 := hid_intro hT8
          rw [hV] at HZ8 HF8 HT8
          rw [show (T.map (Value.int .i64)) = (tkn p i).map (Value.int .i64) by rw [HTQ.out]] at HT8
          clear hV hz8 hT8 hT7 hP3 hPa hP7 ho0 hnw hb7 hg7 ho7 hg37 HO HG HGW HLW
          go_wp2
          go_ret2
          exact ⟨_, rfl, HT8.out, HZ8.out, HF8.out⟩
end Go.Proofs.Ytpoflmcmlnghhaa
