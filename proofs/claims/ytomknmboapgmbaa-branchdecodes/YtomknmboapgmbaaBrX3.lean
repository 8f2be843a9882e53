import Derived.Test.YtomknmboapgmbaaBrX2
import Derived.Test.YtomknmboapgmbaaBrY
namespace Go.Proofs.Ytomknmboapgmbaa
open Go.RowKit

theorem own_byt {w : World} {base n cap : Nat} {ao : Option Addr} {zs : List Int} (h : w.ownsRow base 5 1 (.slice ao n cap) n (zs.map (Value.int .u8))) : Byt w ao n cap zs := by
  obtain ⟨ao9, c9, e9, hB⟩ := owns_any h
  injection e9 with x1 _ x3
  subst x1 x3
  exact hB
theorem own_blk {w : World} {base n cap : Nat} {ao : Option Addr} {xs : List Value} (h : w.ownsRow base 5 1 (.slice ao n cap) n xs) : ∀ ad, ao = some ad → base ≤ ad.block := by
  intro ad e
  rcases h.2 with ⟨e2, _⟩ | ⟨g, cap', cur, hv, hb, _⟩
  · injection e2 with x1
    rw [x1] at e; cases e
  · injection hv with x1
    rw [x1] at e
    obtain rfl := Option.some.inj e
    exact hb
theorem splice_pad {Z ys : List Int} (hZ : Z = List.replicate 4092 0) : splice Z 0 ys = ys ++ List.replicate (4092 - ys.length) 0 := by
  rw [hZ]
  unfold splice
  rw [List.take_zero, List.nil_append, Nat.zero_add, List.drop_replicate]

set_option maxHeartbeats 800000 in
set_option maxRecDepth 100000 in
theorem refLay5_any (l : Nat) (a : Option Addr) (n cap : Nat) (b : Option Addr) (cap2 : Nat) (k : Kd) (M : List Sk) (w : World) (hl : Lz w a (seps M)) (hk : Kl w b (kids k M)) (hn : M.length = n) (hf : Fit (l : Int) (seps M) (kids k M)) :
    Calls Try.prog 41 #[.int .i64 l, .slice a n cap, .slice b (n + 1) cap2] w fun en w' => ∃ G, en = .returned (.slice (some ⟨G, 0, none⟩) 4092 4092) ∧ Rw w' G (bbody l k M) ∧ w.grownBy w' none := by
  obtain ⟨i0, hi, hz0, hz1, hz2⟩ := info_parts info_u8
  obtain ⟨hm1, hm2⟩ := bmany_le hf.sep hf.size
  have hl15 : l ≤ 15 := by have := hf.l2; omega
  have HCS := hid_intro (bcst_le (l : Int) k hf.size)
  have hhl := bhead_len (l : Int) M
  have hc0 := bcst_le (l : Int) k hf.size 0
  have HL := hid_intro hl
  have HK := hid_intro hk
  have HWS := hid_intro hf.sep
  have HWK := hid_intro hf.kid
  have hm : n ≤ 400 := by omega
  have HBL : Hid ((bused (l : Int) k M).length ≤ 4092) := by show _ ≤ _; rw [bused_len]; exact hf.size
  have HB0 : Hid (bhead (l : Int) M = lb 1 2 ++ (lb 1 l ++ (lb 2 (n + 1) ++ (vform (bpre (seps M)) ++ (M.headD sk0).sep.take (bpre (seps M)))))) := by
    show _ = _
    unfold bhead
    rw [hn]
    rfl
  have HBD : Hid (bbody (l : Int) k M = bused (l : Int) k M ++ List.replicate (4092 - (bused (l : Int) k M).length) 0) := rfl
  have HBU : Hid (bused (l : Int) k M = bhead (l : Int) M ++ (bslots (bpre (seps M)) (bcst (l : Int) M) M ++ (kb k ++ bcells (bpre (seps M)) M))) := rfl
  have HCST : Hid (bcst (l : Int) M = (bhead (l : Int) M).length + 2 * n + 8) := by show _ = _; unfold bcst bkst; rw [hn]
  have HPE : Hid (∀ x ∈ M, bpre (seps M) ≤ x.sep.length) := fun x hx => (bpre_each x.sep (seps_mem hx)).1
  have HLM : Hid (∀ s ∈ seps M, s.length ≤ 1000000) := fun s hs => by have := (wsep_parts (hf.sep s hs)).2; omega
  have hwl : IntKind.u8.wrap (l : Int) = (l : Int) := by simp [IntKind.wrap, IntKind.bits, IntKind.signed]; omega
  have hwn : IntKind.u64.wrap ((n : Int) + 1) = ((n + 1 : Nat) : Int) := by simp [IntKind.wrap, IntKind.bits, IntKind.signed]; omega
  have HLB2 : Hid (lb 1 2 ++ lb 1 l = [2, (l : Int)]) := by
    show _ = _
    have : (l : Int) % 256 = (l : Int) := by omega
    simp [lb, this]
  clear hl hk hf
  go_enter Try.func41, Try.ntmps41
  go_wp2_with fail
  refine (refPrefix_any a n cap (seps M) _ HL.out (by rw [seps_len]; exact hn) (by omega) HLM.out).mono ?_
  rintro en w1 ⟨rfl, hq1⟩
  have G1 := hid_intro (hq1.grown none)
  clear hq1
  have P1 := hid_intro (fun (ao : Option Addr) (n cap : Nat) (zs : List Int) (W : World) (h1 : Byt W ao n cap zs) (h2 : n ≤ 1099511627776) => refPutV_own ao n cap zs (bpre (seps M)) W h1 h2 (by omega))
  obtain ⟨l1, hl1⟩ : ∃ l1, (vform (bpre (seps M))).length = l1 := ⟨_, rfl⟩
  have hvl : vl (bpre (seps M)) = l1 := hl1
  rw [hl1] at P1
  rw [hvl] at hhl
  rw [HCST.out, hhl] at hc0
  have HL1 := hid_intro hl1
  have HHL := hid_intro hhl
  have hl1b : l1 ≤ 10 := by rw [← hl1]; exact vl_le _
  clear hvl hl1 hhl
  generalize hpp : bpre (seps M) = p at *
  have HPP := hid_intro hpp
  clear hpp
  generalize vform p = VP at *
  have B1 := hid_intro (Byt.lit w1 5 #[.int .u8 2, .int .u8 (l : Int)] [2, (l : Int)] 2 rfl rfl)
  have G2 := hid_intro (grown_trans G1.out (World.grownBy_alloc w1 (.cells #[.int .u8 2, .int .u8 (l : Int)] 5) none))
  go_wp2_with fail
  generalize w1.alloc (.cells #[.int .u8 2, .int .u8 (l : Int)] 5) = w2 at *
  generalize w1.heap.size = Q1 at *
  refine (refPut_own (some ⟨Q1, 0, none⟩) 2 2 [2, (l : Int)] (n + 1) 2 _ B1.out (by omega) (by omega) (by omega)).mono ?_
  rintro en w3 ⟨ao3, cap3, rfl, ho3, hg3, hs3⟩
  have B3 := hid_intro (own_byt ho3)
  have G3 := hid_intro (grown_trans G2.out hg3)
  clear ho3 hg3 hs3 B1 G1 G2
  go_wp2_with fail
  refine (P1.out ao3 (2 + 2) cap3 _ _ B3.out (by omega)).mono ?_
  rintro en w4 ⟨ao4, cap4, rfl, ho4, hg4, hs4⟩
  have O4 := hid_intro ho4
  have G4 := hid_intro (grown_trans G3.out hg4)
  have HS4 := hid_intro hs4
  have HS3 := hid_intro G3.out.size
  clear ho4 hg4 hs4 B3 G3 P1
  have hkl : ((M.headD sk0).sep.take p).length = p := by
    rw [List.length_take]
    cases M with
    | nil =>
      have := HPP.out
      obtain rfl : p = 0 := this.symm
      rfl
    | cons x L => have := HPE.out x List.mem_cons_self; rw [List.headD_cons]; omega
  have HKL := hid_intro hkl
  obtain ⟨ZB, hZB⟩ : ∃ ZB, [2, (l : Int)] ++ lb 2 (n + 1) ++ VP = ZB := ⟨_, rfl⟩
  obtain ⟨h4, hh4⟩ : ∃ h4, 2 + 2 + l1 = h4 := ⟨_, rfl⟩
  rw [hZB, hh4] at O4
  rw [hh4]
  have HHB : Hid (ZB ++ (M.headD sk0).sep.take p = bhead (l : Int) M) := by
    show _ = _
    rw [HB0.out, ← hZB, ← HLB2.out]
    simp only [List.append_assoc]
  obtain ⟨TB, hTB⟩ : ∃ TB, (M.headD sk0).sep.take p = TB := ⟨_, rfl⟩
  rw [hTB] at HHB HKL
  have HTB := hid_intro hTB
  clear hkl HB0 HLB2 hZB hTB
  generalize hhe : (bhead (l : Int) M).length = h0 at *
  have HHE := hid_intro hhe
  clear hhe
  go_upto_if 29 with fail
  go_cut [8] (fun s8 wx => ∃ bo bc, s8 = .slice bo h0 bc ∧ Byt wx bo h0 bc (bhead (l : Int) M) ∧ w.grownBy wx none)
  case first =>
    by_cases hn0 : 0 < n
    · obtain ⟨b', off', ao, n0, c0, rfl, q2, q3, q4, q5⟩ := HL.out.row 0 (by rw [seps_len]; omega)
      rw [Nat.add_zero] at q2
      have e0 := G4.out.cell q2 (by simp)
      have hh : (seps M).getD 0 [] = (M.headD sk0).sep := by cases M <;> rfl
      rw [hh] at q3
      have hpl : p ≤ n0 := by have := HKL.out; rw [← HTB.out, List.length_take] at this; have := q3.len; omega
      have hb11 := (q3.keptN G4.out).take p c0 hpl (fun e => by have := (q3.nil e).2; omega)
      rw [HTB.out] at hb11
      have B11 := hid_intro hb11
      clear hb11
      have g1 : (0 : Int) ≤ (p : Int) := by omega
      have g2 : (p : Int) ≤ (c0 : Int) := by omega
      have g3 : (0 : Int) < (n : Int) := by omega
      clear q2 q3
      go_wp2_with (at_builtin; refine wpList_append_byt rfl _ _ rfl w3.heap.size _ h4 ZB rfl O4.out ao p c0 TB rfl B11.out (by omega) HS4.out ?_)
      intro v5 w5 ho5 hg5
      have ho5' : w5.ownsRow w3.heap.size 5 1 v5 h0 ((bhead (l : Int) M).map (Value.int .u8)) := by
        rw [← HHB.out, show h0 = h4 + p by have := HHL.out; omega]
        simpa using ho5
      have HG5 : Hid (w.grownBy w5 none) := ⟨hg5.os.trans G4.out.os, hg5.tape.trans G4.out.tape, hg5.output.trans G4.out.output, Nat.le_trans G4.out.size hg5.size, fun q hq _ => (hg5.block q (Nat.lt_of_lt_of_le hq G4.out.size) (fun e => by have := (O4.out.lt q e.symm).1; have := HS3.out; omega)).trans (G4.out.block q hq (by simp))⟩
      obtain ⟨bo, bc, rfl, hb5⟩ := owns_any ho5'
      have HB5 := hid_intro hb5
      clear ho5 hg5 ho5' hb5
      go_wp2_with fail
      go_meet
      exact ⟨bo, bc, rfl, HB5.out, HG5.out⟩
    · have hp0 : p = 0 := by
        cases M with
        | nil => exact HPP.out.symm
        | cons x L => simp at hn; omega
      have HN0 := hid_intro hn0
      have hx := HHB.out
      have ht : TB = [] := List.eq_nil_of_length_eq_zero (by rw [HKL.out]; exact hp0)
      rw [ht, List.append_nil] at hx
      have hh9 : h4 = h0 := by have := HHL.out; omega
      have ho4 := O4.out
      rw [hx, hh9] at ho4
      have B5 := hid_intro (own_byt ho4)
      rw [hh9]
      clear ho4 hx ht hh9 hp0 hn0
      go_wp2_with fail
      all_goals first
        | exact absurd (by assumption) HN0.out
        | (go_meet; exact ⟨ao4, cap4, rfl, B5.out, G4.out⟩)
  case rest =>
  obtain ⟨bo, bc, rfl, hb5, hg5⟩ := hcut
  have B5 := hid_intro hb5
  have G5 := hid_intro hg5
  clear hb5 hg5 O4 G4 HS4 HS3 HHB hwl hwn
  obtain ⟨C0, hC0⟩ : ∃ C0, h0 + 2 * n + 8 = C0 := ⟨_, rfl⟩
  have hh0b : h0 + 2 * n + 8 ≤ 4092 := by have := HHL.out; omega
  have hC1 : (h0 : Int) + 2 * (n : Int) + 8 = (C0 : Int) := by omega
  go_wp2
  clear hC1
  go_loopw [8, 9, 11] (fun sb sc si wr => ∃ (i : Nat) (bo : Option Addr) (bc : Nat) (co : Option Addr) (cn cc : Nat), i ≤ n ∧ si = .int .i64 i ∧ sb = .slice bo (h0 + 2 * i) bc ∧ Byt wr bo (h0 + 2 * i) bc (bhead (l : Int) M ++ bslots p (bcst (l : Int) M) (M.take i)) ∧ sc = .slice co cn cc ∧ Byt wr co cn cc (bcells p (M.take i)) ∧ w.grownBy wr none) (fun _ _ si _ => n - (intOf si).toNat)
  case atStart => exact ⟨0, bo, bc, none, 0, 0, Nat.zero_le _, rfl, rfl, by simpa [bslots] using B5.out, rfl, Byt.empty _, G5.out⟩
  case round =>
    obtain ⟨i, bo, bc, co, cn, cc, hi', rfl, rfl, hbb, rfl, hbc, hg⟩ := hrel
    have HB := hid_intro hbb
    have HC := hid_intro hbc
    have HG := hid_intro hg
    clear hbb hbc hg B5 G5
    by_cases hlt : i < n
    · obtain ⟨b1, off1, ao, m, c', rfl, q2, q3, q4, q5⟩ := HL.out.row i (by rw [seps_len]; omega)
      obtain ⟨b2, off2, rfl, q6, q7⟩ := HK.out.row (i + 1) (by rw [kids_len]; omega)
      rw [seps_get] at q3
      rw [kids_get] at q6
      rw [kids_get] at q7
      have hx : M.getD i sk0 ∈ M := by simp [List.getD, List.getElem?_eq_getElem (show i < M.length by omega)]
      have x1 := wsep_parts (HWS.out _ (seps_mem hx))
      have x2 := HWK.out _ (List.mem_cons_of_mem _ (List.mem_map_of_mem hx))
      have x4 := q3.len
      obtain ⟨kb', ko, rfl, hkb, _⟩ := q3.at (by omega)
      have hpx : p ≤ m := by have := HPE.out _ hx; omega
      have HSN := hid_intro (bslots_snoc p M (bcst (l : Int) M) i (by omega))
      have HCN := hid_intro (bcells_snoc p M i (by omega))
      have hA0 := HCS.out i
      have hcl := HC.out.len
      rw [hcl, HCST.out] at hA0
      obtain ⟨A, hA⟩ : ∃ A, h0 + 2 * n + 8 + cn = A := ⟨_, rfl⟩
      have HAA : Hid (bcst (l : Int) M + (bcells p (M.take i)).length = A) := by show _ = _; rw [HCST.out, hcl]; exact hA
      obtain ⟨r, hr⟩ : ∃ r, m - p = r := ⟨_, rfl⟩
      have HCB : Hid (bcb p (M.getD i sk0) = vform r ++ ((M.getD i sk0).sep.drop p ++ kb (M.getD i sk0).kid)) := by show _ = _; unfold bcb; rw [x4, hr]
      have P2 := hid_intro (fun (ao : Option Addr) (n cap : Nat) (zs : List Int) (W : World) (h1 : Byt W ao n cap zs) (h2 : n ≤ 1099511627776) => refPutV_own ao n cap zs r W h1 h2 (by omega))
      obtain ⟨l2, hl2⟩ : ∃ l2, (vform r).length = l2 := ⟨_, rfl⟩
      rw [hl2] at P2
      have hl2b : l2 ≤ 10 := by rw [← hl2]; exact vl_le r
      rw [HAA.out] at HSN
      obtain ⟨no, hno⟩ : ∃ no, (M.getD i sk0).kid.no = no := ⟨_, rfl⟩
      obtain ⟨ks, hks⟩ : ∃ ks, (M.getD i sk0).kid.keys = ks := ⟨_, rfl⟩
      rw [hno] at q6
      rw [hks] at q7
      have HNO := hid_intro hno
      have HKS := hid_intro hks
      have HXK := hid_intro x2
      have HKy := hid_intro q3
      have HX6 := hid_intro q6
      have HX7 := hid_intro q7
      have HX2 := hid_intro q2
      have hr' : (m : Int) - (p : Int) = (r : Int) := by omega
      generalize M.getD i sk0 = x at *
      generalize vform r = V2 at *
      have hAl : A ≤ 4092 := by omega
      have hAA : (C0 : Int) + (cn : Int) = (A : Int) := by omega
      clear q2 q3 q6 q7 hno hks x2 hx hl2 HAA hA hcl
      have c1 := HG.out.cell HX2.out (by simp)
      go_wp2_with fail
      refine (refPut_own bo (h0 + 2 * i) bc _ A 2 _ HB.out (by omega) (by omega) (by omega)).mono ?_
      rintro en w6 ⟨ao6, cap6, rfl, ho6, hg6, hs6⟩
      have B6 := hid_intro (own_byt ho6)
      have C6 := hid_intro (HC.out.keptN hg6)
      have G6 := hid_intro (grown_trans HG.out hg6)
      clear ho6 hg6 hs6 HB HC HG c1
      have c1 := G6.out.cell HX2.out (by simp)
      go_wp2_with fail
      refine (P2.out co cn cc _ _ C6.out (by omega)).mono ?_
      rintro en w7 ⟨ao7, cap7, rfl, ho7, hg7, hs7⟩
      have O7 := hid_intro ho7
      have B7 := hid_intro (B6.out.keptN hg7)
      have G7 := hid_intro (grown_trans G6.out hg7)
      have HS7 := hid_intro hs7
      have HS6 := hid_intro G6.out.size
      have HB6 : Hid (∀ ad, ao6 = some ad → 0 < h0 + 2 * i + 2 → ad.block < w6.heap.size) := fun ad e h => B6.out.lt e h
      clear ho7 hg7 hs7 B6 C6 G6 P2 c1
      have c1 := G7.out.cell HX2.out (by simp)
      have g1 : (0 : Int) ≤ (p : Int) := by omega
      have g2 : (p : Int) ≤ (m : Int) := by omega
      have g3 : (p : Int) ≤ (c' : Int) := by omega
      have HDR := hid_intro ((HKy.out.keptN G7.out).drop p (c' - p) hpx)
      rw [hr] at HDR
      obtain ⟨XC, hXC⟩ : ∃ XC, bcells p (M.take i) ++ V2 = XC := ⟨_, rfl⟩
      rw [hXC] at O7
      obtain ⟨XD, hXD⟩ : ∃ XD, x.sep.drop p = XD := ⟨_, rfl⟩
      rw [hXD] at HDR
      have HXC := hid_intro hXC
      have HXD := hid_intro hXD
      clear hXC hXD
      go_upto_region 14 with fail
      go_cut [9] (fun s9 wx => ∃ co cc, s9 = .slice co (cn + l2 + r) cc ∧ Byt wx co (cn + l2 + r) cc (XC ++ XD) ∧ Byt wx ao6 (h0 + 2 * i + 2) cap6 (bhead (l : Int) M ++ bslots p (bcst (l : Int) M) (M.take i) ++ lb 2 A) ∧ w.grownBy wx none)
      case first =>
        have hXl : XD.length = r := HDR.out.len
        have HGW : Hid (∀ (w8 : World), w7.grownBy w8 (Value.slice ao7 (cn + l2) cap7).ownBlock → w.grownBy w8 none ∧ ∀ (zs : List Int), Byt w7 ao6 (h0 + 2 * i + 2) cap6 zs → Byt w8 ao6 (h0 + 2 * i + 2) cap6 zs) := by
          intro w8 hg8
          have hown := O7.out
          refine ⟨⟨hg8.os.trans G7.out.os, hg8.tape.trans G7.out.tape, hg8.output.trans G7.out.output, Nat.le_trans G7.out.size hg8.size, fun q hq _ => (hg8.block q (Nat.lt_of_lt_of_le hq G7.out.size) (fun e => by have := (hown.lt q e.symm).1; have := HS6.out; omega)).trans (G7.out.block q hq (by simp))⟩, fun zs hz => ?_⟩
          refine hz.kept hg8 (fun ad e h e2 => ?_)
          have h1 := HB6.out ad e h
          have h2 := (hown.lt ad.block e2.symm).1
          omega
        by_cases hcp : c' = p
        · have hr0 : r = 0 := by omega
          have hX0 : XD = [] := List.eq_nil_of_length_eq_zero (by rw [hXl]; exact hr0)
          have HX0 := hid_intro hX0
          have BZ : Hid (Byt w7 (some ⟨kb', ko, none⟩) 0 0 []) := Byt.none _ _ _ _
          subst hcp
          subst hr0
          clear hX0
          go_wp2_with (at_builtin; refine wpList_append_byt rfl _ _ rfl w6.heap.size _ (cn + l2) XC rfl O7.out (some ⟨kb', ko, none⟩) 0 0 [] rfl BZ.out (by omega) HS7.out ?_)
          intro v8 w8 ho8 hg8
          have ho8' : w8.ownsRow w6.heap.size 5 1 v8 (cn + l2 + 0) ((XC ++ XD).map (Value.int .u8)) := by rw [HX0.out]; simpa using ho8
          obtain ⟨co8, cc8, rfl, hb8⟩ := owns_any ho8'
          have HB8 := hid_intro hb8
          have HGB := hid_intro (HGW.out w8 hg8)
          clear ho8 hg8 ho8' hb8
          go_wp2_with fail
          go_meet
          exact ⟨co8, cc8, rfl, HB8.out, HGB.out.2 _ B7.out, HGB.out.1⟩
        · go_wp2_with (at_builtin; refine wpList_append_byt rfl _ _ rfl w6.heap.size _ (cn + l2) XC rfl O7.out (some ⟨kb', ko + p, none⟩) r (c' - p) XD rfl HDR.out (by omega) HS7.out ?_)
          intro v8 w8 ho8 hg8
          have ho8' : w8.ownsRow w6.heap.size 5 1 v8 (cn + l2 + r) ((XC ++ XD).map (Value.int .u8)) := by simpa using ho8
          obtain ⟨co8, cc8, rfl, hb8⟩ := owns_any ho8'
          have HB8 := hid_intro hb8
          have HGB := hid_intro (HGW.out w8 hg8)
          clear ho8 hg8 ho8' hb8
          go_wp2_with fail
          go_meet
          exact ⟨co8, cc8, rfl, HB8.out, HGB.out.2 _ B7.out, HGB.out.1⟩
      case rest =>
      obtain ⟨co8, cc8, rfl, hc8, hb8, hg8⟩ := hcut
      have C8 := hid_intro hc8
      have B8 := hid_intro hb8
      have G8 := hid_intro hg8
      clear hc8 hb8 hg8 O7 B7 G7 c1 HDR
      have d0 := G8.out.cell HX6.out (by simp)
      have d1 := G8.out.cell HX7.out (by simp)
      obtain ⟨j, hj⟩ : ∃ j, i + 1 = j := ⟨_, rfl⟩
      have hj2 : (i : Int) + 1 = (j : Int) := by omega
      rw [hj] at d0 d1
      have g4 : (j : Int) < (n : Int) + 1 := by omega
      have g5 : (0 : Int) ≤ (j : Int) := by omega
      have hcnb : cn + l2 + r ≤ 100000 := by omega
      go_wp2_with fail
      refine (refTwo_any co8 (cn + l2 + r) cc8 _ x.kid no ks _ C8.out (by omega) HXK.out HNO.out HKS.out).mono ?_
      rintro en w9 ⟨base9, ao9, cap9, rfl, ho9, hg9, hs9, hs9'⟩
      have C9 := hid_intro (own_byt ho9)
      have B9 := hid_intro (B8.out.keptN hg9)
      have G9 := hid_intro (grown_trans G8.out hg9)
      have HJ := hid_intro hj
      clear ho9 hg9 hs9 hs9' C8 B8 G8 d0 d1 hj hj2
      go_wp2
      go_roundw
      case rel =>
        refine ⟨i + 1, ao6, cap6, ao9, cn + l2 + r + 8, cap9, by omega, by have := HJ.out; go_num, ?_, ?_, rfl, ?_, G9.out⟩
        · rw [Nat.mul_add, ← Nat.add_assoc]
        · rw [HSN.out, Nat.mul_add, ← Nat.add_assoc, ← List.append_assoc]
          exact B9.out
        · have := C9.out
          rw [← HXC.out, ← HXD.out] at this
          rw [HCN.out, HCB.out]
          simpa only [List.append_assoc] using this
      case measure => have := HJ.out; simp [intOf]; omega
    · have hin : i = n := by omega
      have hTk : M.take i = M := by rw [hin, ← hn, List.take_length]
      rw [hTk] at HB HC
      obtain ⟨b2, off2, rfl, q6, q7⟩ := HK.out.row 0 (by rw [kids_len]; omega)
      have hk0 : (kids k M).getD 0 kd0 = k := rfl
      rw [hk0, Nat.zero_mul, Nat.add_zero] at q6
      rw [hk0, Nat.zero_mul, Nat.add_zero] at q7
      have d0 := HG.out.cell q6 (by simp)
      have d1 := HG.out.cell q7 (by simp)
      have hkk := HWK.out k List.mem_cons_self
      obtain ⟨no, hno⟩ : ∃ no, k.no = no := ⟨_, rfl⟩
      obtain ⟨ks, hks⟩ : ∃ ks, k.keys = ks := ⟨_, rfl⟩
      rw [hno] at d0
      rw [hks] at d1
      have HKK := hid_intro hkk
      have HNO := hid_intro hno
      have HKS := hid_intro hks
      have hcl := HC.out.len
      have hbl := HB.out.len
      have HUL : Hid ((bused (l : Int) k M).length = h0 + 2 * i + 8 + cn) := by
        show _ = _
        rw [HBU.out, ← List.append_assoc, List.length_append, hbl, List.length_append, kb_len, hcl]
        omega
      have hub : h0 + 2 * i + 8 + cn ≤ 4092 := by rw [← HUL.out]; exact HBL.out
      have g1 : ¬ (i : Int) < (n : Int) := by omega
      have g2 : (0 : Int) < (n : Int) + 1 := by omega
      clear q6 q7 hk0 hkk hno hks hTk hcl hbl hin
      go_wp2_with fail
      refine (refTwo_any bo (h0 + 2 * i) bc _ k no ks _ HB.out (by omega) HKK.out HNO.out HKS.out).mono ?_
      rintro en w9 ⟨base9, ao9, cap9, rfl, ho9, hg9, hs9, hs9'⟩
      obtain ⟨XB, hXB⟩ : ∃ XB, bhead (l : Int) M ++ bslots p (bcst (l : Int) M) M ++ kb k = XB := ⟨_, rfl⟩
      rw [hXB] at ho9
      have O9 := hid_intro ho9
      have C9 := hid_intro (HC.out.keptN hg9)
      have G9 := hid_intro (grown_trans HG.out hg9)
      have HS9 := hid_intro hs9
      have HS9' := hid_intro hs9'
      have HSG := hid_intro HG.out.size
      have HXB : Hid (XB ++ bcells p M = bused (l : Int) k M) := by show _ = _; rw [HBU.out, ← hXB]; simp only [List.append_assoc]
      obtain ⟨XC, hXC⟩ : ∃ XC, bcells p M = XC := ⟨_, rfl⟩
      rw [hXC] at HXB C9
      clear ho9 hg9 hs9 hs9' hXB hXC HB HC HG d0 d1
      go_wp2_with (at_builtin; refine wpList_append_byt rfl _ _ rfl base9 _ (h0 + 2 * i + 8) XB rfl O9.out co cn cc XC rfl C9.out (by omega) HS9'.out ?_)
      intro v10 w10 ho10 hg10
      have ho10' : w10.ownsRow base9 5 1 v10 (h0 + 2 * i + 8 + cn) ((bused (l : Int) k M).map (Value.int .u8)) := by rw [← HXB.out]; simpa using ho10
      have G10 : Hid (w.grownBy w10 none) := ⟨hg10.os.trans G9.out.os, hg10.tape.trans G9.out.tape, hg10.output.trans G9.out.output, Nat.le_trans G9.out.size hg10.size, fun q hq _ => (hg10.block q (Nat.lt_of_lt_of_le hq G9.out.size) (fun e => by have := (O9.out.lt q e.symm).1; have := HS9.out; have := HSG.out; omega)).trans (G9.out.block q hq (by simp))⟩
      obtain ⟨bo10, bc10, rfl, hb10⟩ := owns_any ho10'
      have B10 := hid_intro hb10
      clear ho10 hg10 ho10' hb10 O9 C9 G9
      obtain ⟨Z, hZ⟩ : ∃ Z : List Int, Z = List.replicate 4092 0 := ⟨_, rfl⟩
      have hZl : Z.length = 4092 := by rw [hZ, List.length_replicate]
      have HZ := hid_intro hZ
      clear hZ
      go_wp2_with (at_make; refine wpList_make_full _ rfl _ _ 28 rfl w10.heap.size 5 i0 (.int .u8 0) 1 Try.underlying28 hi hz0 hz1 _ _ _ _ 4092 rfl rfl rfl rfl ?b2 ?b3 (Nat.le_refl _) ?_)
      case b2 => rw [hz2]; omega
      case b3 => unfold maxLen; omega
      intro w20 hown hg20
      rw [made] at hown
      have RN : Hid (Rt w20 w10.heap.size 5 Z) := by
        show Rt _ _ _ _
        rw [HZ.out]
        exact Rw.of_owns hown
      have B20 := hid_intro (B10.out.keptN hg20)
      have G20 := hid_intro (grown_trans G10.out hg20)
      clear hown hg20
      obtain ⟨XU, hXU⟩ : ∃ XU, bused (l : Int) k M = XU := ⟨_, rfl⟩
      rw [hXU] at B20
      have HXU := hid_intro hXU
      clear hXU
      go_wp2_with (refine wpList_copy_rt rfl _ _ rfl _ _ _ _ _ _ rfl rfl w10.heap.size 0 5 Z XU RN.out B20.out (by omega) (fun _ => rfl) (by omega) ?_)
      intro w21 hr21 hg21 hs21
      have hbd := HBD.out
      rw [← splice_pad HZ.out, HXU.out] at hbd
      have R21 : Hid (Rw w21 w10.heap.size (bbody (l : Int) k M)) := by
        show Rw _ _ _
        rw [hbd]
        exact hr21
      have G21 := hid_intro (grown_new G20.out hg21 G10.out.size)
      clear hr21 hg21 hs21 RN B20 G20 hbd
      go_wp2
      go_ret
      exact ⟨w10.heap.size, rfl, R21.out, G21.out⟩
end Go.Proofs.Ytomknmboapgmbaa
