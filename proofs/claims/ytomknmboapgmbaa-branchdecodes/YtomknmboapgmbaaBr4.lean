import Derived.Test.YtomknmboapgmbaaBr1
import Derived.Test.YtomknmboapgmbaaBr3
import Derived.Test.YtomknmboapgmbaaBrL
import Derived.Deep.DeepCutAuto
namespace Go.Proofs.Ytomknmboapgmbaa
open Go.RowKit

theorem seps_get (M : List Sk) (i : Nat) : (seps M).getD i [] = (M.getD i sk0).sep := by
  simp only [seps, List.getD, List.getElem?_map]
  cases M[i]? <;> rfl
theorem kids_get (k : Kd) (M : List Sk) (i : Nat) : (kids k M).getD (i + 1) kd0 = (M.getD i sk0).kid := by
  simp only [kids, List.getD, List.getElem?_cons_succ, List.getElem?_map]
  cases M[i]? <;> rfl
theorem splice_five {cs A B C D E : List Int} {a b c d : Nat} (ha : A.length = a) (hb : B.length = b) (hc : C.length = c) (hd : D.length = d) (h : a + b + c + d + E.length ≤ cs.length) :
    splice (splice (splice (splice (splice cs 0 A) (0 + a) B) (0 + a + b) C) (0 + a + b + c) D) (0 + a + b + c + d) E = splice cs 0 (A ++ (B ++ (C ++ (D ++ E)))) := by
  have e1 := splice_four (cs := cs) (q := 0) ha hb hc (D := D) (by omega)
  rw [e1]
  have e2 := splice_two (cs := cs) (xs := A ++ (B ++ (C ++ D))) (ys := E) (p := 0) (by simp only [List.length_append]; omega)
  have e3 : 0 + (A ++ (B ++ (C ++ D))).length = 0 + a + b + c + d := by simp only [List.length_append]; omega
  rw [e3] at e2
  rw [e2]
  simp only [List.append_assoc]
theorem splice_whole {cs zs : List Int} (h : zs.length = cs.length) : splice cs 0 zs = zs := by
  unfold splice
  rw [List.take_zero, List.nil_append, Nat.zero_add, List.drop_eq_nil_of_le (by omega), List.append_nil]

set_option maxHeartbeats 4000000 in
set_option maxRecDepth 100000 in
theorem blayOut_any (l : Nat) (a : Option Addr) (n cap : Nat) (b : Option Addr) (cap2 : Nat) (k : Kd) (M : List Sk) (w : World) (hl : Lz w a (seps M)) (hk : Kl w b (kids k M)) (hn : M.length = n) (hc : n ≤ cap) (hcap : cap ≤ 9223372036854775807) (hf : Fit (l : Int) (seps M) (kids k M)) :
    Calls Try.prog 38 #[.int .i64 l, .slice a n cap, .slice b (n + 1) cap2] w fun en w' => ∃ G, en = .returned (.slice (some ⟨G, 0, none⟩) 4092 4092) ∧ Rw w' G (bbody l k M) ∧ w.grownBy w' none ∧ w.heap.size ≤ G := by
  obtain ⟨i0, hi, hz0, hz1, hz2⟩ := info_parts info_u8
  obtain ⟨hm1, hm2⟩ := bmany_le hf.sep hf.size
  have hl15 : l ≤ 15 := by have := hf.l2; omega
  have HCS := hid_intro (bcst_le (l : Int) k hf.size)
  have hhl := bhead_len (l : Int) M
  have hc0 := bcst_le (l : Int) k hf.size 0
  have HL := hid_intro hl
  have HK := hid_intro hk
  have HWS := hid_intro hf.sep
  have HWK := hid_intro hf.kid
  have hm : n ≤ 400 := by omega
  have HBL : Hid ((bbody (l : Int) k M).length = 4092) := bbody_len hf.size
  have HB0 : Hid (bhead (l : Int) M = lb 1 2 ++ (lb 1 l ++ (lb 2 (n + 1) ++ (vform (bpre (seps M)) ++ (M.headD sk0).sep.take (bpre (seps M)))))) := by
    show _ = _
    unfold bhead
    rw [hn]
    rfl
  have HPE : Hid (∀ x ∈ M, bpre (seps M) ≤ x.sep.length) := fun x hx => (bpre_each x.sep (seps_mem hx)).1
  have hwl : IntKind.u8.wrap (l : Int) = (l : Int) := by simp [IntKind.wrap, IntKind.bits, IntKind.signed]; omega
  have hwn : IntKind.u16.wrap ((n : Int) + 1) = ((n + 1 : Nat) : Int) := by simp [IntKind.wrap, IntKind.bits, IntKind.signed]; omega
  clear hl hk hf
  obtain ⟨Z, hZ⟩ : ∃ Z : List Int, Z = List.replicate 4092 0 := ⟨_, rfl⟩
  have hZl : Z.length = 4092 := by rw [hZ, List.length_replicate]
  have HZ := hid_intro hZ
  clear hZ
  go_enter Try.func38, Try.ntmps38
  go_wp2_with (refine wpList_alloc_arr rfl rfl Z HZ.out ?_)
  intro w1 hr1 hg1 hs1
  have R1 := hid_intro hr1
  have G1 := hid_intro hg1
  clear hr1 hg1
  go_wp2_with fail
  refine (bcommonAll_any a n cap (seps M) _ (HL.out.keptN G1.out) (by rw [seps_len]; exact hn) hc hcap).mono ?_
  rintro en w2 ⟨rfl, hg2⟩
  have R2 := hid_intro (R1.out.keptN hg2)
  have G2 := hid_intro (grown_trans G1.out hg2)
  have hsz2 : w.heap.size < w2.heap.size := by have := hg2.size; omega
  clear hg2 R1 G1 hs1
  have P1 := hid_intro (fun W : World => putV_nil (bpre (seps M)) W (by omega))
  obtain ⟨l1, hl1⟩ : ∃ l1, (vform (bpre (seps M))).length = l1 := ⟨_, rfl⟩
  have hvl : vl (bpre (seps M)) = l1 := hl1
  rw [hl1] at P1
  rw [hvl] at hhl
  have hb1 : 4 + l1 + bpre (seps M) + 2 * n + 8 ≤ 4092 := by
    have e : bcst (l : Int) M = (bhead (l : Int) M).length + 2 * M.length + 8 := rfl
    rw [e, hhl, hn] at hc0; omega
  have HL1 := hid_intro hl1
  have HHL := hid_intro hhl
  clear hc0 hvl hl1 hhl
  generalize hpp : bpre (seps M) = p at *
  have HPP := hid_intro hpp
  clear hpp
  obtain ⟨G, hG⟩ : ∃ G, w.heap.size = G := ⟨_, rfl⟩
  have HG0 : Hid (w.heap.size ≤ G) := by show _ ≤ _; omega
  rw [hG] at R2
  rw [hG] at hsz2
  rw [hG]
  clear hG
  have ga := World.grownBy_alloc w2 (.cells #[.pointer (some ⟨G, 0, none⟩), .int .i64 0] 78) none
  have G3 := hid_intro (grown_trans G2.out ga)
  have R3 := hid_intro (R2.out.keptN ga)
  have W3 : Hid (Fl (w2.alloc (.cells #[.pointer (some ⟨G, 0, none⟩), .int .i64 0] 78)) w2.heap.size G 0) := by
    show _ = _
    exact heap_alloc_new w2 _
  have HGH : Hid (w2.heap.size ≠ G) := fun e => by omega
  have HH0 : Hid (w.heap.size ≤ w2.heap.size) := G2.out.size
  have hsz3 : Hid (w2.heap.size < (w2.alloc (.cells #[.pointer (some ⟨G, 0, none⟩), .int .i64 0] 78)).heap.size) := by show _ < _; simp
  clear ga R2 G2
  go_wp2_with fail
  generalize w2.alloc (.cells #[.pointer (some ⟨G, 0, none⟩), .int .i64 0] 78) = w3 at *
  generalize w2.heap.size = H at *
  refine (put_u8_nil 2 _ (by omega)).mono ?_
  rintro en w4 ⟨rfl, hb4, hg4, hs4⟩
  have B4 := hid_intro hb4
  have W4 := hid_intro (W3.out.kept hg4 (by simp))
  have R4 := hid_intro (R3.out.keptN hg4)
  have G4 := hid_intro (grown_trans G3.out hg4)
  have N4 : Hid (w3.heap.size ≠ H) := fun e => by have := hsz3.out; omega
  clear hb4 hg4 hs4 W3 R3 G3
  go_wp2_with fail
  refine (blay_any H G 0 _ _ _ _ (lb 1 2) _ W4.out R4.out hZl B4.out HGH.out (fun ad e _ => by obtain rfl := Option.some.inj e; exact N4.out) (by omega)).mono ?_
  rintro en w5 ⟨rfl, hw5, hr5, ht5, hs5⟩
  have W5 := hid_intro hw5
  have R5 := hid_intro hr5
  have G5 := hid_intro (ht5.grown G4.out HH0.out HG0.out)
  have N5 : Hid (w5.heap.size ≠ H) := fun e => by have := hw5.lt; omega
  clear hw5 hr5 ht5 hs5 W4 R4 G4 B4 N4
  have L1 : Hid ((splice Z 0 (lb 1 2)).length = 4092) := by show _ = _; rw [splice_len (by rw [lb_len, hZl]; omega)]; exact hZl
  go_wp2_with fail
  refine (put_u8_nil l _ (by omega)).mono ?_
  rintro en w6 ⟨rfl, hb6, hg6, hs6⟩
  have B6 := hid_intro hb6
  have W6 := hid_intro (W5.out.kept hg6 (by simp))
  have R6 := hid_intro (R5.out.keptN hg6)
  have G6 := hid_intro (grown_trans G5.out hg6)
  clear hb6 hg6 hs6 W5 R5 G5
  go_wp2_with fail
  refine (blay_any H G _ _ _ _ _ (lb 1 l) _ W6.out R6.out L1.out B6.out HGH.out (fun ad e _ => by obtain rfl := Option.some.inj e; exact N5.out) (by omega)).mono ?_
  rintro en w7 ⟨rfl, hw7, hr7, ht7, hs7⟩
  have W7 := hid_intro hw7
  have R7 := hid_intro hr7
  have G7 := hid_intro (ht7.grown G6.out HH0.out HG0.out)
  have N7 : Hid (w7.heap.size ≠ H) := fun e => by have := hw7.lt; omega
  clear hw7 hr7 ht7 hs7 W6 R6 G6 B6 N5
  have L2 : Hid ((splice (splice Z 0 (lb 1 2)) (0 + 1) (lb 1 l)).length = 4092) := by show _ = _; rw [splice_len (by rw [L1.out, lb_len]; omega)]; exact L1.out
  go_wp2_with fail
  refine (put_u16_nil (n + 1) _ (by omega)).mono ?_
  rintro en w8 ⟨rfl, hb8, hg8, hs8⟩
  have B8 := hid_intro hb8
  have W8 := hid_intro (W7.out.kept hg8 (by simp))
  have R8 := hid_intro (R7.out.keptN hg8)
  have G8 := hid_intro (grown_trans G7.out hg8)
  clear hb8 hg8 hs8 W7 R7 G7
  go_wp2_with fail
  refine (blay_any H G _ _ _ _ _ (lb 2 (n + 1)) _ W8.out R8.out L2.out B8.out HGH.out (fun ad e _ => by obtain rfl := Option.some.inj e; exact N7.out) (by omega)).mono ?_
  rintro en w9 ⟨rfl, hw9, hr9, ht9, hs9⟩
  have W9 := hid_intro hw9
  have R9 := hid_intro hr9
  have G9 := hid_intro (ht9.grown G8.out HH0.out HG0.out)
  have N9 : Hid (w9.heap.size ≠ H) := fun e => by have := hw9.lt; omega
  clear hw9 hr9 ht9 hs9 W8 R8 G8 B8 N7
  have L3 : Hid ((splice (splice (splice Z 0 (lb 1 2)) (0 + 1) (lb 1 l)) (0 + 1 + 1) (lb 2 (n + 1))).length = 4092) := by show _ = _; rw [splice_len (by rw [L2.out, lb_len]; omega)]; exact L2.out
  go_wp2_with fail
  refine (P1.out _).mono ?_
  rintro en w10 ⟨rfl, hb10, hg10, hs10⟩
  have B10 := hid_intro hb10
  have W10 := hid_intro (W9.out.kept hg10 (by simp))
  have R10 := hid_intro (R9.out.keptN hg10)
  have G10 := hid_intro (grown_trans G9.out hg10)
  clear hb10 hg10 hs10 W9 R9 G9
  go_wp2_with fail
  refine (blay_any H G _ _ _ _ _ (vform p) _ W10.out R10.out L3.out B10.out HGH.out (fun ad e _ => by obtain rfl := Option.some.inj e; exact N9.out) (by omega)).mono ?_
  rintro en w11 ⟨rfl, hw11, hr11, ht11, hs11⟩
  have W11 := hid_intro hw11
  have R11 := hid_intro hr11
  have G11 := hid_intro (ht11.grown G10.out HH0.out HG0.out)
  clear hw11 hr11 ht11 hs11 W10 R10 G10 B10 N9 P1
  have L4 : Hid ((splice (splice (splice (splice Z 0 (lb 1 2)) (0 + 1) (lb 1 l)) (0 + 1 + 1) (lb 2 (n + 1))) (0 + 1 + 1 + 2) (vform p)).length = 4092) := by show _ = _; rw [splice_len (by rw [L3.out, HL1.out]; omega)]; exact L3.out
  have hkl : ((M.headD sk0).sep.take p).length = p := by
    rw [List.length_take]
    cases M with
    | nil =>
      have := HPP.out
      obtain rfl : p = 0 := this.symm
      rfl
    | cons x L => have := HPE.out x List.mem_cons_self; rw [List.headD_cons]; omega
  have HFV : Hid (splice (splice (splice (splice (splice Z 0 (lb 1 2)) (0 + 1) (lb 1 l)) (0 + 1 + 1) (lb 2 (n + 1))) (0 + 1 + 1 + 2) (vform p)) (0 + 1 + 1 + 2 + l1) ((M.headD sk0).sep.take p) = splice Z 0 (bhead (l : Int) M)) := by
    show _ = _
    rw [HB0.out]
    exact splice_five (lb_len _ _) (lb_len _ _) (lb_len _ _) HL1.out (by rw [hZl, hkl]; omega)
  have hh0 : 0 + 1 + 1 + 2 + l1 + p = (bhead (l : Int) M).length := by have := HHL.out; omega
  have HH1 := hid_intro hh0
  have HKL := hid_intro hkl
  clear hh0 hkl L1 L2 L3
  go_upto_if 34 with fail
  go_cut [] (fun wx => Fl wx H G (bhead (l : Int) M).length ∧ Rt wx G 75 (splice Z 0 (bhead (l : Int) M)) ∧ w.grownBy wx none)
  case first =>
    by_cases hp0 : 0 < p
    · have hn0 : 0 < n := by
        cases M with
        | nil => have := HPP.out; obtain rfl : p = 0 := this.symm; omega
        | cons x L => simp at hn; omega
      obtain ⟨b', off', ao, n0, c0, rfl, q2, q3, q4, q5⟩ := HL.out.row 0 (by rw [seps_len]; omega)
      rw [Nat.add_zero] at q2
      have e0 := G11.out.cell q2 (by simp)
      have hh : (seps M).getD 0 [] = (M.headD sk0).sep := by cases M <;> rfl
      rw [hh] at q3
      have hpl : p ≤ n0 := by have := HKL.out; rw [List.length_take] at this; have := q3.len; omega
      have B11 := hid_intro ((q3.keptN G11.out).take p c0 hpl (fun e => by have := (q3.nil e).1; omega))
      have hblk : Hid (∀ ad, ao = some ad → 0 < p → ad.block ≠ H) := fun ad e h => by
        have h1 := q3.lt e (by omega)
        have := HH0.out
        omega
      have g1 : (0 : Int) ≤ (p : Int) := by omega
      have g2 : (p : Int) ≤ (c0 : Int) := by omega
      have g3 : (0 : Int) < (n : Int) := by omega
      have g4 : (0 : Int) < (p : Int) := by omega
      clear q2 q3
      go_wp2_with fail
      refine (blay_any H G _ _ _ _ _ _ _ W11.out R11.out L4.out B11.out HGH.out hblk.out (by omega)).mono ?_
      rintro en w12 ⟨rfl, hw12, hr12, ht12, hs12⟩
      rw [HH1.out] at hw12
      rw [HFV.out] at hr12
      have W12 := hid_intro hw12
      have R12 := hid_intro hr12
      have G12 := hid_intro (ht12.grown G11.out HH0.out HG0.out)
      clear hw12 hr12 ht12 hs12
      go_wp2_with fail
      go_meet
      exact ⟨W12.out, R12.out, G12.out⟩
    · have hp1 : p = 0 := by omega
      have g4 : ¬ (0 : Int) < (p : Int) := by omega
      have W12 := W11.out
      have R12 := R11.out
      have e1 := HH1.out
      have e2 := HFV.out
      rw [hp1] at e1
      have e3 : (M.headD sk0).sep.take p = [] := by rw [hp1]; rfl
      rw [e3, splice_nil] at e2
      rw [e2] at R12
      rw [show 0 + 1 + 1 + 2 + l1 = (bhead (l : Int) M).length by omega] at W12
      have W13 := hid_intro W12
      have R13 := hid_intro R12
      clear e1 e2 e3 W12 R12 hp1
      go_wp2_with fail
      go_meet
      exact ⟨W13.out, R13.out, G11.out⟩
  case rest =>
  obtain ⟨hw12, hr12, hg12⟩ := hcut
  have W12 := hid_intro hw12
  have R12 := hid_intro hr12
  have G12 := hid_intro hg12
  clear hw12 hr12 hg12 W11 R11 G11 L4 HFV HB0 HKL
  have hh3 : (bhead (l : Int) M).length + 2 * n + 8 ≤ 4092 := by rw [HHL.out]; omega
  generalize hhe : (bhead (l : Int) M).length = h0 at *
  have HHE := hid_intro hhe
  clear hhe
  obtain ⟨k0, k1, _⟩ := W12.out.cells
  have HS : Hid (Fl ((wc.alloc (.cells #[.pointer (some ⟨G, 0, none⟩), .int .i64 (h0 : Int)] 78)).alloc (.cells #[.pointer (some ⟨G, 0, none⟩), .int .i64 ((h0 : Int) + 2 * (n : Int))] 78)) wc.heap.size G h0 ∧
      Fl ((wc.alloc (.cells #[.pointer (some ⟨G, 0, none⟩), .int .i64 (h0 : Int)] 78)).alloc (.cells #[.pointer (some ⟨G, 0, none⟩), .int .i64 ((h0 : Int) + 2 * (n : Int))] 78)) (wc.heap.size + 1) G (h0 + 2 * n) ∧
      Rt ((wc.alloc (.cells #[.pointer (some ⟨G, 0, none⟩), .int .i64 (h0 : Int)] 78)).alloc (.cells #[.pointer (some ⟨G, 0, none⟩), .int .i64 ((h0 : Int) + 2 * (n : Int))] 78)) G 75 (splice Z 0 (bhead (l : Int) M)) ∧
      w.grownBy ((wc.alloc (.cells #[.pointer (some ⟨G, 0, none⟩), .int .i64 (h0 : Int)] 78)).alloc (.cells #[.pointer (some ⟨G, 0, none⟩), .int .i64 ((h0 : Int) + 2 * (n : Int))] 78)) none) := by
    have ga := World.grownBy_alloc wc (.cells #[.pointer (some ⟨G, 0, none⟩), .int .i64 (h0 : Int)] 78) none
    have wa : Fl (wc.alloc (.cells #[.pointer (some ⟨G, 0, none⟩), .int .i64 (h0 : Int)] 78)) wc.heap.size G h0 := heap_alloc_new wc _
    have hsa : (wc.alloc (.cells #[.pointer (some ⟨G, 0, none⟩), .int .i64 (h0 : Int)] 78)).heap.size = wc.heap.size + 1 := by simp
    have Ra := R12.out.keptN ga
    have Ga := grown_trans G12.out ga
    generalize wc.alloc (.cells #[.pointer (some ⟨G, 0, none⟩), .int .i64 (h0 : Int)] 78) = wa1 at *
    have gb := World.grownBy_alloc wa1 (.cells #[.pointer (some ⟨G, 0, none⟩), .int .i64 ((h0 : Int) + 2 * (n : Int))] 78) none
    have wb : Fl (wa1.alloc (.cells #[.pointer (some ⟨G, 0, none⟩), .int .i64 ((h0 : Int) + 2 * (n : Int))] 78)) (wc.heap.size + 1) G (h0 + 2 * n) := by
      have e : (h0 : Int) + 2 * (n : Int) = ((h0 + 2 * n : Nat) : Int) := by omega
      rw [← hsa, e]; exact heap_alloc_new wa1 _
    exact ⟨wa.kept gb (by simp), wb, Ra.keptN gb, grown_trans Ga gb⟩
  have hSH : H < wc.heap.size := W12.out.lt
  have hSG : G < wc.heap.size := R12.out.lt
  have hSw : w.heap.size ≤ wc.heap.size := G12.out.size
  go_upto_region 12 with fail
  clear k0 k1 W12 R12 G12
  generalize (wc.alloc (.cells #[.pointer (some ⟨G, 0, none⟩), .int .i64 (h0 : Int)] 78)).alloc (.cells #[.pointer (some ⟨G, 0, none⟩), .int .i64 ((h0 : Int) + 2 * (n : Int))] 78) = w14 at *
  generalize wc.heap.size = S at *
  have S14 := hid_intro HS.out.1
  have C14 := hid_intro HS.out.2.1
  have R14 := hid_intro HS.out.2.2.1
  have G14 := hid_intro HS.out.2.2.2
  clear HS
  have HL14 : Hid ((splice Z 0 (bhead (l : Int) M)).length = 4092) := by show _ = _; rw [splice_len (by rw [hZl, HHE.out]; omega)]; exact hZl
  have HBK : Hid (bkst (l : Int) M = h0 + 2 * n) := by show _ = _; unfold bkst; rw [HHE.out, hn]
  have HL0 : Hid (splice (splice Z 0 (bhead (l : Int) M)) (h0 + 2 * n) (kb k) = blaid (l : Int) k M 0) := by
    show _ = _
    rw [← HBK.out, HZ.out]
    exact blaid_zero _ _ _ (by have := HCS.out 0; omega)
  have HSG : Hid (S + 1 ≠ G) := fun e => by omega
  have HSG2 : Hid (S ≠ G) := fun e => by omega
  go_cut [] (fun wx => Fl wx S G h0 ∧ Fl wx (S + 1) G (h0 + 2 * n + 8) ∧ Rt wx G 75 (blaid (l : Int) k M 0) ∧ w.grownBy wx none)
  case first =>
    obtain ⟨b', off', rfl, q2, q3⟩ := HK.out.row 0 (by rw [kids_len]; omega)
    have hk0 : (kids k M).getD 0 kd0 = k := rfl
    rw [hk0, Nat.zero_mul, Nat.add_zero] at q2
    rw [hk0, Nat.zero_mul, Nat.add_zero] at q3
    have hbl : b' < w.heap.size := World.block_lt_of_cell? w _ q2
    have hkk := HWK.out k List.mem_cons_self
    obtain ⟨no, hno⟩ : ∃ no, k.no = no := ⟨_, rfl⟩
    obtain ⟨ks, hks⟩ : ∃ ks, k.keys = ks := ⟨_, rfl⟩
    rw [hno] at q2
    rw [hks] at q3
    have u0 := G14.out.cell q2 (by simp)
    have u1 := G14.out.cell q3 (by simp)
    have g3 : (0 : Int) < (n : Int) + 1 := by omega
    have HNB : Hid (b' ≠ S + 1) := fun e => by omega
    have HKK := hid_intro hkk
    have HNO := hid_intro hno
    have HKS := hid_intro hks
    clear q2 q3 hkk hno hks hk0
    go_region_with (first
      | (go_at_call 60; refine (next_any (S + 1) G (h0 + 2 * n) 8 _ (by exact C14.out.qt (Qt.refl _).drew) (by omega)).mono ?_; rintro en w15 ⟨⟨no15, rfl, hno15, _⟩, hf15, hg15, hs15⟩; obtain rfl := hno15 (by omega); have v0 := (grown_trans ((Qt.refl _).drew.grown (some (S + 1))) hg15).cell u0 (fun e => HNB.out (Option.some.inj e)); have v1 := (grown_trans ((Qt.refl _).drew.grown (some (S + 1))) hg15).cell u1 (fun e => HNB.out (Option.some.inj e)))
      | (go_at_call 59; refine (layKid_any G (h0 + 2 * n) (splice Z 0 (bhead (l : Int) M)) k no ks _ (by exact R14.out.kept (grown_trans ((Qt.refl _).drew.grown (some (S + 1))) hg15) (fun e => HSG.out (Option.some.inj e).symm)) HKK.out HNO.out HKS.out (by rw [HL14.out]; omega)).mono ?_; rintro en w16 ⟨rfl, hr16, hg16⟩))
    all_goals
      have X1 := hid_intro (S14.out.kept (grown_trans ((Qt.refl _).drew.grown (some (S + 1))) hg15) (fun e => by have := Option.some.inj e; omega))
      have X2 := hid_intro (X1.out.kept hg16 (fun e => HSG2.out (Option.some.inj e)))
      have X3 := hid_intro (hf15.kept hg16 (fun e => HSG.out (Option.some.inj e)))
      have X4 := hid_intro hr16
      have X5 := hid_intro (((Two.of_other (R := S + 1) (G := G) (grown_trans ((Qt.refl _).drew.grown (some (S + 1))) hg15)).trans (Two.of_one hg16)).grown G14.out (by omega) HG0.out)
      clear hf15 hg15 hs15 hr16 hg16 v0 v1 X1
      go_wp2_with fail
      go_meet
      exact ⟨X2.out, X3.out, by rw [← HL0.out]; exact X4.out, X5.out⟩
  case rest =>
  obtain ⟨hs16, hc16, hr16, hg16⟩ := hcut
  have S16 := hid_intro hs16
  have C16 := hid_intro hc16
  have R16 := hid_intro hr16
  have G16 := hid_intro hg16
  clear hs16 hc16 hr16 hg16 S14 C14 R14 G14 HL14 HL0 hwn hwl
  go_wp2
  go_loopw [12, 13, 57] (fun _ _ si wr => ∃ i : Nat, i ≤ n ∧ si = .int .i64 i ∧ Fl wr S G (h0 + 2 * i) ∧ Fl wr (S + 1) G (h0 + 2 * n + 8 + (bcells p (M.take i)).length) ∧ Rt wr G 75 (blaid (l : Int) k M i) ∧ w.grownBy wr none) (fun _ _ si _ => n - (intOf si).toNat)
  case atStart => exact ⟨0, Nat.zero_le _, rfl, S16.out, C16.out, R16.out, G16.out⟩
  case round =>
    obtain ⟨i, hi', rfl, hs17, hc17, hr17, hg17⟩ := hrel
    have S17 := hid_intro hs17
    have C17 := hid_intro hc17
    have R17 := hid_intro hr17
    have G17 := hid_intro hg17
    clear hs17 hc17 hr17 hg17 S16 C16 R16 G16
    by_cases hlt : i < n
    · obtain ⟨b1, off1, ao, m, c', rfl, q2, q3, q4, q5⟩ := HL.out.row i (by rw [seps_len]; omega)
      obtain ⟨b2, off2, rfl, q6, q7⟩ := HK.out.row (i + 1) (by rw [kids_len]; omega)
      rw [seps_get] at q3
      rw [kids_get] at q6
      rw [kids_get] at q7
      have hx : M.getD i sk0 ∈ M := by simp [List.getD, List.getElem?_eq_getElem (show i < M.length by omega)]
      have x1 := HWS.out _ (seps_mem hx)
      have x2 := HWK.out _ (List.mem_cons_of_mem _ (List.mem_map_of_mem hx))
      have x3 := wsep_parts x1
      have x4 := q3.len
      obtain ⟨kb', ko, rfl, hkb, _⟩ := q3.at (by omega)
      have hpx : p ≤ m := by have := HPE.out _ hx; omega
      have hA0 := HCS.out (i + 1)
      have hcsn := bcells_snoc p M i (by omega)
      have hBC : bcst (l : Int) M = h0 + 2 * n + 8 := by have := HBK.out; unfold bcst; omega
      rw [hBC, hcsn, List.length_append, ← Nat.add_assoc] at hA0
      have hst := blaid_step (l : Int) k M i (by omega) (by rw [HPP.out, hBC]; omega)
      rw [HPP.out, hBC, HHE.out] at hst
      have hll := blaid_len (l : Int) k M i (by omega) (by rw [HPP.out]; exact HCS.out i)
      have HCN : Hid ((bcells p (M.take (i + 1))).length = (bcells p (M.take i)).length + (bcb p (M.getD i sk0)).length) := by show _ = _; rw [hcsn, List.length_append]
      obtain ⟨A, hA⟩ : ∃ A, h0 + 2 * n + 8 + (bcells p (M.take i)).length = A := ⟨_, rfl⟩
      rw [hA] at hst hA0 C17
      have HAA := hid_intro hA
      generalize hxx : M.getD i sk0 = x at *
      obtain ⟨C, hC⟩ : ∃ C, (bcb p x).length = C := ⟨_, rfl⟩
      rw [hC] at hA0 HCN
      have HCC := hid_intro hC
      obtain ⟨r, hr⟩ : ∃ r, m - p = r := ⟨_, rfl⟩
      have hCr : C = vl r + r + 8 := by rw [← hC, bcb_len]; unfold bcl; rw [x4, hr]
      have HCZ : Hid (∀ (ao' : Option Addr) (c'' : Nat) (W : World), Calls Try.prog 33 #[.slice ao' r c''] W fun en w' => en = .returned (.int .i64 ((C : Nat) : Int)) ∧ w' = W) := by
        intro ao' c'' W
        rw [hCr]
        exact bcellSize_any ao' r c'' W (by omega)
      obtain ⟨no, hno⟩ : ∃ no, x.kid.no = no := ⟨_, rfl⟩
      obtain ⟨ks, hks⟩ : ∃ ks, x.kid.keys = ks := ⟨_, rfl⟩
      rw [hno] at q6
      rw [hks] at q7
      have HNO := hid_intro hno
      have HKS := hid_intro hks
      have HXK := hid_intro x2
      generalize hBi : blaid (l : Int) k M i = Bi at *
      have HST := hid_intro hst
      have HLL := hid_intro hll
      have HKy := hid_intro q3
      have HX6 := hid_intro q6
      have HX7 := hid_intro q7
      have hb1l : b1 < w.heap.size := World.block_lt_of_cell? w _ q2
      have hb2l : b2 < w.heap.size := World.block_lt_of_cell? w _ q6
      have c1 := G17.out.cell q2 (by simp)
      obtain ⟨_, c2, _⟩ := C17.out.cells
      have hwA : IntKind.u16.wrap (A : Int) = (A : Int) := by simp [IntKind.wrap, IntKind.bits, IntKind.signed]; omega
      have hvlr := vl_pos r
      have hC0 : 0 < C := by omega
      have hr5 : r ≤ 255 := by omega
      clear q2 q3 q6 q7 hst hll hxx hBi hC hno hks x1 x2 hA hcsn hBC hx hCr hvlr
      go_wp2_with fail
      refine (put_u16_nil A _ (by omega)).mono ?_
      rintro en w18 ⟨rfl, hb18, hg18, hs18⟩
      have B18 := hid_intro hb18
      have S18 := hid_intro (S17.out.kept hg18 (by simp))
      have C18 := hid_intro (C17.out.kept hg18 (by simp))
      have R18 := hid_intro (R17.out.keptN hg18)
      have G18 := hid_intro (grown_trans G17.out hg18)
      have N18 : Hid (wr.heap.size ≠ S) := fun e => by have := S17.out.lt; omega
      clear hb18 hg18 hs18 S17 C17 R17 G17 c1 c2
      go_wp2_with fail
      refine (blay_any S G _ _ _ _ _ (lb 2 A) _ S18.out R18.out HLL.out B18.out HSG2.out (fun ad e _ => by obtain rfl := Option.some.inj e; exact N18.out) (by omega)).mono ?_
      rintro en w19 ⟨rfl, hw19, hr19, ht19, hs19⟩
      have S16 := hid_intro hw19
      have R16 := hid_intro hr19
      have C16 := hid_intro (C18.out.two ht19 (by omega) HSG.out)
      have G16 := hid_intro (ht19.grown G18.out (by omega) HG0.out)
      have L16 : Hid ((splice Bi (h0 + 2 * i) (lb 2 A)).length = 4092) := by show _ = _; rw [splice_len (by rw [HLL.out, lb_len]; omega)]; exact HLL.out
      clear hw19 hr19 ht19 hs19 S18 C18 R18 G18 B18 N18
      have u0 := G16.out.cell HX6.out (by simp)
      have u1 := G16.out.cell HX7.out (by simp)
      have HKy16 := hid_intro (HKy.out.keptN G16.out)
      have HNB : Hid (b2 ≠ S + 1 ∧ kb' ≠ S + 1 ∧ kb' ≠ G) := ⟨by omega, by omega, by have := HG0.out; omega⟩
      have g1 : (0 : Int) ≤ (p : Int) := by omega
      have g2 : (p : Int) ≤ (m : Int) := by omega
      obtain ⟨j, hj⟩ : ∃ j, i + 1 = j := ⟨_, rfl⟩
      rw [hj] at u0 u1
      have g3 : (j : Int) < (n : Int) + 1 := by omega
      have g4 : (0 : Int) ≤ (j : Int) := by omega
      have g7 : IntKind.i64.wrap ((i : Int) + 1) = (j : Int) := by simp [IntKind.wrap, IntKind.bits, IntKind.signed]; omega
      have g8 : j < n + 1 := by omega
      have HJ := hid_intro hj
      clear hj
      have g5 : (p : Int) ≤ (c' : Int) := by omega
      have g6 : (i : Int) < (n : Int) := by omega
      go_upto_region 17 with fail
      by_cases hcp : c' = p
      · have hr0 : r = 0 := by omega
        subst hcp
        subst hr0
        have BYT : Hid (Byt w19 (some ⟨kb', ko, none⟩) 0 0 (x.sep.drop c')) := by
          have e : x.sep.drop c' = [] := List.drop_eq_nil_of_le (by omega)
          show Byt _ _ _ _ _
          rw [e]
          exact Byt.none _ _ _ _
        go_region_with (first
          | (go_at_call 33; refine (HCZ.out _ _ _).mono ?_; rintro en w20 ⟨rfl, rfl⟩)
          | (go_at_call 60; refine (next_any (S + 1) G A C _ (by exact C16.out.qt (Qt.refl _).drew) (by omega)).mono ?_; rintro en w21 ⟨⟨no21, rfl, hno21, _⟩, hf21, hg21, hs21⟩; obtain rfl := hno21 hC0; have v0 := (grown_trans ((Qt.refl _).drew.grown (some (S + 1))) hg21).cell u0 (fun e => HNB.out.1 (Option.some.inj e)); have v1 := (grown_trans ((Qt.refl _).drew.grown (some (S + 1))) hg21).cell u1 (fun e => HNB.out.1 (Option.some.inj e)))
          | (go_at_call 61; refine (layCell_any G A (splice Bi (h0 + 2 * i) (lb 2 A)) _ _ _ c' x no ks C _ (by exact R16.out.kept (grown_trans ((Qt.refl _).drew.grown (some (S + 1))) hg21) (fun e => HSG.out (Option.some.inj e).symm)) (by exact BYT.out.kept (grown_trans ((Qt.refl _).drew.grown (some (S + 1))) hg21) (fun ad e h e2 => by obtain rfl := Option.some.inj e; exact HNB.out.2.1 (Option.some.inj e2))) (fun ad e h => by obtain rfl := Option.some.inj e; exact HNB.out.2.2) HXK.out HNO.out HKS.out HCC.out (by rw [L16.out]; omega) (by omega)).mono ?_; rintro en w22 ⟨rfl, hr22, hg22⟩))
        all_goals
          have X1 := hid_intro (S16.out.kept (grown_trans ((Qt.refl _).drew.grown (some (S + 1))) hg21) (fun e => by have := Option.some.inj e; omega))
          have X2 := hid_intro (X1.out.kept hg22 (fun e => HSG2.out (Option.some.inj e)))
          have X3 := hid_intro (hf21.kept hg22 (fun e => HSG.out (Option.some.inj e)))
          have X4 := hid_intro hr22
          have X5 := hid_intro (((Two.of_other (R := S + 1) (G := G) (grown_trans ((Qt.refl _).drew.grown (some (S + 1))) hg21)).trans (Two.of_one hg22)).grown G16.out (by omega) HG0.out)
          clear hf21 hg21 hs21 hr22 hg22 v0 v1 X1 u0 u1 g7
          go_wp2
          go_roundw
          case rel =>
            refine ⟨i + 1, by omega, by go_num, by rw [Nat.mul_add, ← Nat.add_assoc]; exact X2.out, ?_, by rw [← HST.out]; exact X4.out, X5.out⟩
            rw [HCN.out, ← Nat.add_assoc, HAA.out]
            exact X3.out
          case measure => simp [intOf]; omega
      · have BYT : Hid (Byt w19 (some ⟨kb', ko + p, none⟩) r (c' - p) (x.sep.drop p)) := by
          have := HKy16.out.drop p (c' - p) hpx
          rw [hr] at this
          exact this
        go_region_with (first
          | (go_at_call 33; refine (HCZ.out _ _ _).mono ?_; rintro en w20 ⟨rfl, rfl⟩)
          | (go_at_call 60; refine (next_any (S + 1) G A C _ (by exact C16.out.qt (Qt.refl _).drew) (by omega)).mono ?_; rintro en w21 ⟨⟨no21, rfl, hno21, _⟩, hf21, hg21, hs21⟩; obtain rfl := hno21 hC0; have v0 := (grown_trans ((Qt.refl _).drew.grown (some (S + 1))) hg21).cell u0 (fun e => HNB.out.1 (Option.some.inj e)); have v1 := (grown_trans ((Qt.refl _).drew.grown (some (S + 1))) hg21).cell u1 (fun e => HNB.out.1 (Option.some.inj e)))
          | (go_at_call 61; refine (layCell_any G A (splice Bi (h0 + 2 * i) (lb 2 A)) _ _ _ p x no ks C _ (by exact R16.out.kept (grown_trans ((Qt.refl _).drew.grown (some (S + 1))) hg21) (fun e => HSG.out (Option.some.inj e).symm)) (by exact BYT.out.kept (grown_trans ((Qt.refl _).drew.grown (some (S + 1))) hg21) (fun ad e h e2 => by obtain rfl := Option.some.inj e; exact HNB.out.2.1 (Option.some.inj e2))) (fun ad e h => by obtain rfl := Option.some.inj e; exact HNB.out.2.2) HXK.out HNO.out HKS.out HCC.out (by rw [L16.out]; omega) (by omega)).mono ?_; rintro en w22 ⟨rfl, hr22, hg22⟩))
        all_goals
          have X1 := hid_intro (S16.out.kept (grown_trans ((Qt.refl _).drew.grown (some (S + 1))) hg21) (fun e => by have := Option.some.inj e; omega))
          have X2 := hid_intro (X1.out.kept hg22 (fun e => HSG2.out (Option.some.inj e)))
          have X3 := hid_intro (hf21.kept hg22 (fun e => HSG.out (Option.some.inj e)))
          have X4 := hid_intro hr22
          have X5 := hid_intro (((Two.of_other (R := S + 1) (G := G) (grown_trans ((Qt.refl _).drew.grown (some (S + 1))) hg21)).trans (Two.of_one hg22)).grown G16.out (by omega) HG0.out)
          clear hf21 hg21 hs21 hr22 hg22 v0 v1 X1 u0 u1 g7
          go_wp2
          go_roundw
          case rel =>
            refine ⟨i + 1, by omega, by go_num, by rw [Nat.mul_add, ← Nat.add_assoc]; exact X2.out, ?_, by rw [← HST.out]; exact X4.out, X5.out⟩
            rw [HCN.out, ← Nat.add_assoc, HAA.out]
            exact X3.out
          case measure => simp [intOf]; omega
    · have hin : i = n := by omega
      subst hin
      have RB : Hid (Rt wr G 75 (bbody (l : Int) k M)) := by
        show Rt _ _ _ _
        rw [← blaid_all, hn]
        exact R17.out
      go_wp2_with (at_make; refine wpList_make_full _ rfl _ _ 28 rfl wr.heap.size 5 i0 (.int .u8 0) 1 Try.underlying28 hi hz0 hz1 _ _ _ _ 4092 rfl rfl rfl rfl ?b2 ?b3 (Nat.le_refl _) ?_)
      case b2 => rw [hz2]; omega
      case b3 => unfold maxLen; omega
      intro w20 hown hg20
      rw [made] at hown
      have RN : Hid (Rt w20 wr.heap.size 5 Z) := by
        show Rt _ _ _ _
        rw [HZ.out]
        exact Rw.of_owns hown
      have RB20 := hid_intro ((RB.out.keptN hg20).all 4092 4092 HBL.out.symm)
      have G20 := hid_intro (grown_trans G17.out hg20)
      clear hown hg20 RB
      go_wp2_with (refine wpList_copy_rt rfl _ _ rfl _ _ _ _ _ _ rfl rfl wr.heap.size 0 5 Z (bbody (l : Int) k M) RN.out RB20.out (Nat.le_refl _) (fun _ => rfl) (by omega) ?_)
      intro w21 hr21 hg21 hs21
      rw [splice_whole (by rw [HBL.out, hZl])] at hr21
      have R21 := hid_intro hr21
      have G21 := hid_intro (grown_new G20.out hg21 G17.out.size)
      have HSZ := hid_intro G17.out.size
      clear hr21 hg21 hs21 RN RB20 G20
      go_wp2
      go_ret
      exact ⟨wr.heap.size, rfl, R21.out, G21.out, HSZ.out⟩
end Go.Proofs.Ytomknmboapgmbaa
