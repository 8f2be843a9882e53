import Derived.Test.YtnfelndfpmnkmaaGreatDoorQ15
import Derived.Test.YtnfelndfpmnkmaaGreatDoorQ12
import Derived.Deep.DeepCutAuto
import Derived.Test.YtnfelndfpmnkmaaGreatDoorQ17
import Derived.Test.YtnfelndfpmnkmaaGreatDoorQ7
namespace Go.Proofs.YtnfelndfpmnkmaaGreatDoor
open Go.RowKit
theorem seps_get (M : List Sk) (i : Nat) : (seps M).getD i [] = (M.getD i sk0).sep := by
 simp only [seps, List.getD, List.getElem?_map]
 cases M[i]? <;> rfl
theorem kids_get (k : Kd) (M : List Sk) (i : Nat) : (kids k M).getD (i + 1) kd0 = (M.getD i sk0).kid := by
 simp only [kids, List.getD, List.getElem?_cons_succ, List.getElem?_map]
 cases M[i]? <;> rfl
theorem splice_five {cs A B C D E : List Int} {a b c d : Nat} (ha : A.length = a) (hb : B.length = b) (hc : C.length = c) (hd : D.length = d) (h : a + b + c + d + E.length ≤ cs.length) :
  splice (splice (splice (splice (splice cs 0 A) (0 + a) B) (0 + a + b) C) (0 + a + b + c) D) (0 + a + b + c + d) E = splice cs 0 (A ++ (B ++ (C ++ (D ++ E)))) := by
 have e1 := splice_four (cs := cs) (q := 0) ha hb hc (D := D) (by omega)
 rw [e1]
 have e2 := splice_two (cs := cs) (xs := A ++ (B ++ (C ++ D))) (ys := E) (p := 0) (by simp only [List.length_append]; omega)
 have e3 : 0 + (A ++ (B ++ (C ++ D))).length = 0 + a + b + c + d := by simp only [List.length_append]; omega
 rw [e3] at e2
 rw [e2]
 simp only [List.append_assoc]
theorem splice_whole5 {cs zs : List Int} (h : zs.length = cs.length) : splice cs 0 zs = zs := by
 unfold splice
 rw [List.take_zero, List.nil_append, Nat.zero_add, List.drop_eq_nil_of_le (by omega), List.append_nil]
set_option maxHeartbeats 4000000 in
set_option maxRecDepth 100000 in
theorem blayOut_any (l : Nat) (a : Option Addr) (n cap : Nat) (b : Option Addr) (cap2 : Nat) (k : Kd) (M : List Sk) (w : World) (hl : Lz w a (seps M)) (hk : Kl w b (kids k M)) (hn : M.length = n) (hc : n ≤ cap) (hcap : cap ≤ 9223372036854775807) (hf : Fit (l : Int) (seps M) (kids k M)) :
  Calls Tryz.prog 29 #[.int .i64 l, .slice a n cap, .slice b (n + 1) cap2] w fun en w' => ∃ G, en = .returned (.slice (some ⟨G, 0, none⟩) 4092 4092) ∧ Rw w' G (bbody l k M) ∧ w.grownBy w' none ∧ w.heap.size ≤ G := by
 obtain ⟨i0, hi, hz0, hz1, hz2⟩ := info_parts info_u8
 obtain ⟨hm1, hm2⟩ := bmany_le hf.sep hf.size
 have hl15 : l ≤ 15 := by have := hf.l2; omega
 have HCS := hid_intro (bcst_le (l : Int) k hf.size)
 have hhl := bhead_len (l : Int) M
 have hc0 := bcst_le (l : Int) k hf.size 0
 have HL := hid_intro hl
 have HK := hid_intro hk
 have HWS := hid_intro hf.sep
 have HWK := hid_intro hf.kid
 have hm : n ≤ 400 := by omega
 have HBL : Hid ((bbody (l : Int) k M).length = 4092) := bbody_len hf.size
 have HB0 : Hid (bhead (l : Int) M = lb 1 2 ++ (lb 1 l ++ (lb 2 (n + 1) ++ (vform (bpre (seps M)) ++ (M.headD sk0).sep.take (bpre (seps M)))))) := by
  show _ = _
  unfold bhead
  rw [hn]
  rfl
 have HPE : Hid (∀ x ∈ M, bpre (seps M) ≤ x.sep.length) := fun x hx => (bpre_each x.sep (seps_mem hx)).1
 have hwl : IntKind.u8.wrap (l : Int) = (l : Int) := by simp [IntKind.wrap, IntKind.bits, IntKind.signed]; omega
 have hwn : IntKind.u16.wrap ((n : Int) + 1) = ((n + 1 : Nat) : Int) := by simp [IntKind.wrap, IntKind.bits, IntKind.signed]; omega
 clear hl hk hf
 obtain ⟨Z, hZ⟩ : ∃ Z : List Int, Z = List.replicate 4092 0 := ⟨_, rfl⟩
 have hZl : Z.length = 4092 := by rw [hZ, List.length_replicate]
 have HZ := hid_intro hZ
 clear hZ
 go_enter Tryz.func29, Tryz.ntmps29
 go_wp2_with (refine wpList_alloc_arr rfl rfl Z HZ.out ?_)
 intro w1 hr1 hg1 hs1
 have R1 := hid_intro hr1
 have G1 := hid_intro hg1
 clear hr1 hg1
 go_wp2_with fail
 refine (bcommonAll_any a n cap (seps M) _ (HL.out.keptN G1.out) (by rw [seps_len]; exact hn) hc hcap).mono ?_
 rintro en w2 ⟨rfl, hg2⟩
 have R2 := hid_intro (R1.out.keptN hg2)
 have G2 := hid_intro (grown_trans G1.out hg2)
 have hsz2 : w.heap.size < w2.heap.size := by have := hg2.size; omega
 clear hg2 R1 G1 hs1
 have P1 := hid_intro (fun W : World => putV_nil (bpre (seps M)) W (by omega))
 obtain ⟨l1, hl1⟩ : ∃ l1, (vform (bpre (seps M))).length = l1 := ⟨_, rfl⟩
 have hvl : vl (bpre (seps M)) = l1 := hl1
 rw [hl1] at P1
 rw [hvl] at hhl
 have hb1 : 4 + l1 + bpre (seps M) + 2 * n + 8 ≤ 4092 := by
  have e : bcst (l : Int) M = (bhead (l : Int) M).length + 2 * M.length + 8 := rfl
  rw [e, hhl, hn] at hc0; omega
 have HL1 := hid_intro hl1
 have HHL := hid_intro hhl
 clear hc0 hvl hl1 hhl
 generalize hpp : bpre (seps M) = p at *
 have HPP := hid_intro hpp
 clear hpp
 obtain ⟨G, hG⟩ : ∃ G, w.heap.size = G := ⟨_, rfl⟩
 have HG0 : Hid (w.heap.size ≤ G) := by show _ ≤ _; omega
 rw [hG] at R2
 rw [hG] at hsz2
 rw [hG]
 clear hG
 have ga := World.grownBy_alloc w2 (.cells #[.pointer (some ⟨G, 0, none⟩), .int .i64 0] 84) none
 have G3 := hid_intro (grown_trans G2.out ga)
 have R3 := hid_intro (R2.out.keptN ga)
 have W3 : Hid (Fl (w2.alloc (.cells #[.pointer (some ⟨G, 0, none⟩), .int .i64 0] 84)) w2.heap.size G 0) := by
  show _ = _
  exact heap_alloc_new w2 _
 have HGH : Hid (w2.heap.size ≠ G) := fun e => by omega
 have HH0 : Hid (w.heap.size ≤ w2.heap.size) := G2.out.size
 have hsz3 : Hid (w2.heap.size < (w2.alloc (.cells #[.pointer (some ⟨G, 0, none⟩), .int .i64 0] 84)).heap.size) := by show _ < _; simp
 clear ga R2 G2
 go_wp2_with fail
 generalize w2.alloc (.cells #[.pointer (some ⟨G, 0, none⟩), .int .i64 0] 84) = w3 at *
 generalize w2.heap.size = H at *
 refine (put_u8_nil 2 _ (by omega)).mono ?_
 rintro en w4 ⟨rfl, hb4, hg4, hs4⟩
 have B4 := hid_intro hb4
 have W4 := hid_intro (W3.out.kept hg4 (by simp))
 have R4 := hid_intro (R3.out.keptN hg4)
 have G4 := hid_intro (grown_trans G3.out hg4)
 have N4 : Hid (w3.heap.size ≠ H) := fun e => by have := hsz3.out; omega
 clear hb4 hg4 hs4 W3 R3 G3
 go_wp2_with fail
 refine (blay_any H G 0 _ _ _ _ (lb 1 2) _ W4.out R4.out hZl B4.out HGH.out (fun ad e _ => by obtain rfl := Option.some.inj e; exact N4.out) (by omega)).mono ?_
 rintro en w5 ⟨rfl, hw5, hr5, ht5, hs5⟩
 have W5 := hid_intro hw5
 have R5 := hid_intro hr5
 have G5 := hid_intro (ht5.grown G4.out HH0.out HG0.out)
 have N5 : Hid (w5.heap.size ≠ H) := fun e => by have := hw5.lt; omega
 clear hw5 hr5 ht5 hs5 W4 R4 G4 B4 N4
 have L1 : Hid ((splice Z 0 (lb 1 2)).length = 4092) := by show _ = _; rw [splice_len (by rw [lb_len, hZl]; omega)]; exact hZl
 go_wp2_with fail
 refine (put_u8_nil l _ (by omega)).mono ?_
 rintro en w6 ⟨rfl, hb6, hg6, hs6⟩
 have B6 := hid_intro hb6
 have W6 := hid_intro (W5.out.kept hg6 (by simp))
 have R6 := hid_intro (R5.out.keptN hg6)
 have G6 := hid_intro (grown_trans G5.out hg6)
 clear hb6 hg6 hs6 W5 R5 G5
 go_wp2_with fail
 refine (blay_any H G _ _ _ _ _ (lb 1 l) _ W6.out R6.out L1.out B6.out HGH.out (fun ad e _ => by obtain rfl := Option.some.inj e; exact N5.out) (by omega)).mono ?_
 rintro en w7 ⟨rfl, hw7, hr7, ht7, hs7⟩
 have W7 := hid_intro hw7
 have R7 := hid_intro hr7
 have G7 := hid_intro (ht7.grown G6.out HH0.out HG0.out)
 have N7 : Hid (w7.heap.size ≠ H) := fun e => by have := hw7.lt; omega
 clear hw7 hr7 ht7 hs7 W6 R6 G6 B6 N5
 have L2 : Hid ((splice (splice Z 0 (lb 1 2)) (0 + 1) (lb 1 l)).length = 4092) := by show _ = _; rw [splice_len (by rw [L1.out, lb_len]; omega)]; exact L1.out
 go_wp2_with fail
 refine (put_u16_nil (n + 1) _ (by omega)).mono ?_
 rintro en w8 ⟨rfl, hb8, hg8, hs8⟩
 have B8 := hid_intro hb8
 have W8 := hid_intro (W7.out.kept hg8 (by simp))
 have R8 := hid_intro (R7.out.keptN hg8)
 have G8 := hid_intro (grown_trans G7.out hg8)
 clear hb8 hg8 hs8 W7 R7 G7
 go_wp2_with fail
 refine (blay_any H G _ _ _ _ _ (lb 2 (n + 1)) _ W8.out R8.out L2.out B8.out HGH.out (fun ad e _ => by obtain rfl := Option.some.inj e; exact N7.out) (by omega)).mono ?_
 rintro en w9 ⟨rfl, hw9, hr9, ht9, hs9⟩
 have W9 := hid_intro hw9
 have R9 := hid_intro hr9
 have G9 := hid_intro (ht9.grown G8.out HH0.out HG0.out)
 have N9 : Hid (w9.heap.size ≠ H) := fun e => by have := hw9.lt; omega
 clear hw9 hr9 ht9 hs9 W8 R8 G8 B8 N7
 have L3 : Hid ((splice (splice (splice Z 0 (lb 1 2)) (0 + 1) (lb 1 l)) (0 + 1 + 1) (lb 2 (n + 1))).length = 4092) := by show _ = _; rw [splice_len (by rw [L2.out, lb_len]; omega)]; exact L2.out
 go_wp2_with fail
 refine (P1.out _).mono ?_
 rintro en w10 ⟨rfl, hb10, hg10, hs10⟩
 have B10 := hid_intro hb10
 have W10 := hid_intro (W9.out.kept hg10 (by simp))
 have R10 := hid_intro (R9.out.keptN hg10)
 have G10 := hid_intro (grown_trans G9.out hg10)
 clear hb10 hg10 hs10 W9 R9 G9
 go_wp2_with fail
 refine (blay_any H G _ _ _ _ _ (vform p) _ W10.out R10.out L3.out B10.out HGH.out (fun ad e _ => by obtain rfl := Option.some.inj e; exact N9.out) (by omega)).mono ?_
 rintro en w11 ⟨rfl, hw11, hr11, ht11, hs11⟩
 have W11 := hid_intro hw11
 have R11 := hid_intro hr11
 have G11 := hid_intro (ht11.grown G10.out HH0.out HG0.out)
 clear hw11 hr11 ht11 hs11 W10 R10 G10 B10 N9 P1
 have L4 : Hid ((splice (splice (splice (splice Z 0 (lb 1 2)) (0 + 1) (lb 1 l)) (0 + 1 + 1) (lb 2 (n + 1))) (0 + 1 + 1 + 2) (vform p)).length = 4092) := by show _ = _; rw [splice_len (by rw [L3.out, HL1.out]; omega)]; exact L3.out
 have hkl : ((M.headD sk0).sep.take p).length = p := by
  rw [List.length_take]
  cases M with
  | nil =>
   have := HPP.out
   obtain rfl : p = 0 := this.symm
   rfl
  | cons x L => have := HPE.out x List.mem_cons_self; rw [List.headD_cons]; omega
 have HFV : Hid (splice (splice (splice (splice (splice Z 0 (lb 1 2)) (0 + 1) (lb 1 l)) (0 + 1 + 1) (lb 2 (n + 1))) (0 + 1 + 1 + 2) (vform p)) (0 + 1 + 1 + 2 + l1) ((M.headD sk0).sep.take p) = splice Z 0 (bhead (l : Int) M)) := by
  show _ = _
  rw [HB0.out]
  exact splice_five (lb_len _ _) (lb_len _ _) (lb_len _ _) HL1.out (by rw [hZl, hkl]; omega)
 have hh0 : 0 + 1 + 1 + 2 + l1 + p = (bhead (l : Int) M).length := by have := HHL.out; omega
 have HH1 := hid_intro hh0
 have HKL := hid_intro hkl
 clear hh0 hkl L1 L2 L3
 go_upto_if 34 with fail
 go_cut [] (fun wx => Fl wx H G (bhead (l : Int) M).length ∧ Rt wx G 81 (splice Z 0 (bhead (l : Int) M)) ∧ w.grownBy wx none)
 case first =>
  by_cases hp0 : 0 < p
  ·have hn0 : 0 < n := by
    cases M with
    | nil => have := HPP.out; obtain rfl : p = 0 := this.symm; omega
    | cons x L => simp at hn; omega
   obtain ⟨b', off', ao, n0, c0, rfl, q2, q3, q4, q5⟩ := HL.out.row 0 (by rw [seps_len]; omega)
   rw [Nat.add_zero] at q2
   have e0 := G11.out.cell q2 (by simp)
   have hh : (seps M).getD 0 [] = (M.headD sk0).sep := by cases M <;> rfl
   rw [hh] at q3
   have hpl : p ≤ n0 := by have := HKL.out; rw [List.length_take] at this; have := q3.len; omega
   have B11 := hid_intro ((q3.keptN G11.out).take p c0 hpl (fun e => by have := (q3.nil e).1; omega))
   have hblk : Hid (∀ ad, ao = some ad → 0 < p → ad.block ≠ H) := fun ad e h => by
    have h1 := q3.lt e (by omega)
    have := HH0.out
    omega
   have g1 : (0 : Int) ≤ (p : Int) := by omega
   have g2 : (p : Int) ≤ (c0 : Int) := by omega
   have g3 : (0 : Int) < (n : Int) := by omega
   have g4 : (0 : Int) < (p : Int) := by omega
   clear q2 q3
   go_wp2_with fail
   refine (blay_any H G _ _ _ _ _ _ _ W11.out R11.out L4.out B11.out HGH.out hblk.out (by omega)).mono ?_
   rintro en w12 ⟨rfl, hw12, hr12, ht12, hs12⟩
   rw [HH1.out] at hw12
   rw [HFV.out] at hr12
   have W12 := hid_intro hw12
   have R12 := hid_intro hr12
   have G12 := hid_intro (ht12.grown G11.out HH0.out HG0.out)
   clear hw12 hr12 ht12 hs12
   go_wp2_with fail
   go_meet
   exact ⟨W12.out, R12.out, G12.out⟩
  ·have hp1 : p = 0 := by omega
   have g4 : ¬ (0 : Int) < (p : Int) := by omega
   have W12 := W11.out
   have R12 := R11.out
   have e1 := HH1.out
   have e2 := HFV.out
   rw [hp1] at e1
   have e3 : (M.headD sk0).sep.take p = [] := by rw [hp1]; rfl
   rw [e3, splice_nil] at e2
   rw [e2] at R12
   rw [show 0 + 1 + 1 + 2 + l1 = (bhead (l : Int) M).length by omega] at W12
   have W13 := hid_intro W12
   have R13 := hid_intro R12
   clear e1 e2 e3 W12 R12 hp1
   go_wp2_with fail
   go_meet
   exact ⟨W13.out, R13.out, G11.out⟩
 case rest =>
 obtain ⟨hw12, hr12, hg12⟩ := hcut
 have W12 := hid_intro hw12
 have R12 := hid_intro hr12
 have G12 := hid_intro hg12
 clear hw12 hr12 hg12 W11 R11 G11 L4 HFV HB0 HKL
 have hh3 : (bhead (l : Int) M).length + 2 * n + 8 ≤ 4092 := by rw [HHL.out]; omega
 generalize hhe : (bhead (l : Int) M).length = h0 at *
 have HHE := hid_intro hhe
 clear hhe
 obtain ⟨k0, k1, _⟩ := W12.out.cells
 have HS : Hid (Fl ((wc.alloc (.cells #[.pointer (some ⟨G, 0, none⟩), .int .i64 (h0 : Int)] 84)).alloc (.cells #[.pointer (some ⟨G, 0, none⟩), .int .i64 ((h0 : Int) + 2 * (n : Int))] 84)) wc.heap.size G h0 ∧
   Fl ((wc.alloc (.cells #[.pointer (some ⟨G, 0, none⟩), .int .i64 (h0 : Int)] 84)).alloc (.cells #[.pointer (some ⟨G, 0, none⟩), .int .i64 ((h0 : Int) + 2 * (n : Int))] 84)) (wc.heap.size + 1) G (h0 + 2 * n) ∧
   Rt ((wc.alloc (.cells #[.pointer (some ⟨G, 0, none⟩), .int .i64 (h0 : Int)] 84)).alloc (.cells #[.pointer (some ⟨G, 0, none⟩), .int .i64 ((h0 : Int) + 2 * (n : Int))] 84)) G 81 (splice Z 0 (bhead (l : Int) M)) ∧
   w.grownBy ((wc.alloc (.cells #[.pointer (some ⟨G, 0, none⟩), .int .i64 (h0 : Int)] 84)).alloc (.cells #[.pointer (some ⟨G, 0, none⟩), .int .i64 ((h0 : Int) + 2 * (n : Int))] 84)) none) := by
  have ga := World.grownBy_alloc wc (.cells #[.pointer (some ⟨G, 0, none⟩), .int .i64 (h0 : Int)] 84) none
  have wa : Fl (wc.alloc (.cells #[.pointer (some ⟨G, 0, none⟩), .int .i64 (h0 : Int)] 84)) wc.heap.size G h0 := heap_alloc_new wc _
  have hsa : (wc.alloc (.cells #[.pointer (some ⟨G, 0, none⟩), .int .i64 (h0 : Int)] 84)).heap.size = wc.heap.size + 1 := by simp
  have Ra := R12.out.keptN ga
  have Ga := grown_trans G12.out ga
  generalize wc.alloc (.cells #[.pointer (some ⟨G, 0, none⟩), .int .i64 (h0 : Int)] 84) = wa1 at *
  have gb := World.grownBy_alloc wa1 (.cells #[.pointer (some ⟨G, 0, none⟩), .int .i64 ((h0 : Int) + 2 * (n : Int))] 84) none
  have wb : Fl (wa1.alloc (.cells #[.pointer (some ⟨G, 0, none⟩), .int .i64 ((h0 : Int) + 2 * (n : Int))] 84)) (wc.heap.size + 1) G (h0 + 2 * n) := by
   have e : (h0 : Int) + 2 * (n : Int) = ((h0 + 2 * n : Nat) : Int) := by omega
   rw [← hsa, e]; exact heap_alloc_new wa1 _
  exact ⟨wa.kept gb (by simp), wb, Ra.keptN gb, grown_trans Ga gb⟩
 have hSH : H < wc.heap.size := W12.out.lt
 have hSG : G < wc.heap.size := R12.out.lt
 have hSw : w.heap.size ≤ wc.heap.size := G12.out.size
 go_upto_region 12 with fail
 clear k0 k1 W12 R12 G12
 generalize (wc.alloc (.cells #[.pointer (some ⟨G, 0, none⟩), .int .i64 (h0 : Int)] 84)).alloc (.cells #[.pointer (some ⟨G, 0, none⟩), .int .i64 ((h0 : Int) + 2 * (n : Int))] 84) = w14 at *
 generalize wc.heap.size = S at *
 have S14 := hid_intro HS.out.1
 have C14 := hid_intro HS.out.2.1
 have R14 := hid_intro HS.out.2.2.1
 have G14 := hid_intro HS.out.2.2.2
 clear HS
 have HL14 : Hid ((splice Z 0 (bhead (l : Int) M)).length = 4092) := by show _ = _; rw [splice_len (by rw [hZl, HHE.out]; omega)]; exact hZl
 have HBK : Hid (bkst (l : Int) M = h0 + 2 * n) := by show _ = _; unfold bkst; rw [HHE.out, hn]
 have HL0 : Hid (splice (splice Z 0 (bhead (l : Int) M)) (h0 + 2 * n) (kb k) = blaid (l : Int) k M 0) := by
  show _ = _
  rw [← HBK.out, HZ.out]
  exact blaid_zero _ _ _ (by have := HCS.out 0; omega)
 have HSG : Hid (S + 1 ≠ G) := fun e => by omega
 have HSG2 : Hid (S ≠ G) := fun e => by omega
 go_cut [] (fun wx => Fl wx S G h0 ∧ Fl wx (S + 1) G (h0 + 2 * n + 8) ∧ Rt wx G 81 (blaid (l : Int) k M 0) ∧ w.grownBy wx none)
 case first =>
  obtain ⟨b', off', rfl, q2, q3⟩ := HK.out.row 0 (by rw [kids_len]; omega)
  have hk0 : (kids k M).getD 0 kd0 = k := rfl
  rw [hk0, Nat.zero_mul, Nat.add_zero] at q2
  rw [hk0, Nat.zero_mul, Nat.add_zero] at q3
  have hbl : b' < w.heap.size := World.block_lt_of_cell? w _ q2
  have hkk := HWK.out k List.mem_cons_self
  obtain ⟨no, hno⟩ : ∃ no, k.no = no := ⟨_, rfl⟩
  obtain ⟨ks, hks⟩ : ∃ ks, k.keys = ks := ⟨_, rfl⟩
  rw [hno] at q2
  rw [hks] at q3
  have u0 := G14.out.cell q2 (by simp)
  have u1 := G14.out.cell q3 (by simp)
  have g3 : (0 : Int) < (n : Int) + 1 := by omega
  have HNB : Hid (b' ≠ S + 1) := fun e => by omega
  have HKK := hid_intro hkk
  have HNO := hid_intro hno
  have HKS := hid_intro hks
  clear q2 q3 hkk hno hks hk0
  go_region_with (first
   | (go_at_call 56; refine (next_any (S + 1) G (h0 + 2 * n) 8 _ (by exact C14.out.qt (Qt.refl _).drew) (by omega)).mono ?_; rintro en w15 ⟨⟨no15, rfl, hno15, _⟩, hf15, hg15, hs15⟩; obtain rfl := hno15 (by omega); have v0 := (grown_trans ((Qt.refl _).drew.grown (some (S + 1))) hg15).cell u0 (fun e => HNB.out (Option.some.inj e)); have v1 := (grown_trans ((Qt.refl _).drew.grown (some (S + 1))) hg15).cell u1 (fun e => HNB.out (Option.some.inj e)))
   | (go_at_call 55; refine (layKid_any G (h0 + 2 * n) (splice Z 0 (bhead (l : Int) M)) k no ks _ (by exact R14.out.kept (grown_trans ((Qt.refl _).drew.grown (some (S + 1))) hg15) (fun e => HSG.out (Option.some.inj e).symm)) HKK.out HNO.out HKS.out (by rw [HL14.out]; omega)).mono ?_; rintro en w16 ⟨rfl, hr16, hg16⟩))
  all_goals
   have X1 := hid_intro (S14.out.kept (grown_trans ((Qt.refl _).drew.grown (some (S + 1))) hg15) (fun e => by have := Option.some.inj e; omega))
   have X2 := hid_intro (X1.out.kept hg16 (fun e => HSG2.out (Option.some.inj e)))
   have X3 := hid_intro (hf15.kept hg16 (fun e => HSG.out (Option.some.inj e)))
   have X4 := hid_intro hr16
   have X5 := hid_intro (((Two.of_other (R := S + 1) (G := G) (grown_trans ((Qt.refl _).drew.grown (some (S + 1))) hg15)).trans (Two.of_one hg16)).grown G14.out (by omega) HG0.out)
   clear hf15 hg15 hs15 hr16 hg16 v0 v1 X1
   go_wp2_with fail
   go_meet
   exact ⟨X2.out, X3.out, by rw [← HL0.out]; exact X4.out, X5.out⟩
 case rest =>
 obtain ⟨hs16, hc16, hr16, hg16⟩ := hcut
 have S16 := hid_intro hs16
 have C16 := hid_intro hc16
 have R16 := hid_intro hr16
 have G16 := hid_intro hg16
 clear hs16 hc16 hr16 hg16 S14 C14 R14 G14 HL14 HL0 hwn hwl
 go_wp2
 go_loopw [12, 13, 57] (fun _ _ si wr => ∃ i : Nat, i ≤ n ∧ si = .int .i64 i ∧ Fl wr S G (h0 + 2 * i) ∧ Fl wr (S + 1) G (h0 + 2 * n + 8 + (bcells p (M.take i)).length) ∧ Rt wr G 81 (blaid (l : Int) k M i) ∧ w.grownBy wr none) (fun _ _ si _ => n - (intOf si).toNat)
 case atStart => exact ⟨0, Nat.zero_le _, rfl, S16.out, C16.out, R16.out, G16.out⟩
 case round =>
  obtain ⟨i, hi', rfl, hs17, hc17, hr17, hg17⟩ := hrel
  have S17 := hid_intro hs17
  have C17 := hid_intro hc17
  have R17 := hid_intro hr17
  have G17 := hid_intro hg17
  clear hs17 hc17 hr17 hg17 S16 C16 R16 G16
  by_cases hlt : i < n
  ·obtain ⟨b1, off1, ao, m, c', rfl, q2, q3, q4, q5⟩ := HL.out.row i (by rw [seps_len]; omega)
   obtain ⟨b2, off2, rfl, q6, q7⟩ := HK.out.row (i + 1) (by rw [kids_len]; omega)
   rw [seps_get] at q3
   rw [kids_get] at q6
   rw [kids_get] at q7
   have hx : M.getD i sk0 ∈ M := by simp [List.getD, List.getElem?_eq_getElem (show i < M.length by omega)]
   have x1 := HWS.out _ (seps_mem hx)
   have x2 := HWK.out _ (List.mem_cons_of_mem _ (List.mem_map_of_mem hx))
   have x3 := wsep_parts x1
   have x4 := q3.len
   obtain ⟨kb', ko, rfl, hkb, _⟩ := q3.at (by omega)
   have hpx : p ≤ m := by have := HPE.out _ hx; omega
   have hA0 := HCS.out (i + 1)
   have hcsn := bcells_snoc p M i (by omega)
   have hBC : bcst (l : Int) M = h0 + 2 * n + 8 := by have := HBK.out; unfold bcst; omega
   rw [hBC, hcsn, List.length_append, ← Nat.add_assoc] at hA0
   have hst := blaid_step (l : Int) k M i (by omega) (by rw [HPP.out, hBC]; omega)
   rw [HPP.out, hBC, HHE.out] at hst
   have hll := blaid_len (l : Int) k M i (by omega) (by rw [HPP.out]; exact HCS.out i)
   have HCN : Hid ((bcells p (M.take (i + 1))).length = (bcells p (M.take i)).length + (bcb p (M.getD i sk0)).length) := by show _ = _; rw [hcsn, List.length_append]
   obtain ⟨A, hA⟩ : ∃ A, h0 + 2 * n + 8 + (bcells p (M.take i)).length = A := ⟨_, rfl⟩
   rw [hA] at hst hA0 C17
   have HAA := hid_intro hA
   generalize hxx : M.getD i sk0 = x at *
   obtain ⟨C, hC⟩ : ∃ C, (bcb p x).length = C := ⟨_, rfl⟩
   rw [hC] at hA0 HCN
   have HCC := hid_intro hC
   obtain ⟨r, hr⟩ : ∃ r, m - p = r := ⟨_, rfl⟩
   have hCr : C = vl r + r + 8 := by rw [← hC, bcb_len]; unfold bcl; rw [x4, hr]
   have HCZ : Hid (∀ (ao' : Option Addr) (c'' : Nat) (W : World), Calls Tryz.prog 40 #[.slice ao' r c''] W fun en w' => en = .returned (.int .i64 ((C : Nat) : Int)) ∧ w' = W) := by
    intro ao' c'' W
    rw [hCr]
    exact bcellSize_any ao' r c'' W (by omega)
   obtain ⟨no, hno⟩ : ∃ no, x.kid.no = no := ⟨_, rfl⟩
   obtain ⟨ks, hks⟩ : ∃ ks, x.kid.keys = ks := ⟨_, rfl⟩
   rw [hno] at q6
   rw [hks] at q7
   have HNO := hid_intro hno
   have HKS := hid_intro hks
   have HXK := hid_intro x2
   generalize hBi : blaid (l : Int) k M i = Bi at *
   have HST := hid_intro hst
   have HLL := hid_intro hll
   have HKy := hid_intro q3
   have HX6 := hid_intro q6
   have HX7 := hid_intro q7
   have hb1l : b1 < w.heap.size := World.block_lt_of_cell? w _ q2
   have hb2l : b2 < w.heap.size := World.block_lt_of_cell? w _ q6
   have c1 := G17.out.cell q2 (by simp)
   obtain ⟨_, c2, _⟩ := C17.out.cells
   have hwA : IntKind.u16.wrap (A : Int) = (A : Int) := by simp [IntKind.wrap, IntKind.bits, IntKind.signed]; omega
   have hvlr := vl_pos r
   have hC0 : 0 < C := by omega
   have hr5 : r ≤ 255 := by omega
   clear q2 q3 q6 q7 hst hll hxx hBi hC hno hks x1 x2 hA hcsn hBC hx hCr hvlr
   go_wp2_with fail
   refine (put_u16_nil A _ (by omega)).mono ?_
   rintro en w18 ⟨rfl, hb18, hg18, hs18⟩
   have B18 := hid_intro hb18
   have S18 := hid_intro (S17.out.kept hg18 (by simp))
   have C18 := hid_intro (C17.out.kept hg18 (by simp))
   have R18 := hid_intro (R17.out.keptN hg18)
   have G18 := hid_intro (grown_trans G17.out hg18)
   have N18 : Hid (wr.heap.size ≠ S) := fun e => by have := S17.out.lt; omega
   clear hb18 hg18 hs18 S17 C17 R17 G17 c1 c2
   go_wp2_with fail
   refine (blay_any S G _ _ _ _ _ (lb 2 A) _ S18.out R18.out HLL.out B18.out HSG2.out (fun ad e _ => by obtain rfl := Option.some.inj e; exact N18.out) (by omega)).mono ?_
   rintro en w19 ⟨rfl, hw19, hr19, ht19, hs19⟩
   have S16 := hid_intro hw19
   have R16 := hid_intro hr19
   have C16 := hid_intro (C18.out.two ht19 (by omega) HSG.out)
   have G16 := hid_intro (ht19.grown G18.out (by omega) HG0.out)
   have L16 : Hid ((splice Bi (h0 + 2 * i) (lb 2 A)).length = 4092) := by show _ = _; rw [splice_len (by rw [HLL.out, lb_len]; omega)]; exact HLL.out
   clear hw19 hr19 ht19 hs19 S18 C18 R18 G18 B18 N18
   have u0 := G16.out.cell HX6.out (by simp)
   have u1 := G16.out.cell HX7.out (by simp)
   have HKy16 := hid_intro (HKy.out.keptN G16.out)
   have HNB : Hid (b2 ≠ S + 1 ∧ kb' ≠ S + 1 ∧ kb' ≠ G) := ⟨by omega, by omega, by have := HG0.out; omega⟩
   have g1 : (0 : Int) ≤ (p : Int) := by omega
   have g2 : (p : Int) ≤ (m : Int) := by omega
   obtain ⟨j, hj⟩ : ∃ j, i + 1 = j := ⟨_, rfl⟩
   rw [hj] at u0 u1
   have g3 : (j : Int) < (n : Int) + 1 := by omega
   have g4 : (0 : Int) ≤ (j : Int) := by omega
   have g7 : IntKind.i64.wrap ((i : Int) + 1) = (j : Int) := by simp [IntKind.wrap, IntKind.bits, IntKind.signed]; omega
   have g8 : j < n + 1 := by omega
   have HJ := hid_intro hj
   clear hj
   have g5 : (p : Int) ≤ (c' : Int) := by omega
   have g6 : (i : Int) < (n : Int) := by omega
   go_upto_region 17 with fail
   by_cases hcp : c' = p
   ·have hr0 : r = 0 := by omega
    subst hcp
    subst hr0
    have BYT : Hid (Byt w19 (some ⟨kb', ko, none⟩) 0 0 (x.sep.drop c')) := by
     have e : x.sep.drop c' = [] := List.drop_eq_nil_of_le (by omega)
     show Byt _ _ _ _ _
     rw [e]
     exact Byt.zlen _ _ _ _
    go_region_with (first
     | (go_at_call 40; refine (HCZ.out _ _ _).mono ?_; rintro en w20 ⟨rfl, rfl⟩)
     | (go_at_call 56; refine (next_any (S + 1) G A C _ (by exact C16.out.qt (Qt.refl _).drew) (by omega)).mono ?_; rintro en w21 ⟨⟨no21, rfl, hno21, _⟩, hf21, hg21, hs21⟩; obtain rfl := hno21 hC0; have v0 := (grown_trans ((Qt.refl _).drew.grown (some (S + 1))) hg21).cell u0 (fun e => HNB.out.1 (Option.some.inj e)); have v1 := (grown_trans ((Qt.refl _).drew.grown (some (S + 1))) hg21).cell u1 (fun e => HNB.out.1 (Option.some.inj e)))
     | (go_at_call 57; refine (layCell5_any G A (splice Bi (h0 + 2 * i) (lb 2 A)) _ _ _ c' x no ks C _ (by exact R16.out.kept (grown_trans ((Qt.refl _).drew.grown (some (S + 1))) hg21) (fun e => HSG.out (Option.some.inj e).symm)) (by exact BYT.out.kept (grown_trans ((Qt.refl _).drew.grown (some (S + 1))) hg21) (fun ad e h e2 => by obtain rfl := Option.some.inj e; exact HNB.out.2.1 (Option.some.inj e2))) (fun ad e h => by obtain rfl := Option.some.inj e; exact HNB.out.2.2) HXK.out HNO.out HKS.out HCC.out (by rw [L16.out]; omega) (by omega)).mono ?_; rintro en w22 ⟨rfl, hr22, hg22⟩))
    all_goals
     have X1 := hid_intro (S16.out.kept (grown_trans ((Qt.refl _).drew.grown (some (S + 1))) hg21) (fun e => by have := Option.some.inj e; omega))
     have X2 := hid_intro (X1.out.kept hg22 (fun e => HSG2.out (Option.some.inj e)))
     have X3 := hid_intro (hf21.kept hg22 (fun e => HSG.out (Option.some.inj e)))
     have X4 := hid_intro hr22
     have X5 := hid_intro (((Two.of_other (R := S + 1) (G := G) (grown_trans ((Qt.refl _).drew.grown (some (S + 1))) hg21)).trans (Two.of_one hg22)).grown G16.out (by omega) HG0.out)
     clear hf21 hg21 hs21 hr22 hg22 v0 v1 X1 u0 u1 g7
     go_wp2
     go_roundw
     case rel =>
      refine ⟨i + 1, by omega, by go_num, by rw [Nat.mul_add, ← Nat.add_assoc]; exact X2.out, ?_, by rw [← HST.out]; exact X4.out, X5.out⟩
      rw [HCN.out, ← Nat.add_assoc, HAA.out]
      exact X3.out
     case measure => simp [intOf]; omega
   ·have BYT : Hid (Byt w19 (some ⟨kb', ko + p, none⟩) r (c' - p) (x.sep.drop p)) := by
     have := HKy16.out.drop p (c' - p) hpx
     rw [hr] at this
     exact this
    go_region_with (first
     | (go_at_call 40; refine (HCZ.out _ _ _).mono ?_; rintro en w20 ⟨rfl, rfl⟩)
     | (go_at_call 56; refine (next_any (S + 1) G A C _ (by exact C16.out.qt (Qt.refl _).drew) (by omega)).mono ?_; rintro en w21 ⟨⟨no21, rfl, hno21, _⟩, hf21, hg21, hs21⟩; obtain rfl := hno21 hC0; have v0 := (grown_trans ((Qt.refl _).drew.grown (some (S + 1))) hg21).cell u0 (fun e => HNB.out.1 (Option.some.inj e)); have v1 := (grown_trans ((Qt.refl _).drew.grown (some (S + 1))) hg21).cell u1 (fun e => HNB.out.1 (Option.some.inj e)))
     | (go_at_call 57; refine (layCell5_any G A (splice Bi (h0 + 2 * i) (lb 2 A)) _ _ _ p x no ks C _ (by exact R16.out.kept (grown_trans ((Qt.refl _).drew.grown (some (S + 1))) hg21) (fun e => HSG.out (Option.some.inj e).symm)) (by exact BYT.out.kept (grown_trans ((Qt.refl _).drew.grown (some (S + 1))) hg21) (fun ad e h e2 => by obtain rfl := Option.some.inj e; exact HNB.out.2.1 (Option.some.inj e2))) (fun ad e h => by obtain rfl := Option.some.inj e; exact HNB.out.2.2) HXK.out HNO.out HKS.out HCC.out (by rw [L16.out]; omega) (by omega)).mono ?_; rintro en w22 ⟨rfl, hr22, hg22⟩))
    all_goals
     have X1 := hid_intro (S16.out.kept (grown_trans ((Qt.refl _).drew.grown (some (S + 1))) hg21) (fun e => by have := Option.some.inj e; omega))
     have X2 := hid_intro (X1.out.kept hg22 (fun e => HSG2.out (Option.some.inj e)))
     have X3 := hid_intro (hf21.kept hg22 (fun e => HSG.out (Option.some.inj e)))
     have X4 := hid_intro hr22
     have X5 := hid_intro (((Two.of_other (R := S + 1) (G := G) (grown_trans ((Qt.refl _).drew.grown (some (S + 1))) hg21)).trans (Two.of_one hg22)).grown G16.out (by omega) HG0.out)
     clear hf21 hg21 hs21 hr22 hg22 v0 v1 X1 u0 u1 g7
     go_wp2
     go_roundw
     case rel =>
      refine ⟨i + 1, by omega, by go_num, by rw [Nat.mul_add, ← Nat.add_assoc]; exact X2.out, ?_, by rw [← HST.out]; exact X4.out, X5.out⟩
      rw [HCN.out, ← Nat.add_assoc, HAA.out]
      exact X3.out
     case measure => simp [intOf]; omega
  ·have hin : i = n := by omega
   subst hin
   have RB : Hid (Rt wr G 81 (bbody (l : Int) k M)) := by
    show Rt _ _ _ _
    rw [← blaid_all, hn]
    exact R17.out
   go_wp2_with (at_make; refine wpList_make_full _ rfl _ _ 26 rfl wr.heap.size 5 i0 (.int .u8 0) 1 Tryz.underlying26 hi hz0 hz1 _ _ _ _ 4092 rfl rfl rfl rfl ?b2 ?b3 (Nat.le_refl _) ?_)
   case b2 => rw [hz2]; omega
   case b3 => unfold maxLen; omega
   intro w20 hown hg20
   rw [made] at hown
   have RN : Hid (Rt w20 wr.heap.size 5 Z) := by
    show Rt _ _ _ _
    rw [HZ.out]
    exact Rw.of_owns hown
   have RB20 := hid_intro ((RB.out.keptN hg20).all 4092 4092 HBL.out.symm)
   have G20 := hid_intro (grown_trans G17.out hg20)
   clear hown hg20 RB
   go_wp2_with (refine wpList_copy_rt rfl _ _ rfl _ _ _ _ _ _ rfl rfl wr.heap.size 0 5 Z (bbody (l : Int) k M) RN.out RB20.out (Nat.le_refl _) (fun _ => rfl) (by omega) ?_)
   intro w21 hr21 hg21 hs21
   rw [splice_whole5 (by rw [HBL.out, hZl])] at hr21
   have R21 := hid_intro hr21
   have G21 := hid_intro (grown_new G20.out hg21 G17.out.size)
   have HSZ := hid_intro G17.out.size
   clear hr21 hg21 hs21 RN RB20 G20
   go_wp2
   go_ret
   exact ⟨wr.heap.size, rfl, R21.out, G21.out, HSZ.out⟩
theorem split_fit {lv : Int} {L : List (List Int)} {K : List Kd} (h : Fit lv L K) : ∃ k M, L = seps M ∧ K = kids k M := by
 have hl := h.len
 cases K with
 | nil => simp at hl
 | cons k K =>
  have hl2 : K.length = L.length := by simpa using hl
  refine ⟨k, (L.zip K).map (fun q => ⟨q.1, q.2⟩), ?_, ?_⟩
  ·unfold seps
   rw [List.map_map]
   have e : (Sk.sep ∘ fun q : List Int × Kd => (⟨q.1, q.2⟩ : Sk)) = Prod.fst := rfl
   rw [e, List.map_fst_zip (by omega)]
  ·unfold kids
   rw [List.map_map]
   have e : (Sk.kid ∘ fun q : List Int × Kd => (⟨q.1, q.2⟩ : Sk)) = Prod.snd := rfl
   rw [e, List.map_snd_zip (by omega)]
set_option maxHeartbeats 1000000 in
set_option maxRecDepth 100000 in
theorem bencode_wrong (lv : Int) (a : Option Addr) (n cap : Nat) (L : List (List Int)) (b : Option Addr) (m cap2 : Nat) (K : List Kd) (w : World) (hl : Lz w a L) (hb : Lb L) (hn : L.length = n) (hm : n ≤ 5000) (hc : n ≤ cap) (hcap : cap ≤ 9223372036854775807) (hk : Kl w b K) (hkn : K.length = m) (hkm : m ≤ 5000) (h : bwrong lv L K ≠ 0) :
  Calls Tryz.prog 9 #[.int .i64 lv, .slice a n cap, .slice b m cap2] w fun en w' => en = .returned (.tuple #[.slice none 0 0, .int .i64 (bwrong lv L K)]) ∧ w.grownBy w' none := by
 have HE := hid_intro (fun (W : World) (hW : Lz W a L) (hW2 : Kl W b K) => berrorOf_any lv a n cap L b m cap2 K W hW hb hn hm hc hcap hW2 hkn hkm)
 generalize bwrong lv L K = e at *
 have h1 : ¬ e = 0 := h
 go_enter Tryz.func9, Tryz.ntmps9
 go_wp2_with fail
 refine (HE.out _ hl hk).mono ?_
 rintro en w1 ⟨rfl, hg⟩
 have HG := hid_intro hg
 clear hg hl hk
 go_wp2
 go_ret2
 exact ⟨rfl, HG.out⟩
set_option maxHeartbeats 1000000 in
set_option maxRecDepth 100000 in
theorem bencode_ok (l : Nat) (a : Option Addr) (n cap : Nat) (b : Option Addr) (cap2 : Nat) (k : Kd) (M : List Sk) (w : World) (hl : Lz w a (seps M)) (hb : Lb (seps M)) (hk : Kl w b (kids k M)) (hn : M.length = n) (hc : n ≤ cap) (hcap : cap ≤ 9223372036854775807) (h : bwrong (l : Int) (seps M) (kids k M) = 0) :
  Calls Tryz.prog 9 #[.int .i64 l, .slice a n cap, .slice b (n + 1) cap2] w fun en w' => ∃ G, en = .returned (.tuple #[.slice (some ⟨G, 0, none⟩) 4092 4092, .int .i64 0]) ∧ Rw w' G (bbody l k M) ∧ w.grownBy w' none ∧ w.heap.size ≤ G := by
 have hf := bwrong_fit.1 h
 have hmy := (bmany_le hf.sep hf.size).1
 have HE := hid_intro (fun (W : World) (hW : Lz W a (seps M)) (hW2 : Kl W b (kids k M)) => berrorOf_any (l : Int) a n cap (seps M) b (n + 1) cap2 (kids k M) W hW hb (by rw [seps_len]; exact hn) (by omega) hc hcap hW2 (by rw [kids_len, hn]) (by omega))
 have HO := hid_intro (fun (W : World) (hW : Lz W a (seps M)) (hW2 : Kl W b (kids k M)) => blayOut_any l a n cap b cap2 k M W hW hW2 hn hc hcap hf)
 rw [h] at HE
 have HL := hid_intro hl
 have HK := hid_intro hk
 clear hl hk h hf
 generalize bbody (l : Int) k M = B at *
 go_enter Tryz.func9, Tryz.ntmps9
 go_wp2_with fail
 refine (HE.out _ HL.out HK.out).mono ?_
 rintro en w1 ⟨rfl, hg⟩
 have HG := hid_intro hg
 clear hg
 go_wp2_with fail
 refine (HO.out _ (HL.out.keptN HG.out) (HK.out.keptN HG.out)).mono ?_
 rintro en w3 ⟨G, rfl, h1, h2, h3⟩
 have H1 := hid_intro h1
 have H2 := hid_intro (grown_trans HG.out h2)
 have H3 := hid_intro (Nat.le_trans HG.out.size h3)
 clear h1 h2 h3
 go_wp2
 go_ret2
 exact ⟨G, rfl, H1.out, H2.out, H3.out⟩
structure Benc (lv : Int) (L : List (List Int)) (K : List Kd) (zs : List Int) (e : Int) : Prop where
 bad : e ≠ 0 → e = bwrong lv L K ∧ zs = []
 good : e = 0 → ∃ k M, L = seps M ∧ K = kids k M ∧ BGood zs lv k M
theorem Benc.len {lv : Int} {L : List (List Int)} {K : List Kd} {zs : List Int} {e : Int} (h : Benc lv L K zs e) (he : e = 0) : zs.length = 4092 := by
 obtain ⟨k, M, rfl, rfl, h1, rfl⟩ := h.good he
 exact bbody_len (bwrong_fit.1 h1).size
theorem Benc.code {lv : Int} {L : List (List Int)} {K : List Kd} {zs : List Int} {e : Int} (h : Benc lv L K zs e) : e = bwrong lv L K := by
 by_cases he : e = 0
 ·obtain ⟨k, M, rfl, rfl, h1, rfl⟩ := h.good he
  rw [he, h1]
 ·exact (h.bad he).1
theorem kb_bt (k : Kd) : Bt (kb k) := (lb_bt' _ _).app (lb_bt' _ _)
theorem bcells_bt (p : Nat) : ∀ {M : List Sk}, Lb (seps M) → Bt (bcells p M)
 | [], _ => Bt.nil
 | x :: M, h => ((vform_bt _).app (((h x.sep List.mem_cons_self).drop p).app (kb_bt _))).app (bcells_bt p (M := M) (fun y hy => h y (List.mem_cons_of_mem _ hy)))
theorem bslots_bt (p : Nat) : ∀ (M : List Sk) (a : Nat), Bt (bslots p a M)
 | [], _ => Bt.nil
 | _ :: M, _ => (lb_bt' _ _).app (bslots_bt p M _)
theorem bbody_bt {lv : Int} {k : Kd} {M : List Sk} (h : Lb (seps M)) : Bt (bbody lv k M) := by
 unfold bbody bused bhead
 refine Bt.app (Bt.app ((lb_bt' _ _).app ((lb_bt' _ _).app ((lb_bt' _ _).app ((vform_bt _).app ?_)))) ((bslots_bt _ _ _).app ((kb_bt _).app (bcells_bt _ h)))) ?_
 ·cases M with
  | nil => exact Bt.take Bt.nil _
  | cons x M => exact (h x.sep List.mem_cons_self).take _
 ·intro z hz
  obtain ⟨_, rfl⟩ := List.mem_replicate.1 hz
  omega
theorem Benc.bt {lv : Int} {L : List (List Int)} {K : List Kd} {zs : List Int} {e : Int} (h : Benc lv L K zs e) (hb : Lb L) : Bt zs := by
 by_cases he : e = 0
 ·obtain ⟨k, M, rfl, rfl, h1, rfl⟩ := h.good he
  exact bbody_bt hb
 ·rw [(h.bad he).2]; exact Bt.nil
theorem bencode_any (lv : Int) (a : Option Addr) (n cap : Nat) (L : List (List Int)) (b : Option Addr) (m cap2 : Nat) (K : List Kd) (w : World) (hl : Lz w a L) (hb : Lb L) (hn : L.length = n) (hm : n ≤ 5000) (hc : n ≤ cap) (hcap : cap ≤ 9223372036854775807) (hk : Kl w b K) (hkn : K.length = m) (hkm : m ≤ 5000) :
  Calls Tryz.prog 9 #[.int .i64 lv, .slice a n cap, .slice b m cap2] w fun en w' => (∃ ao j c e zs, en = .returned (.tuple #[.slice ao j c, .int .i64 e]) ∧ Byt w' ao j c zs ∧ Benc lv L K zs e ∧ j ≤ 4092 ∧ j ≤ c ∧ c ≤ 4092 ∧ (e = 0 → ∃ G, ao = some ⟨G, 0, none⟩ ∧ Rw w' G zs ∧ w.heap.size ≤ G ∧ j = 4092 ∧ c = 4092)) ∧ w.grownBy w' none := by
 by_cases h : bwrong lv L K = 0
 ·have hf := bwrong_fit.1 h
  obtain ⟨k, M, rfl, rfl⟩ := split_fit hf
  have h1 := hf.l1
  obtain ⟨l, rfl⟩ : ∃ l : Nat, lv = (l : Int) := ⟨lv.toNat, by omega⟩
  rw [seps_len] at hn
  rw [kids_len, hn] at hkn
  subst hkn
  refine (bencode_ok l a n cap b cap2 k M w hl hb hk hn hc hcap h).mono ?_
  rintro en w' ⟨G, rfl, r1, r2, r3⟩
  exact ⟨⟨_, 4092, 4092, 0, bbody l k M, rfl, r1.all 4092 4092 (bbody_len hf.size).symm, ⟨fun h => absurd rfl h, fun _ => ⟨k, M, rfl, rfl, h, rfl⟩⟩, Nat.le_refl _, Nat.le_refl _, Nat.le_refl _, fun _ => ⟨G, rfl, r1, r3, rfl, rfl⟩⟩, r2⟩
 ·refine (bencode_wrong lv a n cap L b m cap2 K w hl hb hn hm hc hcap hk hkn hkm h).mono ?_
  rintro en w' ⟨rfl, r2⟩
  exact ⟨⟨none, 0, 0, bwrong lv L K, [], rfl, Byt.empty _, ⟨fun _ => ⟨rfl, rfl⟩, fun e => absurd e h⟩, by omega, by omega, by omega, fun e => absurd e h⟩, r2⟩
theorem results_tmp3 {fn : Func} {t u v : Tmp} (h : fn.results = #[.tmp t, .tmp u, .tmp v]) (tmps : Array Value) (P : Program) (w : World) :
  (results fn tmps).run P w = .ok (.tuple #[tmps.getD t undef, tmps.getD u undef, tmps.getD v undef]) w := by
 simp [results, h]
theorem results_tmp4 {fn : Func} {t u v x : Tmp} (h : fn.results = #[.tmp t, .tmp u, .tmp v, .tmp x]) (tmps : Array Value) (P : Program) (w : World) :
  (results fn tmps).run P w = .ok (.tuple #[tmps.getD t undef, tmps.getD u undef, tmps.getD v undef, tmps.getD x undef]) w := by
 simp [results, h]
theorem own_ne {w : World} {base sz : Nat} {e t : TypeId} {v : Value} {n : Nat} {xs : List Value} (ho : w.ownsRow base e sz v n xs) {b : Nat} {cur : Array Value} (h1 : w.heap[b]? = some (.cells cur t (0, 0))) (ht : t ≠ e) : some b ≠ v.ownBlock := by
 intro e1
 rcases ho.2 with ⟨rfl, _⟩ | ⟨g, cap, cur', rfl, _, hg, _⟩
 ·cases e1
 ·obtain rfl : b = g := Option.some.inj e1
  rw [h1] at hg
  simp only [Option.some.injEq, Obj.cells.injEq] at hg
  exact ht hg.2.1
theorem own_two {w : World} {base base2 sz sz2 : Nat} {e e2 : TypeId} {v v2 : Value} {n n2 : Nat} {xs ys : List Value} (ho : w.ownsRow base e sz v n xs) (hp : w.ownsRow base2 e2 sz2 v2 n2 ys) (hne : e ≠ e2) (h0 : 0 < n2) : v.ownBlock ≠ v2.ownBlock := by
 intro e1
 rcases hp.2 with ⟨rfl, rfl⟩ | ⟨g, cap, cur', rfl, _, hg, _⟩
 ·omega
 ·exact own_ne ho hg (fun e => hne e.symm) e1.symm
structure Sv (w : World) (base : Nat) (xs : List Value) (L : List (List Int)) : Prop where
 len : xs.length = L.length
 el : ∀ j, j < L.length → ∃ g, xs[j]? = some (.slice (some ⟨g, 0, none⟩) (L.getD j []).length (L.getD j []).length) ∧ Rw w g (L.getD j []) ∧ base ≤ g ∧ (L.getD j []).length ≤ 20000
theorem Sv.nil (w : World) (base : Nat) : Sv w base [] [] := ⟨rfl, fun j hj => by simp at hj⟩
theorem Sv.kept {w w' : World} {base : Nat} {xs : List Value} {L : List (List Int)} {row : Option Nat} (h : Sv w base xs L) (hg : w.grownBy w' row) (hne : ∀ (g : Nat) (zs : List Int), base ≤ g → Rw w g zs → some g ≠ row) : Sv w' base xs L := by
 refine ⟨h.len, fun j hj => ?_⟩
 obtain ⟨g, h1, h2, h3, h4⟩ := h.el j hj
 exact ⟨g, h1, h2.kept hg (hne g _ h3 h2), h3, h4⟩
theorem Sv.snoc {w : World} {base : Nat} {xs : List Value} {L : List (List Int)} (h : Sv w base xs L) {g n : Nat} {x : List Int} (hx : Rw w g x) (hn : x.length = n) (hb : base ≤ g) (hm : n ≤ 20000) : Sv w base (xs ++ [.slice (some ⟨g, 0, none⟩) n n]) (L ++ [x]) := by
 have hl := h.len
 refine ⟨by simp [hl], fun j hj => ?_⟩
 rw [List.length_append] at hj
 simp only [List.length_cons, List.length_nil] at hj
 by_cases e : j < L.length
 ·obtain ⟨g, h1, h2, h3, h4⟩ := h.el j e
  have eg : (L ++ [x]).getD j [] = L.getD j [] := by simp [List.getD, List.getElem?_append_left e]
  rw [eg]
  exact ⟨g, by rw [List.getElem?_append_left (by omega)]; exact h1, h2, h3, h4⟩
 ·obtain rfl : j = L.length := by omega
  have eg : (L ++ [x]).getD L.length [] = x := by simp [List.getD]
  rw [eg, hn]
  exact ⟨g, by rw [List.getElem?_append_right (by omega), hl, Nat.sub_self]; rfl, hx, hb, hm⟩
theorem Sv.lz {w : World} {base base2 : Nat} {v : Value} {n : Nat} {xs : List Value} {L : List (List Int)} (h : Sv w base2 xs L) (ho : w.ownsRow base 26 1 v n xs) : ∃ a cap, v = .slice a n cap ∧ Lz w a L ∧ L.length = n ∧ n ≤ cap ∧ cap ≤ 9223372036854775807 := by
 have hl := h.len
 have hn : L.length = n := by have := ho.1; omega
 rcases ho.2 with ⟨rfl, rfl⟩ | ⟨g, cap, cur, rfl, _, _, hc, hm, _⟩
 ·obtain rfl : L = [] := List.length_eq_zero_iff.1 hn
  exact ⟨none, 0, rfl, Lz.zero _ _, rfl, Nat.le_refl _, by omega⟩
 ·refine ⟨_, cap, rfl, ⟨fun i hi => ?_⟩, hn, hc, by unfold maxLen at hm; omega⟩
  obtain ⟨g', h1, h2, h3, h4⟩ := h.el i hi
  refine ⟨g, 0, some ⟨g', 0, none⟩, (L.getD i []).length, (L.getD i []).length, rfl, ?_, h2.all _ _ rfl, Nat.le_refl _, by omega⟩
  have := ho.cellAt i (by omega)
  rw [Nat.zero_add, this]
  exact h1
def kc : List Kd → List Value
 | [] => []
 | k :: K => .int .i64 k.no :: .int .i64 k.keys :: kc K
theorem kc_len : ∀ K : List Kd, (kc K).length = K.length * 2
 | [] => rfl
 | k :: K => by rw [kc, List.length_cons, List.length_cons, kc_len K, List.length_cons]; omega
theorem kc_snoc : ∀ (K : List Kd) (k : Kd), kc (K ++ [k]) = kc K ++ [.int .i64 k.no, .int .i64 k.keys]
 | [], k => rfl
 | x :: K, k => by rw [List.cons_append, kc, kc, kc_snoc K k]; rfl
theorem kc_get : ∀ (K : List Kd) (i : Nat), i < K.length → (kc K)[i * 2]? = some (.int .i64 (K.getD i kd0).no) ∧ (kc K)[i * 2 + 1]? = some (.int .i64 (K.getD i kd0).keys)
 | k :: K, 0, _ => ⟨rfl, rfl⟩
 | k :: K, i + 1, h => by
  have := kc_get K i (by simpa using h)
  have e : (i + 1) * 2 = i * 2 + 1 + 1 := by omega
  rw [e]
  exact this
theorem kc_kl {w : World} {base : Nat} {v : Value} {n : Nat} {K : List Kd} (ho : w.ownsRow base 61 2 v n (kc K)) : ∃ a cap, v = .slice a n cap ∧ Kl w a K ∧ K.length = n ∧ n ≤ cap ∧ cap ≤ 9223372036854775807 := by
 have hl := kc_len K
 have hn : K.length = n := by have := ho.1; omega
 rcases ho.2 with ⟨rfl, rfl⟩ | ⟨g, cap, cur, rfl, _, _, hc, hm, _⟩
 ·obtain rfl : K = [] := List.length_eq_zero_iff.1 hn
  exact ⟨none, 0, rfl, Kl.zero _ _, rfl, Nat.le_refl _, by omega⟩
 ·refine ⟨_, cap, rfl, ⟨fun i hi => ?_⟩, hn, hc, by unfold maxLen at hm; omega⟩
  obtain ⟨h1, h2⟩ := kc_get K i hi
  refine ⟨g, 0, rfl, ?_, ?_⟩
  ·rw [Nat.zero_add, ho.cellAt _ (by omega)]; exact h1
  ·rw [Nat.zero_add, ho.cellAt _ (by omega)]; exact h2
theorem grown_ownR {a b c : World} {R : Nat} {row : Option Nat} (h : a.grownBy b (some R)) (k : b.grownBy c row) (hr : ∀ g, row = some g → a.heap.size ≤ g) : a.grownBy c (some R) :=
 ⟨k.os.trans h.os, k.tape.trans h.tape, k.output.trans h.output, Nat.le_trans h.size k.size,
  fun i hi hne => (k.block i (Nat.lt_of_lt_of_le hi h.size) (by intro e; have := hr i e.symm; omega)).trans (h.block i hi hne)⟩
structure Bn (w wr : World) (R G base : Nat) (po : Option Addr) (pn : Nat) (zs P : List Int) (i j : Nat) (st : Nat × Int) (M : List (List Int)) (K : List Kd) (v v2 : Value) (xs : List Value) : Prop where
 rd : Rd wr R G zs st.1 st.2
 pb : Byt wr po pn pn P
 own : wr.ownsRow base 26 1 v i xs
 own2 : wr.ownsRow base 61 2 v2 j (kc K)
 sv : Sv wr base xs M
 gr : w.grownBy wr (some R)
 far : R < base ∧ G < base ∧ w.heap.size ≤ base ∧ base ≤ wr.heap.size
 pg : ∀ ad, po = some ad → 0 < pn → ad.block = G
 len : M.length = i ∧ 0 < j
theorem Bn.call {w wr w' : World} {R G base : Nat} {po : Option Addr} {pn : Nat} {zs P : List Int} {i j : Nat} {st st' : Nat × Int} {M : List (List Int)} {K : List Kd} {v v2 : Value} {xs : List Value} (h : Bn w wr R G base po pn zs P i j st M K v v2 xs) (hr : Rd w' R G zs st'.1 st'.2) (hg : wr.grownBy w' (some R)) : Bn w w' R G base po pn zs P i j st' M K v v2 xs := by
 have hne : v.ownBlock ≠ some R := fun e => by have := (h.own.lt R e).1; have := h.far.1; omega
 have hne2 : v2.ownBlock ≠ some R := fun e => by have := (h.own2.lt R e).1; have := h.far.1; omega
 exact ⟨hr, h.pb.kept hg (fun ad e hn e2 => by have := h.pg ad e hn; have := Option.some.inj e2; have := h.rd.ne; omega), h.own.kept hg (.inr hne), h.own2.kept hg (.inr hne2), h.sv.kept hg (fun g _ hb _ e => by have := Option.some.inj e; have := h.far.1; omega), grown_trans h.gr hg, ⟨h.far.1, h.far.2.1, h.far.2.2.1, Nat.le_trans h.far.2.2.2 hg.size⟩, h.pg, h.len⟩
theorem Bn.keptN {w wr w' : World} {R G base : Nat} {po : Option Addr} {pn : Nat} {zs P : List Int} {i j : Nat} {st : Nat × Int} {M : List (List Int)} {K : List Kd} {v v2 : Value} {xs : List Value} (h : Bn w wr R G base po pn zs P i j st M K v v2 xs) (hg : wr.grownBy w' none) : Bn w w' R G base po pn zs P i j st M K v v2 xs :=
 h.call (h.rd.kept hg (by simp) (by simp)) (grown_any hg)
theorem Bn.addSep {w wr w' : World} {R G base : Nat} {po : Option Addr} {pn : Nat} {zs P : List Int} {i j : Nat} {st : Nat × Int} {M : List (List Int)} {K : List Kd} {v v' v2 : Value} {xs : List Value} (h : Bn w wr R G base po pn zs P i j st M K v v2 xs) {g n : Nat} {x : List Int} (hx : Rw wr g x) (hn : x.length = n) (hb : base ≤ g) (hm : n ≤ 20000)
  (ho : w'.ownsRow base 26 1 v' (i + 1) (xs ++ [.slice (some ⟨g, 0, none⟩) n n])) (hg : wr.grownBy w' v.ownBlock) : Bn w w' R G base po pn zs P (i + 1) j st (M ++ [x]) K v' v2 (xs ++ [.slice (some ⟨g, 0, none⟩) n n]) := by
 have hk : ∀ k, k < base → some k ≠ v.ownBlock := fun k hk e => by have := (h.own.lt k e.symm).1; omega
 have hrw : ∀ (g : Nat) (zs : List Int), base ≤ g → Rw wr g zs → some g ≠ v.ownBlock := fun g zs _ hr => own_ne h.own hr (by decide)
 have h2 : v2.ownBlock ≠ v.ownBlock := own_two h.own h.own2 (by decide) h.len.2 |> fun q e => q e.symm
 exact ⟨h.rd.kept hg (hk R h.far.1) (hk G h.far.2.1), h.pb.kept hg (fun ad e hn => by rw [h.pg ad e hn]; exact hk G h.far.2.1), ho, h.own2.kept hg (.inr h2), (h.sv.kept hg hrw).snoc (hx.kept hg (hrw g x hb hx)) hn hb hm, grown_ownR h.gr hg (fun g e => by have := (h.own.lt g e).1; have := h.far.2.2.1; omega), ⟨h.far.1, h.far.2.1, h.far.2.2.1, Nat.le_trans h.far.2.2.2 hg.size⟩, h.pg, by simp [h.len.1], h.len.2⟩
theorem Bn.addKid {w wr w' : World} {R G base : Nat} {po : Option Addr} {pn : Nat} {zs P : List Int} {i j : Nat} {st : Nat × Int} {M : List (List Int)} {K : List Kd} {v v2 v2' : Value} {xs : List Value} (h : Bn w wr R G base po pn zs P i j st M K v v2 xs) (k : Kd)
  (ho : w'.ownsRow base 61 2 v2' (j + 1) (kc K ++ [.int .i64 k.no, .int .i64 k.keys])) (hg : wr.grownBy w' v2.ownBlock) : Bn w w' R G base po pn zs P i (j + 1) st M (K ++ [k]) v v2' xs := by
 have hk : ∀ k, k < base → some k ≠ v2.ownBlock := fun k hk e => by have := (h.own2.lt k e.symm).1; omega
 have hrw : ∀ (g : Nat) (zs : List Int), base ≤ g → Rw wr g zs → some g ≠ v2.ownBlock := fun g zs _ hr => own_ne h.own2 hr (by decide)
 have h2 : v.ownBlock ≠ v2.ownBlock := own_two h.own h.own2 (by decide) h.len.2
 exact ⟨h.rd.kept hg (hk R h.far.1) (hk G h.far.2.1), h.pb.kept hg (fun ad e hn => by rw [h.pg ad e hn]; exact hk G h.far.2.1), h.own.kept hg (.inr h2), by rw [kc_snoc]; exact ho, h.sv.kept hg hrw, grown_ownR h.gr hg (fun g e => by have := (h.own2.lt g e).1; have := h.far.2.2.1; omega), ⟨h.far.1, h.far.2.1, h.far.2.2.1, Nat.le_trans h.far.2.2.2 hg.size⟩, h.pg, h.len.1, Nat.succ_pos _⟩
theorem info_bytesS : (Tryz.prog.info? 26).map (fun i => (i.zero, i.size, i.bytes)) = some (some (.slice none 0 0), 1, 24) := by kernel_rfl
theorem info_kid : (Tryz.prog.info? 61).map (fun i => (i.zero, i.size, i.bytes)) = some (some (.agg #[.int .i64 0, .int .i64 0]), 2, 16) := by kernel_rfl
theorem cell_one_new (w : World) (a : Value) (t : TypeId) : ∀ j u, [a][j]? = some u → (w.alloc (.cells #[a] t)).cell? ((⟨w.heap.size, 0, none⟩ : Addr).add j) = some u := by
 intro j u hu
 rw [Addr.add_lit, Nat.zero_add, cell_of_row _ w.heap.size j _ _ (0, 0) (heap_alloc_new w _)]
 simpa using hu
theorem cell_two_new (w : World) (a b : Value) (t : TypeId) : ∀ j u, [a, b][j]? = some u → (w.alloc (.cells #[a, b] t)).cell? ((⟨w.heap.size, 0, none⟩ : Addr).add j) = some u := by
 intro j u hu
 rw [Addr.add_lit, Nat.zero_add, cell_of_row _ w.heap.size j _ _ (0, 0) (heap_alloc_new w _)]
 simpa using hu
theorem owns_kid_new (w : World) (base : Nat) (a b : Value) (hb : base ≤ w.heap.size) : (w.alloc (.cells #[a, b] 61)).ownsRow base 61 2 (.slice (some ⟨w.heap.size, 0, none⟩) 1 1) 1 [a, b] :=
 ⟨rfl, .inr ⟨w.heap.size, 1, #[a, b], rfl, hb, heap_alloc_new w _, Nat.le_refl _, by unfold maxLen; omega, rfl, rfl⟩⟩
set_option maxHeartbeats 4000000 in
set_option maxRecDepth 100000 in
theorem bread_any (R G : Nat) (zs : List Int) (w : World) (h : Rd w R G zs 0 0) (hbt : Bt zs) (hz : zs.length ≤ 5000) :
  Calls Tryz.prog 30 #[.pointer (some ⟨R, 0, none⟩)] w fun en w' => (∃ a n cap b m cap2, en = .returned (.tuple #[.int .i64 ((hLevel zs).1 : Nat), .slice a n cap, .slice b m cap2]) ∧ Lz w' a (seps (bparse zs)) ∧ Kl w' b (kids (hKid zs).1 (bparse zs)) ∧ (bparse zs).length = n ∧ m = n + 1 ∧ n ≤ cap ∧ cap ≤ 9223372036854775807 ∧ m ≤ cap2 ∧ cap2 ≤ 9223372036854775807 ∧ Nw w w' 26 a n ∧ Nw w w' 61 b m) ∧ w.grownBy w' (some R) := by
 obtain ⟨i0, hi, hz0, hz1, hz2⟩ := info_parts info_bytesS
 obtain ⟨i1, hi1, hy0, hy1, hy2⟩ := info_parts info_kid
 have HPZ : Hid (bparse zs = bLoop zs (hPre zs).1 ((hCount zs).1 - 1) (hKid zs).2 []) := rfl
 have H1 := hid_intro (rd_B R G zs (0, 0) 1 w h)
 have H2 := hid_intro (fun (W : World) (hW : Rd W R G zs (sB zs (0, 0) 1).2.1 (sB zs (0, 0) 1).2.2) => rd_N1 R G zs (sB zs (0, 0) 1).2 W hW hbt)
 have e2 : sN zs (sB zs (0, 0) 1).2 1 = hLevel zs := rfl
 rw [e2] at H2
 have H3 := hid_intro (fun (W : World) (hW : Rd W R G zs (hLevel zs).2.1 (hLevel zs).2.2) => rd_N2 R G zs (hLevel zs).2 W hW hbt)
 have e3 : sN zs (hLevel zs).2 2 = hCount zs := rfl
 rw [e3] at H3
 have H4 := hid_intro (fun (W : World) (hW : Rd W R G zs (hCount zs).2.1 (hCount zs).2.2) => readString_any R G zs (hCount zs).2 W hW hbt)
 have e4 : sKey zs [] (hCount zs).2 = hPre zs := rfl
 rw [e4] at H4
 have H5 := hid_intro (fun (W : World) (hW : Rd W R G zs (hPre zs).2.1 (hPre zs).2.2) => rd_B R G zs (hPre zs).2 (2 * ((hCount zs).1 - 1 : Int)) W hW)
 have H6 := hid_intro (fun (W : World) (hW : Rd W R G zs (sB zs (hPre zs).2 (2 * ((hCount zs).1 - 1 : Int))).2.1 (sB zs (hPre zs).2 (2 * ((hCount zs).1 - 1 : Int))).2.2) => readKid_any R G zs (sB zs (hPre zs).2 (2 * ((hCount zs).1 - 1 : Int))).2 W hW hbt)
 have e6 : sK zs (sB zs (hPre zs).2 (2 * ((hCount zs).1 - 1 : Int))).2 = hKid zs := rfl
 rw [e6] at H6
 have n1 := sN_lt zs (sB zs (0, 0) 1).2 1 hbt
 rw [e2] at n1
 have n2 := sN_lt zs (hLevel zs).2 2 hbt
 rw [e3] at n2
 clear e2 e3 e4 e6
 generalize bparse zs = BP at *
 generalize (sB zs (hPre zs).2 (2 * ((hCount zs).1 - 1 : Int))).2 = s5 at *
 generalize (hKid zs).2 = s6 at *
 generalize (hKid zs).1 = k at *
 generalize (hPre zs).2 = s4 at *
 generalize (hPre zs).1 = P at *
 generalize (hCount zs).2 = s3 at *
 generalize (hCount zs).1 = N at *
 generalize (hLevel zs).2 = s2 at *
 generalize (hLevel zs).1 = lv at *
 generalize (sB zs (0, 0) 1).2 = s1 at *
 have hN : N < 65536 := n2
 have hlv : lv < 256 := n1
 have HNE := hid_intro h.ne
 clear h n1 n2
 go_enter Tryz.func30, Tryz.ntmps30
 go_wp2_with fail
 refine H1.out.mono ?_
 rintro en w1 ⟨⟨_, _, rfl, _, _, _⟩, hr1, hg1⟩
 have D1 := hid_intro hr1
 have G1 := hid_intro hg1
 clear hr1 hg1 H1
 go_wp2_with fail
 refine (H2.out _ D1.out).mono ?_
 rintro en w2 ⟨rfl, hr2, hg2⟩
 have D2 := hid_intro hr2
 have G2 := hid_intro (grown_trans G1.out hg2)
 clear hr2 hg2 H2 D1 G1
 go_wp2_with fail
 refine (H3.out _ D2.out).mono ?_
 rintro en w3 ⟨rfl, hr3, hg3⟩
 have D3 := hid_intro hr3
 have G3 := hid_intro (grown_trans G2.out hg3)
 clear hr3 hg3 H3 D2 G2
 go_wp2_with fail
 refine (H4.out _ D3.out).mono ?_
 rintro en w4 ⟨⟨po, pn, rfl, hb4, hpo, hpn⟩, hr4, hg4⟩
 have D4 := hid_intro hr4
 have B4 := hid_intro hb4
 have PO := hid_intro hpo
 have G4 := hid_intro (grown_trans G3.out hg4)
 clear hr4 hg4 hb4 hpo H4 D3 G3
 go_wp2_with fail
 refine (H5.out _ D4.out).mono ?_
 rintro en w5 ⟨⟨_, _, rfl, _, _, _⟩, hr5, hg5⟩
 have D5 := hid_intro hr5
 have B5 := hid_intro (B4.out.kept hg5 (fun ad e h e2 => by obtain ⟨q, hq⟩ := PO.out h; rw [e] at hq; obtain rfl := Option.some.inj hq; exact HNE.out (Option.some.inj e2)))
 have G5 := hid_intro (grown_trans G4.out hg5)
 clear hr5 hg5 H5 D4 B4 G4
 go_wp2_with fail
 refine (H6.out _ D5.out).mono ?_
 rintro en w6 ⟨rfl, hr6, hg6⟩
 have D6 := hid_intro hr6
 have B6 := hid_intro (B5.out.kept hg6 (fun ad e h e2 => by obtain ⟨q, hq⟩ := PO.out h; rw [e] at hq; obtain rfl := Option.some.inj hq; exact HNE.out (Option.some.inj e2)))
 have G6 := hid_intro (grown_trans G5.out hg6)
 clear hr6 hg6 H6 D5 B5 G5
 obtain ⟨no, hno⟩ : ∃ no, k.no = no := ⟨_, rfl⟩
 obtain ⟨ks, hks⟩ : ∃ ks, k.keys = ks := ⟨_, rfl⟩
 rw [hno, hks]
 have HKC : Hid (kc [k] = [.int .i64 no, .int .i64 ks]) := by show _ = _; rw [← hno, ← hks]; rfl
 clear hno hks
 have ga := World.grownBy_alloc w6 (.cells #[.int .i64 no, .int .i64 ks] 61) none
 have HS0 : Hid (Bn w (w6.alloc (.cells #[.int .i64 no, .int .i64 ks] 61)) R G w6.heap.size po pn zs P 0 1 s6 [] [k] (.slice none 0 0) (.slice (some ⟨w6.heap.size, 0, none⟩) 1 1) []) :=
  ⟨D6.out.kept ga (by simp) (by simp), B6.out.keptN ga, ⟨rfl, .inl ⟨rfl, rfl⟩⟩, by rw [HKC.out]; exact owns_kid_new w6 w6.heap.size _ _ (Nat.le_refl _), Sv.nil _ _, grown_trans G6.out (grown_any ga), ⟨D6.out.lt.1, D6.out.lt.2, G6.out.size, by simp⟩, fun ad e h => by obtain ⟨q, hq⟩ := PO.out h; rw [e] at hq; obtain rfl := Option.some.inj hq; rfl, rfl, by omega⟩
 clear ga D6 B6 G6
 go_wp2
 generalize w6.alloc (.cells #[.int .i64 no, .int .i64 ks] 61) = w7 at *
 obtain ⟨base, hbase⟩ : ∃ base, w6.heap.size = base := ⟨_, rfl⟩
 rw [hbase] at HS0
 rw [hbase]
 clear hbase
 have hcast : ((2 : Int) * ((N : Int) - 1)) = 2 * ((N : Int) - 1) := rfl
 clear hcast
 go_loopw [8, 9, 10, 11, 31] (fun sk ss _ _ si wr => ∃ (i : Nat) (st : Nat × Int) (M : List Sk) (xs : List Value), i ≤ N ∧ si = .int .i64 i ∧ bLoop zs P (N - 1 - i) st M = BP ∧ M.length = i ∧ i ≤ N - 1 ∧ Bn w wr R G base po pn zs P i (i + 1) st (seps M) (kids k M) ss sk xs) (fun _ _ _ _ si _ => N - (intOf si).toNat)
 case atStart => exact ⟨0, s6, [], [], Nat.zero_le _, rfl, HPZ.out.symm, rfl, Nat.zero_le _, HS0.out⟩
 case round =>
  rename_i sk ss _ _ si wr
  obtain ⟨i, st, M, xs, hi', rfl, hsl, hml, hin1, hrn⟩ := hrel
  have HRN := hid_intro hrn
  have HSL := hid_intro hsl
  have HML := hid_intro hml
  clear hsl hrn HS0 HPZ hml
  by_cases hlt : i < N - 1
  ·have g1 : (i : Int) < (N : Int) - 1 := by omega
   have H8 := hid_intro (readString_any R G zs st wr HRN.out.rd hbt)
   have H9 := hid_intro (fun (W : World) (hW : Rd W R G zs (sKey zs [] st).2.1 (sKey zs [] st).2.2) => readKid_any R G zs (sKey zs [] st).2 W hW hbt)
   have HSS : Hid (BP = if (sK zs (sKey zs [] st).2).2.2 = 0 then bLoop zs P (N - 1 - (i + 1)) (sK zs (sKey zs [] st).2).2 (M ++ [⟨P ++ (sKey zs [] st).1, (sK zs (sKey zs [] st).2).1⟩]) else M ++ [⟨P ++ (sKey zs [] st).1, (sK zs (sKey zs [] st).2).1⟩]) := by
    show _ = _
    rw [← HSL.out, show N - 1 - i = (N - 1 - (i + 1)) + 1 by omega, bLoop]
    rfl
   clear HSL
   generalize (sK zs (sKey zs [] st).2).2 = st2 at *
   generalize (sK zs (sKey zs [] st).2).1 = k' at *
   generalize (sKey zs [] st).2 = st1 at *
   generalize (sKey zs [] st).1 = X at *
   have HER := hid_intro (fun (W : World) (hW : Rd W R G zs st2.1 st2.2) => err_any R G zs st2.1 st2.2 W hW)
   go_wp2_with fail
   refine H8.out.mono ?_
   rintro en w8 ⟨⟨so, sn, rfl, hb8, hso, hsn⟩, hr8, hg8⟩
   have N8 := hid_intro (HRN.out.call hr8 hg8)
   have B8 := hid_intro hb8
   clear hb8 hso hr8 hg8 H8 HRN
   go_wp2_with fail
   refine (joined_any po pn pn P so sn sn X _ N8.out.pb B8.out (by omega) (by omega)).mono ?_
   rintro en w9 ⟨rfl, hr9, hg9⟩
   have N9 := hid_intro (N8.out.keptN hg9)
   have X9 := hid_intro hr9
   have hgb : base ≤ w8.heap.size := N8.out.far.2.2.2
   have hPX : Hid ((P ++ X).length = pn + sn) := by show _ = _; rw [List.length_append, N8.out.pb.len, B8.out.len]
   clear hr9 hg9 N8 B8
   generalize w8.heap.size = g at *
   go_wp2_with (at_builtin; refine wpList_append_own _ rfl _ _ 22 rfl base 26 i0 (.slice none 0 0) 1 24 Tryz.underlying22 hi hz0 hz1 hz2 rfl (by decide) _ i xs rfl (N9.out.own.alloc _) ⟨w9.heap.size, 0, none⟩ 1 1 [.slice (some ⟨g, 0, none⟩) (pn + sn) (pn + sn)] rfl rfl (cell_one_new _ _ _) (by intro u hu; simp at hu; subst hu; rfl) (by unfold maxLen; omega) (by omega) (by have := N9.out.far.2.2.2; simp; omega) ?_)
   intro v' w10 ho hg10 _
   have N10 := hid_intro ((N9.out.keptN (World.grownBy_alloc w9 _ none)).addSep (X9.out.keptN (World.grownBy_alloc w9 _ none)) hPX.out hgb (by omega) ho hg10)
   clear ho hg10 N9 X9
   go_wp2_with fail
   refine (H9.out _ N10.out.rd).mono ?_
   rintro en w11 ⟨rfl, hr11, hg11⟩
   have N11 := hid_intro (N10.out.call hr11 hg11)
   clear hr11 hg11 N10 H9
   obtain ⟨no', hno⟩ : ∃ no', k'.no = no' := ⟨_, rfl⟩
   obtain ⟨ks', hks⟩ : ∃ ks', k'.keys = ks' := ⟨_, rfl⟩
   rw [hno, hks]
   have HNO := hid_intro hno
   have HKS := hid_intro hks
   clear hno hks
   go_wp2_with (at_builtin; refine wpList_append_own _ rfl _ _ 23 rfl base 61 i1 (.agg #[.int .i64 0, .int .i64 0]) 2 16 Tryz.underlying23 hi1 hy0 hy1 hy2 rfl (by decide) _ (i + 1) (kc (kids k M)) rfl (N11.out.own2.alloc _) ⟨w11.heap.size, 0, none⟩ 1 1 [.int .i64 no', .int .i64 ks'] rfl rfl (cell_two_new _ _ _ _) (by intro u hu; simp at hu; rcases hu with rfl | rfl <;> rfl) (by unfold maxLen; omega) (by omega) (by have := N11.out.far.2.2.2; simp; omega) ?_)
   intro v2' w12 ho hg12 _
   have N12 := hid_intro ((N11.out.keptN (World.grownBy_alloc w11 _ none)).addKid k' (by rw [HNO.out, HKS.out]; exact ho) hg12)
   clear ho hg12 N11
   go_wp2_with fail
   refine (HER.out _ N12.out.rd).mono ?_
   rintro en w13 ⟨rfl, hq13⟩
   have N13 := hid_intro (N12.out.keptN (hq13.grown none))
   clear hq13 N12 HER
   have HE1 : Hid (seps M ++ [P ++ X] = seps (M ++ [⟨P ++ X, k'⟩])) := by show _ = _; unfold seps; simp
   have HE2 : Hid (kids k M ++ [k'] = kids k (M ++ [⟨P ++ X, k'⟩])) := by show _ = _; unfold kids; simp
   rw [HE1.out, HE2.out] at N13
   obtain ⟨pp, ee⟩ := st2
   by_cases he : ee = 0
   ·subst he
    have HSS1 := hid_intro (HSS.out.trans (if_pos rfl))
    clear HSS
    go_wp2
    go_roundw
    case rel => exact ⟨i + 1, (pp, 0), _, _, by omega, by go_num, HSS1.out.symm, by simp [HML.out], by omega, N13.out⟩
    case measure => simp [intOf]; omega
   ·have HSS1 := hid_intro (HSS.out.trans (if_neg he))
    clear HSS
    obtain ⟨a, cap, e1, e2, e3, e4, e5⟩ := N13.out.sv.lz N13.out.own
    obtain ⟨b, cap2, f1, f2, f3, f4, f5⟩ := kc_kl N13.out.own2
    have GR := hid_intro N13.out.gr
    subst e1 f1
    have HNA : Hid (Nw w w13 26 a (i + 1)) := Nw.of_owns N13.out.own N13.out.far.2.2.1
    have HNB : Hid (Nw w w13 61 b (i + 1 + 1)) := Nw.of_owns N13.out.own2 N13.out.far.2.2.1
    have HE := hid_intro e2
    have HF := hid_intro f2
    have HLN : Hid (BP.length = i + 1) := by show _ = _; rw [HSS1.out]; simp [HML.out]
    clear e2 f2 e3 f3 N13
    go_wp2
    (try simp only [Exit.inBlock, Exit.then]); refine bodyPost_ret (results_tmp3 rfl _ _ _) rfl ?_
    rw [HSS1.out] at *
    exact ⟨⟨a, i + 1, cap, b, i + 1 + 1, cap2, rfl, HE.out, HF.out, HLN.out, rfl, e4, e5, f4, f5, HNA.out, HNB.out⟩, GR.out⟩
  ·have hin : N - 1 = i := by omega
   have g1 : ¬ (i : Int) < (N : Int) - 1 := by omega
   have HSL1 : Hid (M = BP) := by
    have := HSL.out
    rw [hin, Nat.sub_self] at this
    exact this
   obtain ⟨a, cap, e1, e2, e3, e4, e5⟩ := HRN.out.sv.lz HRN.out.own
   obtain ⟨b, cap2, f1, f2, f3, f4, f5⟩ := kc_kl HRN.out.own2
   have GR := hid_intro HRN.out.gr
   subst e1 f1
   have HNA : Hid (Nw w wr 26 a i) := Nw.of_owns HRN.out.own HRN.out.far.2.2.1
   have HNB : Hid (Nw w wr 61 b (i + 1)) := Nw.of_owns HRN.out.own2 HRN.out.far.2.2.1
   have HE := hid_intro e2
   have HF := hid_intro f2
   clear e2 f2 e3 f3 HRN HSL
   go_wp2
   (try simp only [Exit.inBlock, Exit.then]); refine bodyPost_ret (results_tmp3 rfl _ _ _) rfl ?_
   rw [← HSL1.out]
   exact ⟨⟨a, i, cap, b, i + 1, cap2, rfl, HE.out, HF.out, HML.out, rfl, e4, e5, f4, f5, HNA.out, HNB.out⟩, GR.out⟩
theorem sk_inj : ∀ {M M' : List Sk}, seps M = seps M' → M.map Sk.kid = M'.map Sk.kid → M = M'
 | [], [], _, _ => rfl
 | [], _ :: _, h, _ => by simp [seps] at h
 | _ :: _, [], h, _ => by simp [seps] at h
 | ⟨s, k⟩ :: M, ⟨s', k'⟩ :: M', h, h2 => by
  simp only [seps, List.map_cons, List.cons.injEq] at h h2
  obtain ⟨rfl, h⟩ := h
  obtain ⟨rfl, h2⟩ := h2
  rw [sk_inj (M := M) (M' := M') h h2]
theorem branch_inj {k k' : Kd} {M M' : List Sk} (h : seps M = seps M') (h2 : kids k M = kids k' M') : k = k' ∧ M = M' := by
 unfold kids at h2
 injection h2 with e1 e2
 exact ⟨e1, sk_inj h e2⟩
theorem sK_ok {zs : List Int} {s : Nat × Int} (h : (sK zs s).2.2 = 0) : s.2 = 0 ∧ s.1 ≤ (sK zs s).2.1 ∧ (sK zs s).2.1 ≤ max s.1 zs.length := by
 have h1 := sN_ok (zs := zs) (s := (sN zs s 4).2) (k := 4) h
 have h2 := sN_ok (zs := zs) (s := s) (k := 4) h1.1
 refine ⟨h2.1, ?_, ?_⟩
 ·exact Nat.le_trans h2.2.1 h1.2.1
 ·have := h1.2.2
  have := h2.2.2
  show (sN zs (sN zs s 4).2 4).2.1 ≤ _
  omega
theorem bItem_ok {zs P : List Int} {s : Nat × Int} (hb : Bt zs) (h : (bItem zs P s).2.2 = 0) : s.1 + 1 ≤ (bItem zs P s).2.1 ∧ (bItem zs P s).2.1 ≤ max s.1 zs.length := by
 have h1 := sK_ok (zs := zs) (s := (sKey zs P s).2) h
 have h3 := sB_ok (zs := zs) (s := (sV zs s).2) (m := i64 (sV zs s).1) h1.1
 have h4 := sV_ok hb h3.1
 have e : (sKey zs P s).2 = (sB zs (sV zs s).2 (i64 (sV zs s).1)).2 := rfl
 have e2 : (bItem zs P s).2 = (sK zs (sKey zs P s).2).2 := rfl
 rw [e] at h1
 rw [e2, e]
 omega
theorem bLoop_len {zs P : List Int} (hb : Bt zs) : ∀ (n : Nat) (s : Nat × Int) (acc : List Sk), s.1 ≤ zs.length → acc.length ≤ s.1 → (bLoop zs P n s acc).length ≤ zs.length + 1
 | 0, s, acc, h1, h2 => by rw [bLoop]; omega
 | n + 1, s, acc, h1, h2 => by
  rw [bLoop]
  split
  ·rename_i h0
   have h3 := bItem_ok hb h0
   exact bLoop_len hb n _ _ (by omega) (by simp; omega)
  ·simp; omega
theorem bLoop_ir {zs P : List Int} (hb : Bt zs) (hP : Bt P) (hl : P.length + zs.length ≤ 10000) : ∀ (n : Nat) (s : Nat × Int) (acc : List Sk), (∀ x ∈ acc, Bt x.sep ∧ x.sep.length ≤ 10000) → ∀ x ∈ bLoop zs P n s acc, Bt x.sep ∧ x.sep.length ≤ 10000
 | 0, _, _, h, x, hx => h x hx
 | n + 1, s, acc, h, x, hx => by
  have hnew : ∀ y ∈ acc ++ [(bItem zs P s).1], Bt y.sep ∧ y.sep.length ≤ 10000 := by
   intro y hy
   rcases List.mem_append.1 hy with hy | hy
   ·exact h y hy
   ·obtain rfl := List.mem_singleton.1 hy
    have h1 := sB_bt (zs := zs) (sV zs s).2 (i64 (sV zs s).1) hb
    refine ⟨hP.app h1.1, ?_⟩
    show (P ++ _).length ≤ _
    rw [List.length_append]
    omega
  rw [bLoop] at hx
  split at hx
  ·exact bLoop_ir hb hP hl n _ _ hnew x hx
  ·exact hnew x hx
theorem hPre_bt {zs : List Int} (hb : Bt zs) : Bt (hPre zs).1 ∧ (hPre zs).1.length ≤ zs.length := sB_bt _ _ hb
theorem hKid_pl {zs : List Int} (hb : Bt zs) : (hKid zs).2.1 ≤ zs.length := sN_pl (sN_pl (sB_pl (sB_pl (sV_pl hb (sN_pl (sN_pl (sB_pl (Nat.zero_le _))))))))
theorem bparse_ir {zs : List Int} (hb : Bt zs) (hl : zs.length ≤ 5000) : ∀ x ∈ bparse zs, Bt x.sep ∧ x.sep.length ≤ 10000 := by
 have h := hPre_bt hb
 exact bLoop_ir hb h.1 (by omega) _ _ _ (fun x hx => by cases hx)
theorem bparse_len {zs : List Int} (hb : Bt zs) : (bparse zs).length ≤ zs.length + 1 := bLoop_len hb _ _ _ (hKid_pl hb) (Nat.zero_le _)
theorem bparse_lb {zs : List Int} (hb : Bt zs) (hl : zs.length ≤ 5000) : Lb (seps (bparse zs)) := by
 intro s hs
 obtain ⟨x, hx, rfl⟩ := List.mem_map.1 hs
 exact (bparse_ir hb hl x hx).1
structure Bdec (zs : List Int) (lv : Int) (L : List (List Int)) (K : List Kd) (e : Int) : Prop where
 code : e = 0 ∨ e = 50
 good : e = 0 → zs.length = 4092 ∧ ∃ k M, L = seps M ∧ K = kids k M ∧ BGood zs lv k M
 bad : e ≠ 0 → lv = 0 ∧ L = [] ∧ K = [] ∧ ∀ lv k M, ¬ BGood zs lv k M
theorem BGood.len {zs : List Int} {lv : Int} {k : Kd} {M : List Sk} (h : BGood zs lv k M) : zs.length = 4092 := by
 rw [← h.2]; exact bbody_len (bwrong_fit.1 h.1).size
set_option maxHeartbeats 1000000 in
set_option maxRecDepth 100000 in
theorem bdecode_len (ao : Option Addr) (n c : Nat) (w : World) (h : n ≠ 4092) : Calls Tryz.prog 11 #[.slice ao n c] w fun en w' => en = .returned (.tuple #[.int .i64 0, .slice none 0 0, .slice none 0 0, .int .i64 50]) ∧ w' = w := by
 go_enter Tryz.func11, Tryz.ntmps11
 go_wp2
 (try simp only [Exit.inBlock, Exit.then]); refine bodyPost_ret (results_tmp4 rfl _ _ _) rfl ?_
 exact ⟨rfl, rfl⟩
set_option maxHeartbeats 1000000 in
set_option maxRecDepth 100000 in
theorem bdecode_body (ao : Option Addr) (c : Nat) (zs : List Int) (w : World) (hb : Byt w ao 4092 c zs) (hbt : Bt zs) :
  Calls Tryz.prog 11 #[.slice ao 4092 c] w fun en w' => (∃ lv a n cap b m cap2 e L K, en = .returned (.tuple #[.int .i64 lv, .slice a n cap, .slice b m cap2, .int .i64 e]) ∧ Bdec zs lv L K e ∧ Lz w' a L ∧ Lb L ∧ L.length = n ∧ n ≤ cap ∧ cap ≤ 9223372036854775807 ∧ Kl w' b K ∧ K.length = m ∧ m ≤ cap2 ∧ cap2 ≤ 9223372036854775807 ∧ Nw w w' 26 a n ∧ Nw w w' 61 b m) ∧ w.grownBy w' none := by
 have hl := hb.len
 have HPL := hid_intro (bparse_len hbt)
 have HLB := hid_intro (bparse_lb hbt (by omega))
 have HPB : Hid (∀ lv k M, BGood zs lv k M → ((hLevel zs).1 : Int) = lv ∧ (hKid zs).1 = k ∧ bparse zs = M) := fun lv k M h => by have := bparse_body h; exact ⟨this.1, this.2.1, this.2.2.1⟩
 have HB := hid_intro hb
 clear hb
 go_enter Tryz.func11, Tryz.ntmps11
 go_wp2_with fail
 refine (newReader_any ao 4092 c zs _ HB.out (by omega)).mono ?_
 rintro en w1 ⟨R, rfl, hr1, hg1, hR⟩
 have D1 := hid_intro hr1
 have G1 := hid_intro hg1
 clear hr1 hg1
 go_wp2_with fail
 refine (bread_any R w.heap.size zs _ D1.out hbt (by omega)).mono ?_
 rintro en w3 ⟨⟨a, n, cap, b, m, cap2, rfl, hlz, hkl, hn, rfl, hnc, hcm, hmc, hcm2, hna, hnb⟩, hg3⟩
 have A3 := hid_intro (hna.from G1.out.size)
 have C3 := hid_intro (hnb.from G1.out.size)
 clear hna hnb
 have G3 := hid_intro (grown_new G1.out hg3 (by omega))
 have L3 := hid_intro hlz
 have K3 := hid_intro hkl
 have B3 := hid_intro (HB.out.keptN G3.out)
 have hn5 : n ≤ 4093 := by have := HPL.out; omega
 clear hlz hkl hg3 G1 D1 HPL
 generalize hpz : bparse zs = M at *
 generalize hlz : (hLevel zs).1 = lv at *
 generalize hkz : (hKid zs).1 = k at *
 clear hpz hlz hkz
 go_wp2_with fail
 refine (bencode_any (lv : Int) a n cap (seps M) b (n + 1) cap2 (kids k M) _ L3.out HLB.out (by rw [seps_len]; exact hn) (by omega) hnc hcm K3.out (by rw [kids_len, hn]) (by omega)).mono ?_
 rintro en w4 ⟨⟨bo, j, c', e, ys, rfl, hb4, hbe, hj4, hj5, hj6, _⟩, hg4⟩
 have B4 := hid_intro hb4
 have L4 := hid_intro (L3.out.keptN hg4)
 have A4 := hid_intro (A3.out.keptN hg4)
 have C4 := hid_intro (C3.out.keptN hg4)
 have K4 := hid_intro (K3.out.keptN hg4)
 have Z4 := hid_intro (B3.out.keptN hg4)
 have G4 := hid_intro (grown_trans G3.out hg4)
 have HYB := hid_intro (hbe.bt HLB.out)
 have HBE := hid_intro hbe
 clear hb4 hg4 hbe L3 K3 B3 G3
 have HN2 : Hid (∀ lv' k' M', BGood zs lv' k' M' → e = 0 ∧ ys = zs) := by
  intro lv' k' M' h
  obtain ⟨rfl, rfl, rfl⟩ := HPB.out lv' k' M' h
  have he : e = 0 := HBE.out.code.trans h.1
  obtain ⟨k2, M2, h1, h2, h3⟩ := HBE.out.good he
  obtain ⟨rfl, rfl⟩ := branch_inj h1 h2
  exact ⟨he, h3.2.symm.trans h.2⟩
 by_cases he : e = 0
 ·by_cases hy : ys = zs
  ·have HGD : Hid (Bdec zs (lv : Int) (seps M) (kids k M) 0) := ⟨.inl rfl, fun _ => ⟨hl, k, M, rfl, rfl, by
    obtain ⟨k2, M2, h1, h2, h3⟩ := HBE.out.good he
    obtain ⟨rfl, rfl⟩ := branch_inj h1 h2
    rw [← hy]; exact h3⟩, fun h => absurd rfl h⟩
   subst he
   clear HBE HN2
   go_wp2_with fail
   refine (equal_yes _ _ _ _ _ _ _ _ _ B4.out Z4.out hy).mono ?_
   rintro en w5 ⟨rfl, rfl⟩
   clear hy
   go_wp2
   (try simp only [Exit.inBlock, Exit.then]); refine bodyPost_ret (results_tmp4 rfl _ _ _) rfl ?_
   exact ⟨⟨_, a, n, cap, b, n + 1, cap2, 0, seps M, kids k M, rfl, HGD.out, L4.out, HLB.out, by rw [seps_len]; exact hn, hnc, hcm, K4.out, by rw [kids_len, hn], hmc, hcm2, A4.out, C4.out⟩, G4.out⟩
  ·have HND : Hid (Bdec zs 0 [] [] 50) := ⟨.inr rfl, (fun h => by cases h), fun _ => ⟨rfl, rfl, rfl, fun lv' k' M' h => hy (HN2.out lv' k' M' h).2⟩⟩
   subst he
   clear HBE HN2
   go_wp2_with fail
   refine (equal_no _ _ _ _ _ _ _ _ _ B4.out Z4.out HYB.out hbt hy).mono ?_
   rintro en w5 ⟨rfl, rfl⟩
   clear hy
   go_wp2
   (try simp only [Exit.inBlock, Exit.then]); refine bodyPost_ret (results_tmp4 rfl _ _ _) rfl ?_
   exact ⟨⟨0, none, 0, 0, none, 0, 0, 50, [], [], rfl, HND.out, Lz.zero _ _, (fun s hs => by cases hs), rfl, Nat.le_refl _, by omega, Kl.zero _ _, rfl, Nat.le_refl _, by omega, Nw.zero _ _ _ _, Nw.zero _ _ _ _⟩, G4.out⟩
 ·have HND : Hid (Bdec zs 0 [] [] 50) := ⟨.inr rfl, (fun h => by cases h), fun _ => ⟨rfl, rfl, rfl, fun lv' k' M' h => he (HN2.out lv' k' M' h).1⟩⟩
  clear HBE HN2
  go_wp2
  (try simp only [Exit.inBlock, Exit.then]); refine bodyPost_ret (results_tmp4 rfl _ _ _) rfl ?_
  exact ⟨⟨0, none, 0, 0, none, 0, 0, 50, [], [], rfl, HND.out, Lz.zero _ _, (fun s hs => by cases hs), rfl, Nat.le_refl _, by omega, Kl.zero _ _, rfl, Nat.le_refl _, by omega, Nw.zero _ _ _ _, Nw.zero _ _ _ _⟩, G4.out⟩
theorem bdecode_new (ao : Option Addr) (n c : Nat) (zs : List Int) (w : World) (hb : Byt w ao n c zs) (hbt : Bt zs) :
  Calls Tryz.prog 11 #[.slice ao n c] w fun en w' => (∃ lv a n cap b m cap2 e L K, en = .returned (.tuple #[.int .i64 lv, .slice a n cap, .slice b m cap2, .int .i64 e]) ∧ Bdec zs lv L K e ∧ Lz w' a L ∧ Lb L ∧ L.length = n ∧ n ≤ cap ∧ cap ≤ 9223372036854775807 ∧ Kl w' b K ∧ K.length = m ∧ m ≤ cap2 ∧ cap2 ≤ 9223372036854775807 ∧ Nw w w' 26 a n ∧ Nw w w' 61 b m) ∧ w.grownBy w' none := by
 have hl := hb.len
 by_cases h : n = 4092
 ·subst h
  exact bdecode_body ao c zs w hb hbt
 ·refine (bdecode_len ao n c w h).mono ?_
  rintro en w' ⟨rfl, rfl⟩
  exact ⟨⟨0, none, 0, 0, none, 0, 0, 50, [], [], rfl, ⟨.inr rfl, (fun h => by cases h), fun _ => ⟨rfl, rfl, rfl, fun lv' k' M' hg => h (by rw [← hl]; exact hg.len)⟩⟩, Lz.zero _ _, (fun s hs => by cases hs), rfl, Nat.le_refl _, by omega, Kl.zero _ _, rfl, Nat.le_refl _, by omega, Nw.zero _ _ _ _, Nw.zero _ _ _ _⟩, World.grownBy.refl _ _⟩
theorem bdecode_any (ao : Option Addr) (n c : Nat) (zs : List Int) (w : World) (hb : Byt w ao n c zs) (hbt : Bt zs) :
  Calls Tryz.prog 11 #[.slice ao n c] w fun en w' => (∃ lv a n cap b m cap2 e L K, en = .returned (.tuple #[.int .i64 lv, .slice a n cap, .slice b m cap2, .int .i64 e]) ∧ Bdec zs lv L K e ∧ Lz w' a L ∧ Lb L ∧ L.length = n ∧ n ≤ cap ∧ cap ≤ 9223372036854775807 ∧ Kl w' b K ∧ K.length = m ∧ m ≤ cap2 ∧ cap2 ≤ 9223372036854775807) ∧ w.grownBy w' none := by
 refine (bdecode_new ao n c zs w hb hbt).mono ?_
 rintro en w' ⟨⟨lv, a, n, cap, b, m, cap2, e, L, K, h0, h1, h2, h3, h4, h5, h6, h7, h8, h9, h10, _⟩, hg⟩
 exact ⟨⟨lv, a, n, cap, b, m, cap2, e, L, K, h0, h1, h2, h3, h4, h5, h6, h7, h8, h9, h10⟩, hg⟩
end Go.Proofs.YtnfelndfpmnkmaaGreatDoor
