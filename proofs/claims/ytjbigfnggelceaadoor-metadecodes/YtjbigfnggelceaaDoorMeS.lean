import Derived.Test.YtjbigfnggelceaaDoorMeR
namespace Go.Proofs.YtjbigfnggelceaaDoor
open Go.RowKit

set_option maxHeartbeats 400000 in
theorem refNumber_any (x : Nat) (w : World) (hx : x < 18446744073709551616) : Calls Tryd.prog 39 #[.int .u64 x] w fun en w' => en = .returned (.int .i64 (cm x)) ∧ w' = w := by
  by_cases h : 4611686018427387904 < x
  · have h' : (4611686018427387904 : Int) < (x : Int) := by omega
    have e : Hid (cm x = 4611686018427387905) := by show _ = _; unfold cm; rw [if_pos h]
    go_enter Tryd.func39, Tryd.ntmps39
    go_wp2
    go_ret
    exact ⟨by rw [e.out]; rfl, rfl⟩
  · have h' : ¬ (4611686018427387904 : Int) < (x : Int) := by omega
    have e : Hid (cm x = (x : Int)) := by show _ = _; unfold cm; rw [if_neg h]
    have q : wrap64 (x : Int) = (x : Int) := by unfold wrap64; omega
    have q2 : IntKind.i64.wrap (x : Int) = (x : Int) := by simp [IntKind.wrap, IntKind.bits, IntKind.signed]; omega
    go_enter Tryd.func39, Tryd.ntmps39
    go_wp2
    go_ret
    exact ⟨by rw [e.out]; rfl, rfl⟩
set_option maxHeartbeats 1000000 in
set_option maxRecDepth 100000 in
theorem refDecode_short (ao : Option Addr) (n cap : Nat) (w : World) (h : n ≠ 4092) :
    Calls Tryd.prog 25 #[.slice ao n cap] w fun en w' => en = .returned (.tuple #[.agg #[.int .i64 0, .int .i64 0, .int .i64 0, .int .i64 0, .int .i64 0, .int .i64 0, .int .i64 0], .int .i64 70]) ∧ w.grownBy w' none := by
  have h' : ¬ (n : Int) = 4092 := by omega
  go_enter Tryd.func25, Tryd.ntmps25
  go_wp2
  refine bodyPost_ret (ret_head_tmp rfl _ _ w.heap.size 0 0 0 0 0 0 0 rfl (Hx.new w 0 0 0 0 0 0 0)) rfl ?_
  exact ⟨rfl, World.grownBy_alloc w _ none⟩

/-- What the reference's reading holds on to. -/
structure Rq (w w' : World) (R G U T : Nat) (zs : List Int) (p : Nat) (v c r t k f n : Int) : Prop where
  rd : Rr w' R G zs p 0
  u : Hx w' U 0 0 0 0 0 0 0
  t : Hx w' T v c r t k f n
  gr : w.grownBy w' none
  hT : T ≠ R ∧ T ≠ G ∧ T ≠ U ∧ w.heap.size ≤ T
  hU : U ≠ R ∧ U ≠ G ∧ w.heap.size ≤ U
  hR : w.heap.size ≤ R
theorem Rq.call {w w' w'' : World} {R G U T : Nat} {zs : List Int} {p p' : Nat} {v c r t k f n : Int} (h : Rq w w' R G U T zs p v c r t k f n) (hr : Rr w'' R G zs p' 0) (hg : w'.grownBy w'' (some R)) : Rq w w'' R G U T zs p' v c r t k f n :=
  ⟨hr, h.u.kept hg (fun e => h.hU.1 (Option.some.inj e)), h.t.kept hg (fun e => h.hT.1 (Option.some.inj e)), grown_new h.gr hg h.hR, h.hT, h.hU, h.hR⟩
theorem Rq.put {w w' : World} {R G U T : Nat} {zs : List Int} {p : Nat} {v c r t k f n v' c' r' t' k' f' n' : Int} (h : Rq w w' R G U T zs p v c r t k f n) (j : Nat) (x : Value) (ht : Hx (w'.setCell ⟨T, j, none⟩ x) T v' c' r' t' k' f' n') : Rq w (w'.setCell ⟨T, j, none⟩ x) R G U T zs p v' c' r' t' k' f' n' :=
  ⟨h.rd.kept (grown_cell w' T j x) (fun e => h.hT.1 (Option.some.inj e).symm) (fun e => h.hT.2.1 (Option.some.inj e).symm), h.u.kept (grown_cell w' T j x) (fun e => h.hT.2.2.1 (Option.some.inj e).symm), ht, grown_new h.gr (grown_cell w' T j x) h.hT.2.2.2, h.hT, h.hU, h.hR⟩

set_option maxHeartbeats 4000000 in
set_option maxRecDepth 100000 in
theorem refDecode_full (ao : Option Addr) (cap : Nat) (zs : List Int) (w : World) (hb : Byt w ao 4092 cap zs) (hbt : Bt zs) :
    Calls Tryd.prog 25 #[.slice ao 4092 cap] w fun en w' => en = .returned (.tuple #[.agg #[.int .i64 (aH zs).v, .int .i64 (aH zs).c, .int .i64 (aH zs).r, .int .i64 (aH zs).h, .int .i64 (aH zs).k, .int .i64 (aH zs).f, .int .i64 (aH zs).n], .int .i64 (aE zs)]) ∧ w.grownBy w' none := by
  have hl := hb.len
  have HB := hid_intro hb
  clear hb
  obtain ⟨v, hv⟩ : ∃ v, v = le 8 (zs.drop 4) := ⟨_, rfl⟩
  obtain ⟨c, hc⟩ : ∃ c, c = le 4 (zs.drop 12) := ⟨_, rfl⟩
  obtain ⟨r, hr⟩ : ∃ r, r = le 4 (zs.drop 16) := ⟨_, rfl⟩
  obtain ⟨t, ht⟩ : ∃ t, t = le 1 (zs.drop 20) := ⟨_, rfl⟩
  obtain ⟨k, hk⟩ : ∃ k, k = le 8 (zs.drop 21) := ⟨_, rfl⟩
  obtain ⟨f, hf⟩ : ∃ f, f = le 4 (zs.drop 29) := ⟨_, rfl⟩
  obtain ⟨n, hn⟩ : ∃ n, n = le 4 (zs.drop 33) := ⟨_, rfl⟩
  have lv : v < 18446744073709551616 := by rw [hv]; have := le_lt 8 _ (hbt.drop 4); omega
  have lk : k < 18446744073709551616 := by rw [hk]; have := le_lt 8 _ (hbt.drop 21); omega
  have lc : c < 4294967296 := by rw [hc]; have := le_lt 4 _ (hbt.drop 12); omega
  have lr : r < 4294967296 := by rw [hr]; have := le_lt 4 _ (hbt.drop 16); omega
  have lt' : t < 256 := by rw [ht]; have := le_lt 1 _ (hbt.drop 20); omega
  have lf' : f < 4294967296 := by rw [hf]; have := le_lt 4 _ (hbt.drop 29); omega
  have ln : n < 4294967296 := by rw [hn]; have := le_lt 4 _ (hbt.drop 33); omega
  have wc : wrap64 (c : Int) = (c : Int) := by unfold wrap64; omega
  have wrr : wrap64 (r : Int) = (r : Int) := by unfold wrap64; omega
  have wt : wrap64 (t : Int) = (t : Int) := by unfold wrap64; omega
  have wf : wrap64 (f : Int) = (f : Int) := by unfold wrap64; omega
  have wn : wrap64 (n : Int) = (n : Int) := by unfold wrap64; omega
  have E : Hid (qH zs = ⟨cm v, c, r, t, cm k, f, n⟩) := by
    show _ = _
    rw [hv, hc, hr, ht, hk, hf, hn]
    rfl
  have HV := hid_intro hv
  have HC := hid_intro hc
  have HR := hid_intro hr
  have HT := hid_intro ht
  have HK := hid_intro hk
  have HF := hid_intro hf
  have HN := hid_intro hn
  have LV := hid_intro lv
  have LK := hid_intro lk
  clear hv hc hr ht hk hf hn lv lk lc lr lt' lf' ln
  go_enter Tryd.func25, Tryd.ntmps25
  go_upto_region 3 with fail
  have U1 := hid_intro (Hx.new w 0 0 0 0 0 0 0)
  have G1 := hid_intro (World.grownBy_alloc w (.cells #[.int .i64 0, .int .i64 0, .int .i64 0, .int .i64 0, .int .i64 0, .int .i64 0, .int .i64 0] 23) none)
  generalize w.alloc (.cells #[.int .i64 0, .int .i64 0, .int .i64 0, .int .i64 0, .int .i64 0, .int .i64 0, .int .i64 0] 23) = w1 at *
  go_wp2_with fail
  refine (refNew_any ao 4092 cap zs _ (HB.out.keptN G1.out) (by omega)).mono ?_
  rintro en w2 ⟨R, rfl, hr2, hg2, hs2⟩
  have U2 := hid_intro (U1.out.keptN hg2)
  have G2 := hid_intro (grown_trans G1.out hg2)
  have L2 := hid_intro (show w.heap.size < w1.heap.size from U1.out.lt)
  clear hg2 U1 G1
  go_wp2_with fail
  refine (rbytes_ok R w1.heap.size zs 0 4 _ hr2 (by omega)).mono ?_
  rintro en w3 ⟨ao3, rfl, hb3, hr3, hg3⟩
  have U3 := hid_intro (U2.out.kept hg3 (fun e => by have := Option.some.inj e; have := L2.out; omega))
  have G3 := hid_intro (grown_new G2.out hg3 (by have := L2.out; omega))
  clear hg3 hr2 hb3 U2 G2
  go_upto_region 6 with fail
  have gg := World.grownBy_alloc w3 (.cells #[.int .i64 0, .int .i64 0, .int .i64 0, .int .i64 0, .int .i64 0, .int .i64 0, .int .i64 0] 23) none
  have S0 : Hid (Rq w (w3.alloc (.cells #[.int .i64 0, .int .i64 0, .int .i64 0, .int .i64 0, .int .i64 0, .int .i64 0, .int .i64 0] 23)) R w1.heap.size w.heap.size w3.heap.size zs 4 0 0 0 0 0 0 0) := by
    have l1 := L2.out
    have l2 := hr3.lt
    have l3 := U3.out.lt
    have l4 := G3.out.size
    exact ⟨hr3.kept gg (by simp) (by simp), U3.out.keptN gg, Hx.new w3 0 0 0 0 0 0 0, grown_trans G3.out gg, ⟨by omega, by omega, by omega, by omega⟩, ⟨by omega, by omega, Nat.le_refl _⟩, by omega⟩
  clear gg hr3 U3 G3 L2
  generalize w3.alloc (.cells #[.int .i64 0, .int .i64 0, .int .i64 0, .int .i64 0, .int .i64 0, .int .i64 0, .int .i64 0] 23) = w0 at *
  generalize w3.heap.size = T at *
  generalize w1.heap.size = G at *
  clear w3 w1
  obtain ⟨c0, c1, c2, c3, c4, c5, c6⟩ := S0.out.t.cells
  go_wp2_with fail
  refine (rnum_ok R G zs 4 8 _ S0.out.rd hbt (by omega) (by omega)).mono ?_
  rw [← HV.out]
  rintro en w1 ⟨rfl, hr1, hg1⟩
  have S1 := hid_intro (S0.out.call hr1 hg1)
  clear S0 hr1 hg1 c0 c1 c2 c3 c4 c5 c6
  go_wp2_with fail
  refine (refNumber_any v _ LV.out).mono ?_
  rintro en w1 ⟨rfl, rfl⟩
  obtain ⟨c0, c1, c2, c3, c4, c5, c6⟩ := S1.out.t.cells
  have f0 := S1.out.t.frozen 0
  go_upto_region 7 with fail
  have S2 := hid_intro (S1.out.put 0 (.int .i64 (cm v)) (S1.out.t.set0 (cm v)))
  clear S1 c0 c1 c2 c3 c4 c5 c6 f0
  generalize w1.setCell ⟨T, 0, none⟩ (.int .i64 (cm v)) = w2 at *
  obtain ⟨c0, c1, c2, c3, c4, c5, c6⟩ := S2.out.t.cells
  go_wp2_with fail
  refine (rnum_ok R G zs 12 4 _ S2.out.rd hbt (by omega) (by omega)).mono ?_
  rw [← HC.out]
  rintro en w3 ⟨rfl, hr3, hg3⟩
  have S3 := hid_intro (S2.out.call hr3 hg3)
  clear S2 hr3 hg3 c0 c1 c2 c3 c4 c5 c6
  obtain ⟨c0, c1, c2, c3, c4, c5, c6⟩ := S3.out.t.cells
  have f1 := S3.out.t.frozen 1
  go_upto_region 8 with fail
  have S4 := hid_intro (S3.out.put 1 (.int .i64 (c : Int)) (S3.out.t.set1 (c : Int)))
  clear S3 c0 c1 c2 c3 c4 c5 c6 f1
  generalize w3.setCell ⟨T, 1, none⟩ (.int .i64 (c : Int)) = w4 at *
  obtain ⟨c0, c1, c2, c3, c4, c5, c6⟩ := S4.out.t.cells
  go_wp2_with fail
  refine (rnum_ok R G zs 16 4 _ S4.out.rd hbt (by omega) (by omega)).mono ?_
  rw [← HR.out]
  rintro en w5 ⟨rfl, hr5, hg5⟩
  have S5 := hid_intro (S4.out.call hr5 hg5)
  clear S4 hr5 hg5 c0 c1 c2 c3 c4 c5 c6
  obtain ⟨c0, c1, c2, c3, c4, c5, c6⟩ := S5.out.t.cells
  have f2 := S5.out.t.frozen 2
  go_upto_region 9 with fail
  have S6 := hid_intro (S5.out.put 2 (.int .i64 (r : Int)) (S5.out.t.set2 (r : Int)))
  clear S5 c0 c1 c2 c3 c4 c5 c6 f2
  generalize w5.setCell ⟨T, 2, none⟩ (.int .i64 (r : Int)) = w6 at *
  obtain ⟨c0, c1, c2, c3, c4, c5, c6⟩ := S6.out.t.cells
  go_wp2_with fail
  refine (rnum_ok R G zs 20 1 _ S6.out.rd hbt (by omega) (by omega)).mono ?_
  rw [← HT.out]
  rintro en w7 ⟨rfl, hr7, hg7⟩
  have S7 := hid_intro (S6.out.call hr7 hg7)
  clear S6 hr7 hg7 c0 c1 c2 c3 c4 c5 c6
  obtain ⟨c0, c1, c2, c3, c4, c5, c6⟩ := S7.out.t.cells
  have f3 := S7.out.t.frozen 3
  go_upto_region 10 with fail
  have S8 := hid_intro (S7.out.put 3 (.int .i64 (t : Int)) (S7.out.t.set3 (t : Int)))
  clear S7 c0 c1 c2 c3 c4 c5 c6 f3
  generalize w7.setCell ⟨T, 3, none⟩ (.int .i64 (t : Int)) = w8 at *
  obtain ⟨c0, c1, c2, c3, c4, c5, c6⟩ := S8.out.t.cells
  go_wp2_with fail
  refine (rnum_ok R G zs 21 8 _ S8.out.rd hbt (by omega) (by omega)).mono ?_
  rw [← HK.out]
  rintro en w9 ⟨rfl, hr9, hg9⟩
  have S9 := hid_intro (S8.out.call hr9 hg9)
  clear S8 hr9 hg9 c0 c1 c2 c3 c4 c5 c6
  go_wp2_with fail
  refine (refNumber_any k _ LK.out).mono ?_
  rintro en w9 ⟨rfl, rfl⟩
  obtain ⟨c0, c1, c2, c3, c4, c5, c6⟩ := S9.out.t.cells
  have f4 := S9.out.t.frozen 4
  go_upto_region 11 with fail
  have S10 := hid_intro (S9.out.put 4 (.int .i64 (cm k)) (S9.out.t.set4 (cm k)))
  clear S9 c0 c1 c2 c3 c4 c5 c6 f4
  generalize w9.setCell ⟨T, 4, none⟩ (.int .i64 (cm k)) = w10 at *
  obtain ⟨c0, c1, c2, c3, c4, c5, c6⟩ := S10.out.t.cells
  go_wp2_with fail
  refine (rnum_ok R G zs 29 4 _ S10.out.rd hbt (by omega) (by omega)).mono ?_
  rw [← HF.out]
  rintro en w11 ⟨rfl, hr11, hg11⟩
  have S11 := hid_intro (S10.out.call hr11 hg11)
  clear S10 hr11 hg11 c0 c1 c2 c3 c4 c5 c6
  obtain ⟨c0, c1, c2, c3, c4, c5, c6⟩ := S11.out.t.cells
  have f5 := S11.out.t.frozen 5
  go_upto_region 12 with fail
  have S12 := hid_intro (S11.out.put 5 (.int .i64 (f : Int)) (S11.out.t.set5 (f : Int)))
  clear S11 c0 c1 c2 c3 c4 c5 c6 f5
  generalize w11.setCell ⟨T, 5, none⟩ (.int .i64 (f : Int)) = w12 at *
  obtain ⟨c0, c1, c2, c3, c4, c5, c6⟩ := S12.out.t.cells
  go_wp2_with fail
  refine (rnum_ok R G zs 33 4 _ S12.out.rd hbt (by omega) (by omega)).mono ?_
  rw [← HN.out]
  rintro en w13 ⟨rfl, hr13, hg13⟩
  have S13 := hid_intro (S12.out.call hr13 hg13)
  clear S12 hr13 hg13 c0 c1 c2 c3 c4 c5 c6
  obtain ⟨c0, c1, c2, c3, c4, c5, c6⟩ := S13.out.t.cells
  have f6 := S13.out.t.frozen 6
  go_upto_region 13 with fail
  have S14 := hid_intro (S13.out.put 6 (.int .i64 (n : Int)) (S13.out.t.set6 (n : Int)))
  clear S13 c0 c1 c2 c3 c4 c5 c6 f6
  generalize w13.setCell ⟨T, 6, none⟩ (.int .i64 (n : Int)) = w14 at *
  obtain ⟨c0, c1, c2, c3, c4, c5, c6⟩ := S14.out.t.cells
  cases hm : may (qH zs) with
  | false =>
    have hm2 := hm
    rw [E.out] at hm2
    have HD : Hid (dM zs = false) := by
      cases hh : dM zs with
      | false => rfl
      | true =>
        have h1 := (dM_parts hh).2.1
        rw [← may_qH hbt, hm] at h1
        exact absurd h1 (by decide)
    have HM := hid_intro hm2
    clear hm hm2
    go_wp2_with fail
    refine (refEncode_no (cm v) c r t (cm k) f n _ HM.out).mono ?_
    rintro en w15 ⟨rfl, hg15⟩
    have U15 := hid_intro (S14.out.u.keptN hg15)
    have G15 := hid_intro (grown_trans S14.out.gr hg15)
    have B15 := hid_intro (HB.out.keptN G15.out)
    clear c0 c1 c2 c3 c4 c5 c6 S14 hg15
    go_wp2_with fail
    refine (same_no none ao 0 4092 0 cap [] zs _ (Byt.empty _) B15.out Bt.nil hbt (by intro e; rw [← e] at hl; cases hl)).mono ?_
    rintro en w15 ⟨rfl, rfl⟩
    go_wp2_with (refine wpList_store_head rfl _ _ rfl w.heap.size 0 0 0 0 0 0 0 0 0 0 0 0 0 0 rfl rfl U15.out ?_)
    intro w16 hx16 hg16 hs16
    have G16 := hid_intro (grown_new G15.out hg16 (Nat.le_refl _))
    clear hg16 hs16
    go_wp2
    refine bodyPost_ret (ret_head_tmp rfl _ _ w.heap.size 0 0 0 0 0 0 0 rfl hx16) rfl ?_
    rw [(a_no HD.out).1, (a_no HD.out).2]
    exact ⟨rfl, G16.out⟩
  | true =>
    have hm2 := hm
    rw [may_qH hbt] at hm2
    have HQ : Hid (qH zs = rH zs) := qH_rH hbt hm2
    have hm3 := hm
    rw [E.out] at hm3
    have b := may_bounds hm3
    simp only at b
    obtain ⟨v', hv'⟩ : ∃ v' : Nat, cm v = (v' : Int) := ⟨(cm v).toNat, by omega⟩
    obtain ⟨k', hk'⟩ : ∃ k' : Nat, cm k = (k' : Int) := ⟨(cm k).toNat, by omega⟩
    generalize cm v = xv at *
    generalize cm k = xk at *
    subst hv' hk'
    have HM := hid_intro hm3
    have HM2 := hid_intro hm2
    clear hm hm2 hm3 b
    go_wp2_with fail
    refine (refEncode_yes v' c r t k' f n _ HM.out).mono ?_
    rintro en w15 ⟨a15, q15, rfl, hb15, hg15⟩
    have U15 := hid_intro (S14.out.u.keptN hg15)
    have T15 := hid_intro (S14.out.t.keptN hg15)
    have G15 := hid_intro (grown_trans S14.out.gr hg15)
    have B15 := hid_intro (HB.out.keptN G15.out)
    have C15 := hid_intro hb15
    clear c0 c1 c2 c3 c4 c5 c6 S14 hg15 hb15
    by_cases hq : mB ⟨v', c, r, t, k', f, n⟩ = zs
    · have HD : Hid (dM zs = true) := by
        show _ = _
        rw [← E.out, HQ.out] at hq
        simp [dM, hl, HM2.out, hq]
      have HQQ := hid_intro hq
      clear hq
      go_wp2_with fail
      refine (same_yes a15 ao 4092 4092 q15 cap _ _ _ C15.out B15.out HQQ.out).mono ?_
      rintro en w15 ⟨rfl, rfl⟩
      obtain ⟨c0, c1, c2, c3, c4, c5, c6⟩ := T15.out.cells
      go_wp2_with (refine wpList_store_head rfl _ _ rfl w.heap.size v' c r t k' f n 0 0 0 0 0 0 0 rfl rfl U15.out ?_)
      intro w16 hx16 hg16 hs16
      have G16 := hid_intro (grown_new G15.out hg16 (Nat.le_refl _))
      clear hg16 hs16 c0 c1 c2 c3 c4 c5 c6
      go_wp2
      refine bodyPost_ret (ret_head_tmp rfl _ _ w.heap.size v' c r t k' f n rfl hx16) rfl ?_
      rw [(a_yes HD.out).1, (a_yes HD.out).2, ← HQ.out, E.out]
      exact ⟨rfl, G16.out⟩
    · have HD : Hid (dM zs = false) := by
        cases hh : dM zs with
        | false => rfl
        | true => exact absurd (by rw [← E.out, HQ.out]; exact (dM_parts hh).2.2) hq
      have HQQ := hid_intro hq
      clear hq
      go_wp2_with fail
      refine (same_no a15 ao 4092 4092 q15 cap _ _ _ C15.out B15.out (mB_bt _) hbt HQQ.out).mono ?_
      rintro en w15 ⟨rfl, rfl⟩
      go_wp2_with (refine wpList_store_head rfl _ _ rfl w.heap.size 0 0 0 0 0 0 0 0 0 0 0 0 0 0 rfl rfl U15.out ?_)
      intro w16 hx16 hg16 hs16
      have G16 := hid_intro (grown_new G15.out hg16 (Nat.le_refl _))
      clear hg16 hs16
      go_wp2
      refine bodyPost_ret (ret_head_tmp rfl _ _ w.heap.size 0 0 0 0 0 0 0 rfl hx16) rfl ?_
      rw [(a_no HD.out).1, (a_no HD.out).2]
      exact ⟨rfl, G16.out⟩
end Go.Proofs.YtjbigfnggelceaaDoor
