import Derived.Test.YtoecgpckkodmcabGreatQ20
import Derived.Test.YtoecgpckkodmcabGreatQ36
namespace Go.Proofs.YtoecgpckkodmcabGreat
open Go.RowKit
theorem keep2 {W : World} {G b i : Nat} {u v x : Value} (h : W.cell? ⟨b, i, none⟩ = some x) (hne : b ≠ G) : ((W.setCell ⟨G, 0, none⟩ u).setCell ⟨G, 1, none⟩ v).cell? ⟨b, i, none⟩ = some x := by
 rw [← h]
 refine World.cell?_of_block ?_
 rw [heap_setCell_other _ ⟨G, 1, none⟩ b v (fun e => hne e), heap_setCell_other _ ⟨G, 0, none⟩ b u (fun e => hne e)]
theorem node_at {n : Nat} {W : World} {p : Nat} {a : Option Addr} {m c : Nat} {sa : Option Addr} {sm sc : Nat} {r : RwT (NdT n)} {no : Int} (h : W.heap[p]? = some (.cells #[.int .i64 no, .slice a m c, .slice sa sm sc] 116 (0, 0))) (hr : RowT n W a m c sa sm sc r) : NodeT (n + 1) W (.iface 114 (.pointer (some ⟨p, 0, none⟩))) (⟨no, r⟩ : BnT (NdT n)) := ⟨_, a, m, c, sa, sm, sc, rfl, h, hr.ns, hr.ss⟩
set_option maxHeartbeats 16000000 in
set_option maxRecDepth 100000 in
theorem settledBranch_any {n : Nat} (r : RwT (NdT n)) (hok : RokT n r) (hc : 4092 < bsize r.ss → 2 ≤ cutB r.ss ∧ cutB r.ss < r.ss.length) (a : Option Addr) (m c : Nat) (sa : Option Addr) (sm sc : Nat) (w : World) (hr : RowT n w a m c sa sm sc r) (hm : m ≤ 5000) :
  Calls Tryz.prog 129 #[.agg #[.slice a m c, .slice sa sm sc]] w fun en w' => (∃ a m c sa sm sc, en = .returned (.agg #[.slice a m c, .slice sa sm sc]) ∧ RowT (n + 1) w' a m c sa sm sc (settleB r)) ∧ w.grownBy w' none := by
 have ln := hr.ns.len
 have ls := hr.ss.len
 have hsl := hok.sep.len
 have caps := hr.ss.cap
 have capn := hr.ns.cap
 have G1 := hid_intro (grown_al (grown_al (World.grownBy.refl w none) (.cells #[.slice a m c, .slice sa sm sc] 69)) (.cells #[.slice none 0 0, .slice none 0 0] 69))
 have X1 : Hid (((w.alloc (.cells #[.slice a m c, .slice sa sm sc] 69)).alloc (.cells #[.slice none 0 0, .slice none 0 0] 69)).heap[w.heap.size]? = some (.cells #[.slice a m c, .slice sa sm sc] 69 (0, 0))) := heap_old (heap_at0 w _ _)
 have B1 : Hid (BxT ((w.alloc (.cells #[.slice a m c, .slice sa sm sc] 69)).alloc (.cells #[.slice none 0 0, .slice none 0 0] 69)) (w.heap.size + 1)) := ⟨_, _, heap_at1 w _ _ _⟩
 have R1 := hid_intro (hr.kept (FrT.of G1.out))
 have e0 := cell_heap (i := 0) X1.out rfl
 have e1 := cell_heap (i := 1) X1.out rfl
 have KK : Hid (∀ x ∈ r.ss, x.length ≤ 140737488351232) := fun x hx => by
  have := (hok.vs x hx).k2
  omega
 have HZ := hid_intro (fun (W : World) (h : RowT n W a m c sa sm sc r) => bsize_any sa sm sc r.ss W h.ss.lz ls (by omega) caps.1 caps.2.1 KK.out)
 by_cases h0 : m = 0
 ·have es : settleB r = ⟨[], []⟩ := by unfold settleB; rw [if_pos (by omega)]
  rw [es]
  subst h0
  obtain ⟨⟨x, cx⟩, ⟨y, cy⟩, z1, z2⟩ := B1.out.cells
  clear hr HZ hc
  go_enter Tryz.func129, Tryz.ntmps129
  go_wp2
  exact bodyPost_ret (results_row rfl _ _ (w.heap.size + 1) (.slice none 0 0) (.slice none 0 0) rfl (heap_at1 w _ _ _)) rfl ⟨⟨_, _, _, _, _, _, rfl, ⟨SlT.nil _ _ _ _, SlT.nil _ _ _ _⟩⟩, G1.out⟩
 ·have n0 : ¬ ((m : Int) = 0) := by omega
  by_cases hf : bsize r.ss ≤ 4092
  ·have es : settleB r = ⟨[⟨0, r⟩], []⟩ := by unfold settleB; rw [if_neg (by omega), if_pos hf]
   rw [es]
   clear hr hc
   go_enter Tryz.func129, Tryz.ntmps129
   go_wp2_with fail
   generalize (w.alloc (.cells #[.slice a m c, .slice sa sm sc] 69)).alloc (.cells #[.slice none 0 0, .slice none 0 0] 69) = w1 at *
   refine (HZ.out w1 R1.out).mono ?_
   rintro en w3 ⟨rfl, hg3⟩
   have G3 := hid_intro hg3
   have d0 := hg3.cell e0 (by simp)
   have d1 := hg3.cell e1 (by simp)
   have hlt := cell_lt d0
   clear hg3 e0 e1
   go_wp2_with fail
   refine (cfits_any _ w3).mono ?_
   rintro en w4 ⟨rfl, rfl⟩
   rw [decide_eq_true hf]
   have NL := hid_intro (node_branch 0 (R1.out.kept (FrT.of G3.out)))
   have GL := hid_intro (World.grownBy_alloc w4 (.cells #[.int .i64 0, .slice a m c, .slice sa sm sc] 116) none)
   go_wp2_with fail
   refine (alone_row (n := n + 1) NL.out (World.grownBy.refl _ _)).mono ?_
   rintro en w5 ⟨⟨a5, m5, c5, sa5, sm5, sc5, rfl, hr5⟩, hg5⟩
   have G5 := hid_intro (grown_trans G3.out (grown_trans GL.out hg5))
   have B5 := B1.out.keptN G5.out
   obtain ⟨⟨x, cx⟩, ⟨y, cy⟩, z1, z2⟩ := B5.cells
   have HB := hid_intro B5
   have HR := hid_intro hr5
   clear B5 hr5 hg5
   go_wp2
   refine ret_rowG (p := 2) rfl HB.out (by omega) HR.out (grown_trans G1.out G5.out) ?_ ?_ <;> rfl
  ·obtain ⟨hc1, hc2⟩ := hc (by omega)
   have es : settleB r = ⟨[⟨0, ⟨r.ns.take (cutB r.ss), r.ss.take (cutB r.ss - 1)⟩⟩, ⟨0, ⟨r.ns.drop (cutB r.ss), r.ss.drop (cutB r.ss)⟩⟩], [r.ss.getD (cutB r.ss - 1) []]⟩ := by unfold settleB; rw [if_neg (by omega), if_neg hf]
   rw [es]
   have HC := hid_intro (fun (W : World) (h : RowT n W a m c sa sm sc r) => cutBranch_any sa sm sc r.ss W h.ss.lz ls (by omega) caps.1 caps.2.1 KK.out)
   have hbest := cutB_best r.ss
   rw [ls] at hbest
   have HU := hid_intro (fun (k : Nat) (h : Best (fun i => bsize (r.ss.take (i - 1))) (fun i => bsize (r.ss.drop i)) sm k) => h.uniq hbest)
   generalize cutB r.ss = k at *
   have hsk : r.ss[k - 1]? = some (r.ss.getD (k - 1) []) := by
    rw [List.getElem?_eq_getElem (by omega)]
    simp [List.getD, List.getElem?_eq_getElem (show k - 1 < r.ss.length by omega)]
   generalize r.ss.getD (k - 1) [] = s at *
   obtain ⟨b, off, rfl⟩ : ∃ b off, a = some ⟨b, off, none⟩ := by
    obtain ⟨es, h1, _⟩ := hr.ns.ex
    exact h1.where (by omega)
   obtain ⟨sg, soff, so, sn, sc', rfl, c3w, hsw⟩ := hr.ss.str hsk
   have hsg := cell_lt c3w
   have CW := hid_intro (grown_trans (World.grownBy.refl w none) G1.out)
   have hs1 : Hid (((w.alloc (.cells #[.slice (some ⟨b, off, none⟩) m c, .slice (some ⟨sg, soff, none⟩) sm sc] 69)).alloc (.cells #[.slice none 0 0, .slice none 0 0] 69)).heap.size = w.heap.size + 1 + 1) := by simp [Hid]
   clear hbest es hc
   go_enter Tryz.func129, Tryz.ntmps129
   go_wp2_with fail
   generalize (w.alloc (.cells #[.slice (some ⟨b, off, none⟩) m c, .slice (some ⟨sg, soff, none⟩) sm sc] 69)).alloc (.cells #[.slice none 0 0, .slice none 0 0] 69) = w1 at *
   refine (HZ.out w1 R1.out).mono ?_
   rintro en w3 ⟨rfl, hg3⟩
   have G3 := hid_intro hg3
   have d0 := hg3.cell e0 (by simp)
   have d1 := hg3.cell e1 (by simp)
   clear hg3 e0 e1
   go_wp2_with fail
   refine (cfits_any _ w3).mono ?_
   rintro en w4 ⟨rfl, rfl⟩
   rw [decide_eq_false hf]
   go_wp2_with fail
   refine (HC.out w4 (R1.out.kept (FrT.of G3.out))).mono ?_
   rintro en w5 ⟨⟨k9, rfl, hb9⟩, hg5⟩
   have hk9 := HU.out k9 hb9
   subst hk9
   have G5 := hid_intro (grown_trans G3.out hg5)
   have c0 := hg5.cell d0 (by simp)
   have c1 := hg5.cell d1 (by simp)
   have R5 := R1.out.kept (FrT.of G5.out)
   have c3 := (grown_trans CW.out G5.out).cell c3w (by simp)
   have hs := hsw.kept (FrT.of (grown_trans CW.out G5.out))
   have RT := hid_intro R5
   have SS := hid_intro hs
   obtain ⟨j, hj⟩ : ∃ j, k9 - 1 = j := ⟨_, rfl⟩
   rw [hj] at c3
   have v1 : ((k9 : Nat) : Int) - 1 = (j : Int) := by omega
   have v2 : IntKind.i64.wrap (j : Int) = (j : Int) := by rw [IntKind.wrap_i64]; omega
   have v3 : (0 : Int) ≤ (j : Int) ∧ (j : Int) < (sm : Int) := by omega
   have v4 : (0 : Int) ≤ (k9 : Int) := by omega
   have v5 : (k9 : Int) ≤ (m : Int) := by omega
   have v6 : (k9 : Int) ≤ (c : Int) := by omega
   have v7 : (k9 : Int) ≤ (sm : Int) := by omega
   have v8 : (k9 : Int) ≤ (sc : Int) := by omega
   have v9 : (j : Int) ≤ (sc : Int) := by omega
   have va : ¬ c = k9 := by omega
   have vb : ¬ sc = k9 := by omega
   have vc : (0 : Int) ≤ (j : Int) := by omega
   have hs5 := hid_intro G5.out.size
   clear hb9 hg5 HU HZ HC d0 d1 hsk R5 hs hr hsw c3w
   go_upto_region 6 with fail
   go_cut [4] from 25 to 35 (fun s4 wx => s4 = .pointer (some ⟨w5.heap.size, 0, none⟩) ∧ wx = (w5.alloc (.cells #[.slice (some ⟨b, off, none⟩) k9 c, .slice (some ⟨sg, soff, none⟩) j sc] 69)).drew)
   case first =>
    go_region_held3 (fun w' => w'.cell? ⟨w.heap.size, 0, none⟩ = some (.slice (some ⟨b, off, none⟩) m c) ∧ w'.cell? ⟨w.heap.size, 1, none⟩ = some (.slice (some ⟨sg, soff, none⟩) sm sc)) (first | exact ⟨c0, c1⟩ | go_keep) (fail)
    all_goals (go_wp2_with fail; go_meet; exact ⟨rfl, rfl⟩)
   case rest =>
    obtain ⟨rfl, rfl⟩ := hcut
    have hs6 : Hid ((w5.alloc (.cells #[.slice (some ⟨b, off, none⟩) k9 c, .slice (some ⟨sg, soff, none⟩) j sc] 69)).drew.heap.size = w5.heap.size + 1) := by simp [Hid]
    have GA := hid_intro (grown_dw (grown_al (World.grownBy.refl w5 none) (.cells #[.slice (some ⟨b, off, none⟩) k9 c, .slice (some ⟨sg, soff, none⟩) j sc] 69)))
    have HA : Hid ((w5.alloc (.cells #[.slice (some ⟨b, off, none⟩) k9 c, .slice (some ⟨sg, soff, none⟩) j sc] 69)).drew.heap[w5.heap.size]? = some (.cells #[.slice (some ⟨b, off, none⟩) k9 c, .slice (some ⟨sg, soff, none⟩) j sc] 69 (0, 0))) := heap_dw (heap_at0 w5 _ _)
    have c0a := GA.out.cell c0 (by simp)
    have c1a := GA.out.cell c1 (by simp)
    have c3a := GA.out.cell c3 (by simp)
    generalize (w5.alloc (.cells #[.slice (some ⟨b, off, none⟩) k9 c, .slice (some ⟨sg, soff, none⟩) j sc] 69)).drew = w6 at *
    go_upto_region 7 with fail
    go_cut [5] from 35 to 44 (fun s5 wx => s5 = .pointer (some ⟨w6.heap.size, 0, none⟩) ∧ wx = (w6.alloc (.cells #[.slice (some ⟨b, off + k9, none⟩) (m - k9) (c - k9), .slice (some ⟨sg, soff + k9, none⟩) (sm - k9) (sc - k9)] 69)).drew)
    case first =>
     go_region_held3 (fun w' => w'.cell? ⟨w.heap.size, 0, none⟩ = some (.slice (some ⟨b, off, none⟩) m c) ∧ w'.cell? ⟨w.heap.size, 1, none⟩ = some (.slice (some ⟨sg, soff, none⟩) sm sc)) (first | exact ⟨c0a, c1a⟩ | go_keep) (fail)
     all_goals (go_wp2_with fail; go_meet; exact ⟨rfl, rfl⟩)
    case rest =>
     obtain ⟨rfl, rfl⟩ := hcut
     have GB := hid_intro (grown_dw (grown_al (World.grownBy.refl w6 none) (.cells #[.slice (some ⟨b, off + k9, none⟩) (m - k9) (c - k9), .slice (some ⟨sg, soff + k9, none⟩) (sm - k9) (sc - k9)] 69)))
     have HB2 := heap_dw (heap_at0 w6 #[.slice (some ⟨b, off + k9, none⟩) (m - k9) (c - k9), .slice (some ⟨sg, soff + k9, none⟩) (sm - k9) (sc - k9)] 69)
     have f0 := cell_heap (i := 0) (heap_kept HA.out GB.out) rfl
     have f1 := cell_heap (i := 1) (heap_kept HA.out GB.out) rfl
     have f2 := cell_heap (i := 0) HB2 rfl
     have f3 := cell_heap (i := 1) HB2 rfl
     have f4 := GB.out.cell c1a (by simp)
     have f5 := GB.out.cell c3a (by simp)
     have G7 := hid_intro (grown_trans GA.out GB.out)
     have TT := hid_intro (And.intro f0 (And.intro f1 (And.intro f2 (And.intro f3 (And.intro f4 f5)))))
     generalize (w6.alloc (.cells #[.slice (some ⟨b, off + k9, none⟩) (m - k9) (c - k9), .slice (some ⟨sg, soff + k9, none⟩) (sm - k9) (sc - k9)] 69)).drew = w7 at *
     have L1 : Hid (RowT n w7 (some ⟨b, off, none⟩) k9 c (some ⟨sg, soff, none⟩) j sc ⟨r.ns.take k9, r.ss.take (k9 - 1)⟩) := by
      have h := RT.out.kept (FrT.of G7.out)
      rw [← hj]
      exact ⟨SlT.take h.ns (by omega), SlT.take h.ss (by omega)⟩
     have L2 : Hid (RowT n w7 (some ⟨b, off + k9, none⟩) (m - k9) (c - k9) (some ⟨sg, soff + k9, none⟩) (sm - k9) (sc - k9) ⟨r.ns.drop k9, r.ss.drop k9⟩) := by
      have h := RT.out.kept (FrT.of G7.out)
      have h1 := SlT.drop h.ns (i := k9) (by omega)
      have h2 := SlT.drop h.ss (i := k9) (by omega)
      rw [Nat.mul_one] at h1 h2
      exact ⟨h1, h2⟩
     have BO : Hid (∀ (W : World) (p q : Nat), w7.grownBy W none → W.heap[p]? = some (.cells #[.int .i64 0, .slice (some ⟨b, off, none⟩) k9 c, .slice (some ⟨sg, soff, none⟩) j sc] 116 (0, 0)) → W.heap[q]? = some (.cells #[.int .i64 0, .slice (some ⟨b, off + k9, none⟩) (m - k9) (c - k9), .slice (some ⟨sg, soff + k9, none⟩) (sm - k9) (sc - k9)] 116 (0, 0)) → Calls Tryz.prog 72 #[.iface 114 (.pointer (some ⟨p, 0, none⟩)), .slice so sn sc', .iface 114 (.pointer (some ⟨q, 0, none⟩))] W fun en w' => (∃ a m c sa sm sc, en = .returned (.agg #[.slice a m c, .slice sa sm sc]) ∧ RowT (n + 1) w' a m c sa sm sc ⟨[(⟨0, ⟨r.ns.take k9, r.ss.take (k9 - 1)⟩⟩ : BnT (NdT n)), (⟨0, ⟨r.ns.drop k9, r.ss.drop k9⟩⟩ : BnT (NdT n))], [s]⟩) ∧ W.grownBy w' none) := fun W p q hg hp hq =>
      both_row (n := n + 1) (node_at hp (L1.out.kept (FrT.of hg))) (node_at hq (L2.out.kept (FrT.of hg))) ⟨_, _, _, rfl, SS.out.kept (FrT.of (grown_trans G7.out hg))⟩ (World.grownBy.refl _ _)
     clear c0 c1 c3 c0a c1a c3a f0 f1 f2 f3 f4 f5 HB2 L1 L2 RT SS hj HA GA GB
     go_upto_region 8 with fail
     go_region_held3 (fun w' => w'.cell? ⟨w5.heap.size, 0, none⟩ = some (.slice (some ⟨b, off, none⟩) k9 c) ∧ w'.cell? ⟨w5.heap.size, 1, none⟩ = some (.slice (some ⟨sg, soff, none⟩) j sc) ∧ w'.cell? ⟨w6.heap.size, 0, none⟩ = some (.slice (some ⟨b, off + k9, none⟩) (m - k9) (c - k9)) ∧ w'.cell? ⟨w6.heap.size, 1, none⟩ = some (.slice (some ⟨sg, soff + k9, none⟩) (sm - k9) (sc - k9)) ∧ w'.cell? ⟨w.heap.size, 1, none⟩ = some (.slice (some ⟨sg, soff, none⟩) sm sc) ∧ w'.cell? ⟨sg, soff + j, none⟩ = some (.slice so sn sc')) (first | (with_reducible exact T9) | ((with_reducible refine And.intro (keep1 TT.out.1 ?_) (And.intro (keep1 TT.out.2.1 ?_) (And.intro (keep1 TT.out.2.2.1 ?_) (And.intro (keep1 TT.out.2.2.2.1 ?_) (And.intro (keep1 TT.out.2.2.2.2.1 ?_) (keep1 TT.out.2.2.2.2.2 ?_)))))) <;> (repeat' first | (with_reducible exact World.grownBy.refl _ _) | (with_reducible exact H9) | (with_reducible apply grown_dw) | (with_reducible apply grown_al)); done) | (refine And.intro (keep2 T9.1 ?_) (And.intro (keep2 T9.2.1 ?_) (And.intro (keep2 T9.2.2.1 ?_) (And.intro (keep2 T9.2.2.2.1 ?_) (And.intro (keep2 T9.2.2.2.2.1 ?_) (keep2 T9.2.2.2.2.2 ?_))))) <;> (have q1 := hs1.out; have q5 := hs5.out; have q6 := hs6.out; omega)) | go_keep) (first
      | (go_at_call 72; (with_reducible refine (BO.out _ _ _ ?_ ?_ ?_).mono ?_); (· (repeat' first | (with_reducible exact World.grownBy.refl _ _) | (with_reducible apply grown_dw) | (with_reducible apply grown_al))); (· (repeat' first | (with_reducible exact heap_at0 _ _ _) | (with_reducible exact heap_at1 _ _ _ _) | (with_reducible apply heap_dw) | (with_reducible apply heap_old))); (· (repeat' first | (with_reducible exact heap_at0 _ _ _) | (with_reducible exact heap_at1 _ _ _ _) | (with_reducible apply heap_dw) | (with_reducible apply heap_old))); rintro en w9 ⟨⟨a9, m9, c9, sa9, sm9, sc9, rfl, RR⟩, hg9⟩; have H9 : w7.grownBy w9 none := grown_trans (by (repeat' first | (with_reducible exact World.grownBy.refl _ _) | (with_reducible apply grown_dw) | (with_reducible apply grown_al))) hg9; have T9 := And.intro (H9.cell TT.out.1 (by simp)) (And.intro (H9.cell TT.out.2.1 (by simp)) (And.intro (H9.cell TT.out.2.2.1 (by simp)) (And.intro (H9.cell TT.out.2.2.2.1 (by simp)) (And.intro (H9.cell TT.out.2.2.2.2.1 (by simp)) (H9.cell TT.out.2.2.2.2.2 (by simp)))))); have B9 := B1.out.keptN (grown_trans G5.out (grown_trans G7.out H9)); obtain ⟨⟨x1, cx⟩, ⟨y1, cy⟩, z1, z2⟩ := B9.cells))
     all_goals go_wp2
     all_goals (refine ret_rowG (p := 2) rfl B9 (by omega) RR (grown_trans G1.out (grown_trans G5.out (grown_trans G7.out H9))) ?_ ?_ <;> rfl)
def TidyD (n : Nat) : Prop := ∀ (r : RwT (NdT n)) (fr tq : Int) (i0 cnt : Nat), (if (0 : Int) > fr then (0 : Int) else fr) = (i0 : Int) → cnt = (tq + 1 - (i0 : Int)).toNat → (-100000 ≤ tq ∧ tq ≤ 100000) → (-100000 ≤ fr ∧ fr ≤ 100000) → RokT n r → ∀ (a : Option Addr) (m c : Nat) (sa : Option Addr) (sm sc : Nat) (w : World), RowT n w a m c sa sm sc r → m ≤ 5000 →
  Calls Tryz.prog 131 #[.agg #[.slice a m c, .slice sa sm sc], .int .i64 fr, .int .i64 tq] w fun en w' => (∃ a m c sa sm sc, en = .returned (.agg #[.slice a m c, .slice sa sm sc]) ∧ RowT n w' a m c sa sm sc (tidyT (joinsT n) (joinedT n) cnt r i0)) ∧ w.grownBy w' none
def ReplD (n : Nat) : Prop := ∀ (r b : RwT (NdT n)) (i : Nat), r.ns.length = r.ss.length + 1 → i < r.ns.length → ∀ (a : Option Addr) (m c : Nat) (sa : Option Addr) (sm sc : Nat) (ba : Option Addr) (bm bc : Nat) (bsa : Option Addr) (bsm bsc : Nat) (w : World), RowT n w a m c sa sm sc r → RowT n w ba bm bc bsa bsm bsc b → m ≤ 5000 → sm ≤ 5000 → bm ≤ 5000 → bsm ≤ 5000 →
  Calls Tryz.prog 130 #[.agg #[.slice a m c, .slice sa sm sc], .int .i64 i, .agg #[.slice ba bm bc, .slice bsa bsm bsc]] w fun en w' => (∃ a m c sa sm sc, en = .returned (.agg #[.slice a m c, .slice sa sm sc]) ∧ RowT n w' a m c sa sm sc (replT r i b)) ∧ w.grownBy w' none
theorem ret_rowC {fn : Func} {p : Tmp} {n : Nat} {r : RwT (NdT n)} {w w5 : World} {G : Nat} {a : Option Addr} {m c : Nat} {sa : Option Addr} {sm sc : Nat} (h : fn.results = #[.cell p 69]) (hb : BxT w5 G) (hG : w.heap.size ≤ G) (hr : RowT n w5 a m c sa sm sc r) (hg : w.grownBy w5 none) {ac : Act} (hp : ac.tmps.getD p undef = .pointer (some ⟨G, 0, none⟩)) (hd : ac.defers = []) :
  bodyPost Tryz.prog fn (fun en w' => ChT n (some r) en w' ∧ w.grownBy w' none) Exit.ret ac ((w5.setCell ⟨G, 0, none⟩ (.slice a m c)).setCell ⟨G, 1, none⟩ (.slice sa sm sc)) := ret_rowG h hb hG hr hg hp hd
def fChanged : Nat → Nat
 | 0 => 53
 | _ + 1 => 118
def ChangedC (n : Nat) : Prop := ∀ (b : Nat) (x : NdT n) (ka : Option Addr) (kn kc : Nat) (key : List Int) (na : Option Addr) (nn nc : Nat) (now : List PrT) (w : World), NodeT n w (.iface (tyN n) (.pointer (some ⟨b, 0, none⟩))) x → OkT n x → Byt w ka kn kc key → Bt key → PsT w na nn nc now → NowT key now →
 Calls Tryz.prog (fChanged n) #[.pointer (some ⟨b, 0, none⟩), .slice ka kn kc, .slice na nn nc] w fun en w' => ChT n (changedT n x key now) en w' ∧ w.grownBy w' none
theorem changedC0 : ChangedC 0 := fun b x ka kn kc key na nn nc now w hx ox hk bt hn hv => lchanged_some b x ka kn kc key na nn nc now w hx (LokT.of ox) hk bt hn hv ox.1
theorem branch_next {n : Nat} {x : NdT (n + 1)} {key : List Int} {now : List PrT} {k : NdT n} {q : RwT (NdT n)} (ox : OkT (n + 1) x) (hn : NowT key now) (hk : AtT (flatT n) (BnT.row (T := NdT n) x) key k) (hq : changedT n k key now = some q) :
  changedT (n + 1) x key now = some (settleB (tidyT (joinsT n) (joinedT n) (placeT (BnT.row (T := NdT n) x).ss key + q.ns.length - (placeT (BnT.row (T := NdT n) x).ss key - 1)) (replT (BnT.row (T := NdT n) x) (placeT (BnT.row (T := NdT n) x).ss key) q) (placeT (BnT.row (T := NdT n) x).ss key - 1))) ∧
  RokT n (replT (BnT.row (T := NdT n) x) (placeT (BnT.row (T := NdT n) x).ss key) q) ∧ q.ns.length ≤ 2 ∧ q.ss.length ≤ 1 ∧ (replT (BnT.row (T := NdT n) x) (placeT (BnT.row (T := NdT n) x).ss key) q).ns.length ≤ (BnT.row (T := NdT n) x).ns.length + 1 ∧
  ∀ t, t = tidyT (joinsT n) (joinedT n) (placeT (BnT.row (T := NdT n) x).ss key + q.ns.length - (placeT (BnT.row (T := NdT n) x).ss key - 1)) (replT (BnT.row (T := NdT n) x) (placeT (BnT.row (T := NdT n) x).ss key) q) (placeT (BnT.row (T := NdT n) x).ss key - 1) → RokT n t ∧ t.ns.length ≤ (BnT.row (T := NdT n) x).ns.length + 1 ∧ (4092 < bsize t.ss → 2 ≤ cutB t.ss ∧ cutB t.ss < t.ss.length) := by
 obtain ⟨x1, x2, x3, x4, x5⟩ := ox
 have hok := x2 k (List.mem_of_getElem? hk.at_)
 obtain ⟨b1, b2, b3⟩ := changed_all n k key now q hok hn hq
 have hin : ∀ p ∈ q.ns.flatMap (flatT n), p.key = key ∨ p ∈ flatT n k := by
  intro p hp
  rw [b1] at hp
  rcases upd_mem hp with h | h
  ·exact .inl (hn.key p h)
  ·exact .inr h
 have hrr : RokT n (BnT.row (T := NdT n) x) := ⟨x2, x3, x5⟩
 have hR := rok_repl hrr hk b2 hin
 have hsl := b2.sep.len
 have hlt := hk.lt
 have hlen : (replT (BnT.row (T := NdT n) x) (placeT (BnT.row (T := NdT n) x).ss key) q).ns.length ≤ (BnT.row (T := NdT n) x).ns.length + 1 := by
  unfold replT
  split <;> simp only [List.length_append, List.length_take, List.length_drop] <;> omega
 refine ⟨?_, hR, b3, by omega, hlen, fun t ht => ?_⟩
 ·rw [changedT, hk.at_]
  simp only [hq, Option.map_some]
 ·have hT := ok_tidy (ok_joined n) (placeT (BnT.row (T := NdT n) x).ss key + q.ns.length - (placeT (BnT.row (T := NdT n) x).ss key - 1)) _ (placeT (BnT.row (T := NdT n) x).ss key - 1) hR
  have hsub := sub_tidy (J := joinsT n) (D := joinedT n) (placeT (BnT.row (T := NdT n) x).ss key + q.ns.length - (placeT (BnT.row (T := NdT n) x).ss key - 1)) (replT (BnT.row (T := NdT n) x) (placeT (BnT.row (T := NdT n) x).ss key) q) (placeT (BnT.row (T := NdT n) x).ss key - 1)
  rw [← ht] at hT hsub
  have hss : (replT (BnT.row (T := NdT n) x) (placeT (BnT.row (T := NdT n) x).ss key) q).ss.Sublist (BnT.row (T := NdT n) x).ss ∨ ∃ A s B, (replT (BnT.row (T := NdT n) x) (placeT (BnT.row (T := NdT n) x).ss key) q).ss = A ++ ([s] ++ B) ∧ A ++ B = (BnT.row (T := NdT n) x).ss := by
   unfold replT
   split
   ·rename_i h0
    have e0 : q.ss = [] := List.length_eq_zero_iff.1 (by omega)
    refine .inl ?_
    show (_ ++ (q.ss ++ _)).Sublist _
    rw [e0, List.nil_append]
    conv => rhs; rw [← List.take_append_drop (placeT (BnT.row (T := NdT n) x).ss key - 1) (BnT.row (T := NdT n) x).ss]
    refine List.Sublist.append (List.Sublist.refl _) (List.drop_sublist_drop_left _ ?_)
    have := tw_le (BnT.row (T := NdT n) x).ss key
    omega
   ·rename_i h0
    show (_ ++ (q.ss ++ _)).Sublist _ ∨ _
    match hbs : q.ss, hsl with
    | [], _ =>
     refine .inl ?_
     rw [List.nil_append, List.take_append_drop]
     exact List.Sublist.refl _
    | [s], _ => exact .inr ⟨_, s, _, rfl, List.take_append_drop _ _⟩
    | _ :: _ :: _, h =>
     simp only [List.length_cons] at h
     omega
  have htl := hT.sep.len
  have hrl := hR.sep.len
  have hsb := hsub.length_le
  refine ⟨hT, by omega, fun hbig => ?_⟩
  rcases hss with h | ⟨A, s, B, e1, e2⟩
  ·have := bsize_le10 (hsub.trans h)
   omega
  ·have := bcut10 (by rw [e1] at hsub; exact hsub) (fun y hy => (hT.vs y hy).k2) (by rw [e2]; exact x4) hbig
   exact ⟨this.1, this.2.1⟩
theorem branch_stop {n : Nat} {x : NdT (n + 1)} {key : List Int} {now : List PrT} {k : NdT n} (hk : AtT (flatT n) (BnT.row (T := NdT n) x) key k) (hq : changedT n k key now = none) : changedT (n + 1) x key now = none := by
 rw [changedT, hk.at_]
 simp only [hq, Option.map_none]
set_option maxHeartbeats 16000000 in
set_option maxRecDepth 100000 in
theorem changedC_L (hT : TidyD 0) (hRP : ReplD 0) (hC : ChangedC 0) : ChangedC 1 := by
 intro b x ka kn kc key na nn nc now w hx ox hk bt hnow hn
 have HOX := hid_intro ox
 obtain ⟨b', a, m, c, sa, sm, sc, e, hb, hns, hss⟩ := hx
 simp only [tyN, Value.iface.injEq, Value.pointer.injEq, Option.some.injEq, Addr.mk.injEq, true_and, and_true] at e
 subst e
 obtain ⟨x1, x2, x3, x4, x5⟩ := ox
 obtain ⟨y, hy⟩ := at_place x3 x1 key
 have ls := hss.len
 have ln := hns.len
 have f1 := seps_few x4
 have hsl : (BnT.row (T := NdT 0) x).ns.length = (BnT.row (T := NdT 0) x).ss.length + 1 := by
  have := x3.len
  have := List.length_pos_iff.2 x1
  omega
 have k1 := cell_heap (i := 1) hb rfl
 have k2 := cell_heap (i := 2) hb rfl
 have hbl := cell_lt k1
 have HB0 := hid_intro hb
 have G1 := hid_intro (World.grownBy_alloc w (.cells #[.slice none 0 0, .slice none 0 0] 69) none)
 have B1 := hid_intro (BxT.new w (.slice none 0 0) (.slice none 0 0))
 have PL := hid_intro (fun (W : World) (h : w.grownBy W none) => place_any b sa sm sc ka kn kc (BnT.row (T := NdT 0) x).ss key W (h.cell k2 (by simp)) (hss.kept (FrT.of h)) (by omega) (rise_of x3) (hk.keptN h) bt (fun s hs => (x5 s hs).kb))
 obtain ⟨g, off, u, rfl, c1, hu⟩ := NsT.node (n := 0) hns hy.at_
 obtain ⟨b1, rfl⟩ := hu.atL
 have hlt := hy.lt
 have KC : Hid (∀ (W : World), w.grownBy W none → Calls Tryz.prog 53 #[.pointer (some ⟨b1, 0, none⟩), .slice ka kn kc, .slice na nn nc] W fun en w' => ChT 0 (changedT 0 y key now) en w' ∧ W.grownBy w' none) := fun W h => hC b1 y ka kn kc key na nn nc now W (NodeT.kept _ hu (FrT.of h)) (x2 y (List.mem_of_getElem? hy.at_)) (hk.keptN h) bt (hnow.kept (FrT.of h)) hn
 have RX := hid_intro (show RowT 0 w (some ⟨g, off, none⟩) m c sa sm sc (BnT.row (T := NdT 0) x) from ⟨hns, hss⟩)
 have hme := mL_changed
 have HY := hid_intro hy
 have HN := hid_intro hn
 have hix := hy.lt
 show Calls Tryz.prog 118 _ _ _
 cases hq : changedT 0 y key now with
 | none =>
  rw [branch_stop HY.out hq]
  rw [hq] at KC
  generalize placeT (BnT.row (T := NdT 0) x).ss key = i at *
  have v1 : (0 : Int) ≤ (i : Int) ∧ (i : Int) < (m : Int) := by omega
  clear hb hns hss hk hu x2 x3 x5 hy hnow hn hq k2
  go_enter Tryz.func118, Tryz.ntmps118
  go_wp2_with fail
  refine (PL.out _ G1.out).mono ?_
  rintro en w2 ⟨rfl, hg2⟩
  have G2 := hid_intro (grown_trans G1.out hg2)
  have d1 := G2.out.cell k1 (by simp)
  have d2 := G2.out.cell c1 (by simp)
  clear hg2 k1 c1
  go_wp2_with fail
  refine (KC.out _ G2.out).mono ?_
  rintro en w3 ⟨h3, hg3⟩
  have h4 : en = .panicked [{ v := .iface 98 (.agg #[]), recovered := false }] := h3
  subst h4
  exact ⟨rfl, rfl, grown_trans G2.out hg3⟩
 | some q =>
  obtain ⟨q1, q2, q3, q4, q5, q6⟩ := branch_next HOX.out HN.out HY.out hq
  rw [q1]
  rw [hq] at KC
  generalize ht : tidyT (joinsT 0) (joinedT 0) (placeT (BnT.row (T := NdT 0) x).ss key + q.ns.length - (placeT (BnT.row (T := NdT 0) x).ss key - 1)) (replT (BnT.row (T := NdT 0) x) (placeT (BnT.row (T := NdT 0) x).ss key) q) (placeT (BnT.row (T := NdT 0) x).ss key - 1) = t at *
  obtain ⟨t1, t2, t3⟩ := q6 t rfl
  have QT := hid_intro (And.intro t1 (And.intro t2 t3))
  have HT := hid_intro ht
  have Q2 := hid_intro q2
  have HSL := hid_intro hsl
  clear t1 t2 t3 q6 q2 ht q1 hq
  generalize placeT (BnT.row (T := NdT 0) x).ss key = i at *
  have v1 : (0 : Int) ≤ (i : Int) ∧ (i : Int) < (m : Int) := by omega
  clear hb hns hss hk hu x2 x3 x5 hy hnow hn k2
  have GS : Hid (w.heap.size < (w.alloc (.cells #[.slice none 0 0, .slice none 0 0] 69)).heap.size) := by simp [Hid]
  go_enter Tryz.func118, Tryz.ntmps118
  go_wp2_with fail
  refine (PL.out _ G1.out).mono ?_
  rintro en w2 ⟨rfl, hg2⟩
  have GZ := hid_intro hg2
  have G2 := hid_intro (grown_trans G1.out hg2)
  have d1 := G2.out.cell k1 (by simp)
  have d2 := G2.out.cell c1 (by simp)
  clear hg2 c1
  go_wp2_with fail
  refine (KC.out _ G2.out).mono ?_
  rintro en w3 ⟨⟨a3, m3, c3, sa3, sm3, sc3, rfl, hr3⟩, hg3⟩
  have hgz := hid_intro hg3
  have G3 := hid_intro (grown_trans G2.out hg3)
  have l3 := hr3.ns.len
  have l4 := hr3.ss.len
  have GX := hid_intro (World.grownBy_alloc w3 (.cells #[.slice a3 m3 c3, .slice sa3 sm3 sc3] 69) none)
  have X4 := heap_at0 w3 #[.slice a3 m3 c3, .slice sa3 sm3 sc3] 69
  have R3 := hid_intro (hr3.kept (FrT.of GX.out))
  have e0 := cell_heap (i := 0) X4 rfl
  have e1 := cell_heap (i := 1) X4 rfl
  have k2' := cell_heap (i := 2) HB0.out rfl
  have e2 := (grown_trans G3.out GX.out).cell k1 (by simp)
  have e3 := (grown_trans G3.out GX.out).cell k2' (by simp)
  have G4 := hid_intro (grown_trans G3.out GX.out)
  clear hg3 hr3 X4 d1 d2 k2' k1
  go_upto_region 3 with fail
  generalize w3.alloc (.cells #[.slice a3 m3 c3, .slice sa3 sm3 sc3] 69) = w4 at *
  have TT := hid_intro (And.intro e0 (And.intro e1 (And.intro e2 e3)))
  obtain ⟨fr, hfr⟩ : ∃ fr : Int, (i : Int) - 1 = fr := ⟨_, rfl⟩
  obtain ⟨su, hsu⟩ : ∃ su : Int, (i : Int) + (m3 : Int) = su := ⟨_, rfl⟩
  obtain ⟨tq, htq⟩ : ∃ tq : Int, su - 1 = tq := ⟨_, rfl⟩
  have wf : IntKind.i64.wrap fr = fr := by rw [IntKind.wrap_i64]; omega
  have ws : IntKind.i64.wrap su = su := by rw [IntKind.wrap_i64]; omega
  have wt : IntKind.i64.wrap tq = tq := by rw [IntKind.wrap_i64]; omega
  have RP := hid_intro (fun (W : World) (h : w4.grownBy W none) => hRP (BnT.row (T := NdT 0) x) q i HSL.out hix _ m c sa sm sc a3 m3 c3 sa3 sm3 sc3 W (RX.out.kept (FrT.of (grown_trans G4.out h))) (R3.out.kept (FrT.of h)) (by omega) (by omega) (by omega) (by omega))
  have TD := hid_intro (fun (a5 : Option Addr) (m5 c5 : Nat) (sa5 : Option Addr) (sm5 sc5 : Nat) (W : World) (h : RowT 0 W a5 m5 c5 sa5 sm5 sc5 (replT (BnT.row (T := NdT 0) x) i q)) (h5 : m5 ≤ 5000) => hT (replT (BnT.row (T := NdT 0) x) i q) fr tq (i - 1) (i + q.ns.length - (i - 1)) (by split <;> omega) (by omega) (by omega) (by omega) Q2.out a5 m5 c5 sa5 sm5 sc5 W h h5)
  rw [HT.out] at TD
  have ST := hid_intro (fun (a5 : Option Addr) (m5 c5 : Nat) (sa5 : Option Addr) (sm5 sc5 : Nat) (W : World) (h : RowT 0 W a5 m5 c5 sa5 sm5 sc5 t) (h5 : m5 ≤ 5000) => settledBranch_any t QT.out.1 QT.out.2.2 a5 m5 c5 sa5 sm5 sc5 W h h5)
  have B4 := hid_intro (B1.out.keptN (show (w.alloc (.cells #[.slice none 0 0, .slice none 0 0] 69)).grownBy w4 none from grown_trans GZ.out (grown_trans hgz.out GX.out)))
  clear e0 e1 e2 e3
  go_region_held3 (fun w' => w'.cell? ⟨w3.heap.size, 0, none⟩ = some (.slice a3 m3 c3) ∧ w'.cell? ⟨w3.heap.size, 1, none⟩ = some (.slice sa3 sm3 sc3) ∧ w'.cell? ⟨b, 1, none⟩ = some (.slice (some ⟨g, off, none⟩) m c) ∧ w'.cell? ⟨b, 2, none⟩ = some (.slice sa sm sc)) (first | (with_reducible exact T5) | (with_reducible exact T6) | (with_reducible exact T7) | exact TT.out | (refine And.intro (keep2 T7.1 ?_) (And.intro (keep2 T7.2.1 ?_) (And.intro (keep2 T7.2.2.1 ?_) (keep2 T7.2.2.2 ?_))) <;> (have z0 := GZ.out.size; have z3 := hgz.out.size; have z1 := GS.out; omega)) | go_keep) (first
   | (go_at_call 130; (with_reducible refine (RP.out _ ((Qt.refl w4).drew.grown none)).mono ?_); rintro en w5 ⟨⟨a5, m5, c5, sa5, sm5, sc5, rfl, hr5⟩, hg5⟩; have H5 := grown_trans ((Qt.refl w4).drew.grown none) hg5; have l5 := hr5.ns.len; have T5 := And.intro (H5.cell TT.out.1 (by simp)) (And.intro (H5.cell TT.out.2.1 (by simp)) (And.intro (H5.cell TT.out.2.2.1 (by simp)) (H5.cell TT.out.2.2.2 (by simp)))))
   | (go_at_call 131; (with_reducible refine (TD.out _ _ _ _ _ _ _ hr5 (by omega)).mono ?_); rintro en w6 ⟨⟨a6, m6, c6, sa6, sm6, sc6, rfl, hr6⟩, hg6⟩; have H6 := grown_trans H5 hg6; have l6 := hr6.ns.len; have q7 := QT.out.2.1; have T6 := And.intro (H6.cell TT.out.1 (by simp)) (And.intro (H6.cell TT.out.2.1 (by simp)) (And.intro (H6.cell TT.out.2.2.1 (by simp)) (H6.cell TT.out.2.2.2 (by simp)))))
   | (go_at_call 129; (with_reducible refine (ST.out _ _ _ _ _ _ _ hr6 (by omega)).mono ?_); rintro en w7 ⟨⟨a7, m7, c7, sa7, sm7, sc7, rfl, hr7⟩, hg7⟩; have H7 := grown_trans H6 hg7; have T7 := And.intro (H7.cell TT.out.1 (by simp)) (And.intro (H7.cell TT.out.2.1 (by simp)) (And.intro (H7.cell TT.out.2.2.1 (by simp)) (H7.cell TT.out.2.2.2 (by simp)))); have B7 := B4.out.keptN H7; obtain ⟨⟨x1, cx⟩, ⟨y1, cy⟩, z1, z2⟩ := B7.cells))
  all_goals go_wp2
  all_goals
   refine ret_rowC (p := 6) rfl B7 (Nat.le_refl _) hr7 (grown_trans G4.out H7) ?_ ?_ <;> rfl
set_option maxHeartbeats 16000000 in
set_option maxRecDepth 100000 in
theorem changedC_B {n : Nat} (hT : TidyD (n + 1)) (hRP : ReplD (n + 1)) (hC : ChangedC (n + 1)) : ChangedC (n + 1 + 1) := by
 intro b x ka kn kc key na nn nc now w hx ox hk bt hnow hn
 have HOX := hid_intro ox
 obtain ⟨b', a, m, c, sa, sm, sc, e, hb, hns, hss⟩ := hx
 simp only [tyN, Value.iface.injEq, Value.pointer.injEq, Option.some.injEq, Addr.mk.injEq, true_and, and_true] at e
 subst e
 obtain ⟨x1, x2, x3, x4, x5⟩ := ox
 obtain ⟨y, hy⟩ := at_place x3 x1 key
 have ls := hss.len
 have ln := hns.len
 have f1 := seps_few x4
 have hsl : (BnT.row (T := NdT (n + 1)) x).ns.length = (BnT.row (T := NdT (n + 1)) x).ss.length + 1 := by
  have := x3.len
  have := List.length_pos_iff.2 x1
  omega
 have k1 := cell_heap (i := 1) hb rfl
 have k2 := cell_heap (i := 2) hb rfl
 have hbl := cell_lt k1
 have HB0 := hid_intro hb
 have G1 := hid_intro (World.grownBy_alloc w (.cells #[.slice none 0 0, .slice none 0 0] 69) none)
 have B1 := hid_intro (BxT.new w (.slice none 0 0) (.slice none 0 0))
 have PL := hid_intro (fun (W : World) (h : w.grownBy W none) => place_any b sa sm sc ka kn kc (BnT.row (T := NdT (n + 1)) x).ss key W (h.cell k2 (by simp)) (hss.kept (FrT.of h)) (by omega) (rise_of x3) (hk.keptN h) bt (fun s hs => (x5 s hs).kb))
 obtain ⟨g, off, u, rfl, c1, hu⟩ := NsT.node (n := (n + 1)) hns hy.at_
 obtain ⟨b1, rfl⟩ := hu.atB
 have hlt := hy.lt
 have KC : Hid (∀ (W : World), w.grownBy W none → Calls Tryz.prog 118 #[.pointer (some ⟨b1, 0, none⟩), .slice ka kn kc, .slice na nn nc] W fun en w' => ChT (n + 1) (changedT (n + 1) y key now) en w' ∧ W.grownBy w' none) := fun W h => hC b1 y ka kn kc key na nn nc now W (NodeT.kept _ hu (FrT.of h)) (x2 y (List.mem_of_getElem? hy.at_)) (hk.keptN h) bt (hnow.kept (FrT.of h)) hn
 have RX := hid_intro (show RowT (n + 1) w (some ⟨g, off, none⟩) m c sa sm sc (BnT.row (T := NdT (n + 1)) x) from ⟨hns, hss⟩)
 have hme := mB_changed
 have HY := hid_intro hy
 have HN := hid_intro hn
 have hix := hy.lt
 show Calls Tryz.prog 118 _ _ _
 cases hq : changedT (n + 1) y key now with
 | none =>
  rw [branch_stop HY.out hq]
  rw [hq] at KC
  generalize placeT (BnT.row (T := NdT (n + 1)) x).ss key = i at *
  have v1 : (0 : Int) ≤ (i : Int) ∧ (i : Int) < (m : Int) := by omega
  clear hb hns hss hk hu x2 x3 x5 hy hnow hn hq k2
  go_enter Tryz.func118, Tryz.ntmps118
  go_wp2_with fail
  refine (PL.out _ G1.out).mono ?_
  rintro en w2 ⟨rfl, hg2⟩
  have G2 := hid_intro (grown_trans G1.out hg2)
  have d1 := G2.out.cell k1 (by simp)
  have d2 := G2.out.cell c1 (by simp)
  clear hg2 k1 c1
  go_wp2_with fail
  refine (KC.out _ G2.out).mono ?_
  rintro en w3 ⟨h3, hg3⟩
  have h4 : en = .panicked [{ v := .iface 98 (.agg #[]), recovered := false }] := h3
  subst h4
  exact ⟨rfl, rfl, grown_trans G2.out hg3⟩
 | some q =>
  obtain ⟨q1, q2, q3, q4, q5, q6⟩ := branch_next HOX.out HN.out HY.out hq
  rw [q1]
  rw [hq] at KC
  generalize ht : tidyT (joinsT (n + 1)) (joinedT (n + 1)) (placeT (BnT.row (T := NdT (n + 1)) x).ss key + q.ns.length - (placeT (BnT.row (T := NdT (n + 1)) x).ss key - 1)) (replT (BnT.row (T := NdT (n + 1)) x) (placeT (BnT.row (T := NdT (n + 1)) x).ss key) q) (placeT (BnT.row (T := NdT (n + 1)) x).ss key - 1) = t at *
  obtain ⟨t1, t2, t3⟩ := q6 t rfl
  have QT := hid_intro (And.intro t1 (And.intro t2 t3))
  have HT := hid_intro ht
  have Q2 := hid_intro q2
  have HSL := hid_intro hsl
  clear t1 t2 t3 q6 q2 ht q1 hq
  generalize placeT (BnT.row (T := NdT (n + 1)) x).ss key = i at *
  have v1 : (0 : Int) ≤ (i : Int) ∧ (i : Int) < (m : Int) := by omega
  clear hb hns hss hk hu x2 x3 x5 hy hnow hn k2
  have GS : Hid (w.heap.size < (w.alloc (.cells #[.slice none 0 0, .slice none 0 0] 69)).heap.size) := by simp [Hid]
  go_enter Tryz.func118, Tryz.ntmps118
  go_wp2_with fail
  refine (PL.out _ G1.out).mono ?_
  rintro en w2 ⟨rfl, hg2⟩
  have GZ := hid_intro hg2
  have G2 := hid_intro (grown_trans G1.out hg2)
  have d1 := G2.out.cell k1 (by simp)
  have d2 := G2.out.cell c1 (by simp)
  clear hg2 c1
  go_wp2_with fail
  refine (KC.out _ G2.out).mono ?_
  rintro en w3 ⟨⟨a3, m3, c3, sa3, sm3, sc3, rfl, hr3⟩, hg3⟩
  have hgz := hid_intro hg3
  have G3 := hid_intro (grown_trans G2.out hg3)
  have l3 := hr3.ns.len
  have l4 := hr3.ss.len
  have GX := hid_intro (World.grownBy_alloc w3 (.cells #[.slice a3 m3 c3, .slice sa3 sm3 sc3] 69) none)
  have X4 := heap_at0 w3 #[.slice a3 m3 c3, .slice sa3 sm3 sc3] 69
  have R3 := hid_intro (hr3.kept (FrT.of GX.out))
  have e0 := cell_heap (i := 0) X4 rfl
  have e1 := cell_heap (i := 1) X4 rfl
  have k2' := cell_heap (i := 2) HB0.out rfl
  have e2 := (grown_trans G3.out GX.out).cell k1 (by simp)
  have e3 := (grown_trans G3.out GX.out).cell k2' (by simp)
  have G4 := hid_intro (grown_trans G3.out GX.out)
  clear hg3 hr3 X4 d1 d2 k2' k1
  go_upto_region 3 with fail
  generalize w3.alloc (.cells #[.slice a3 m3 c3, .slice sa3 sm3 sc3] 69) = w4 at *
  have TT := hid_intro (And.intro e0 (And.intro e1 (And.intro e2 e3)))
  obtain ⟨fr, hfr⟩ : ∃ fr : Int, (i : Int) - 1 = fr := ⟨_, rfl⟩
  obtain ⟨su, hsu⟩ : ∃ su : Int, (i : Int) + (m3 : Int) = su := ⟨_, rfl⟩
  obtain ⟨tq, htq⟩ : ∃ tq : Int, su - 1 = tq := ⟨_, rfl⟩
  have wf : IntKind.i64.wrap fr = fr := by rw [IntKind.wrap_i64]; omega
  have ws : IntKind.i64.wrap su = su := by rw [IntKind.wrap_i64]; omega
  have wt : IntKind.i64.wrap tq = tq := by rw [IntKind.wrap_i64]; omega
  have RP := hid_intro (fun (W : World) (h : w4.grownBy W none) => hRP (BnT.row (T := NdT (n + 1)) x) q i HSL.out hix _ m c sa sm sc a3 m3 c3 sa3 sm3 sc3 W (RX.out.kept (FrT.of (grown_trans G4.out h))) (R3.out.kept (FrT.of h)) (by omega) (by omega) (by omega) (by omega))
  have TD := hid_intro (fun (a5 : Option Addr) (m5 c5 : Nat) (sa5 : Option Addr) (sm5 sc5 : Nat) (W : World) (h : RowT (n + 1) W a5 m5 c5 sa5 sm5 sc5 (replT (BnT.row (T := NdT (n + 1)) x) i q)) (h5 : m5 ≤ 5000) => hT (replT (BnT.row (T := NdT (n + 1)) x) i q) fr tq (i - 1) (i + q.ns.length - (i - 1)) (by split <;> omega) (by omega) (by omega) (by omega) Q2.out a5 m5 c5 sa5 sm5 sc5 W h h5)
  rw [HT.out] at TD
  have ST := hid_intro (fun (a5 : Option Addr) (m5 c5 : Nat) (sa5 : Option Addr) (sm5 sc5 : Nat) (W : World) (h : RowT (n + 1) W a5 m5 c5 sa5 sm5 sc5 t) (h5 : m5 ≤ 5000) => settledBranch_any t QT.out.1 QT.out.2.2 a5 m5 c5 sa5 sm5 sc5 W h h5)
  have B4 := hid_intro (B1.out.keptN (show (w.alloc (.cells #[.slice none 0 0, .slice none 0 0] 69)).grownBy w4 none from grown_trans GZ.out (grown_trans hgz.out GX.out)))
  clear e0 e1 e2 e3
  go_region_held3 (fun w' => w'.cell? ⟨w3.heap.size, 0, none⟩ = some (.slice a3 m3 c3) ∧ w'.cell? ⟨w3.heap.size, 1, none⟩ = some (.slice sa3 sm3 sc3) ∧ w'.cell? ⟨b, 1, none⟩ = some (.slice (some ⟨g, off, none⟩) m c) ∧ w'.cell? ⟨b, 2, none⟩ = some (.slice sa sm sc)) (first | (with_reducible exact T5) | (with_reducible exact T6) | (with_reducible exact T7) | exact TT.out | (refine And.intro (keep2 T7.1 ?_) (And.intro (keep2 T7.2.1 ?_) (And.intro (keep2 T7.2.2.1 ?_) (keep2 T7.2.2.2 ?_))) <;> (have z0 := GZ.out.size; have z3 := hgz.out.size; have z1 := GS.out; omega)) | go_keep) (first
   | (go_at_call 130; (with_reducible refine (RP.out _ ((Qt.refl w4).drew.grown none)).mono ?_); rintro en w5 ⟨⟨a5, m5, c5, sa5, sm5, sc5, rfl, hr5⟩, hg5⟩; have H5 := grown_trans ((Qt.refl w4).drew.grown none) hg5; have l5 := hr5.ns.len; have T5 := And.intro (H5.cell TT.out.1 (by simp)) (And.intro (H5.cell TT.out.2.1 (by simp)) (And.intro (H5.cell TT.out.2.2.1 (by simp)) (H5.cell TT.out.2.2.2 (by simp)))))
   | (go_at_call 131; (with_reducible refine (TD.out _ _ _ _ _ _ _ hr5 (by omega)).mono ?_); rintro en w6 ⟨⟨a6, m6, c6, sa6, sm6, sc6, rfl, hr6⟩, hg6⟩; have H6 := grown_trans H5 hg6; have l6 := hr6.ns.len; have q7 := QT.out.2.1; have T6 := And.intro (H6.cell TT.out.1 (by simp)) (And.intro (H6.cell TT.out.2.1 (by simp)) (And.intro (H6.cell TT.out.2.2.1 (by simp)) (H6.cell TT.out.2.2.2 (by simp)))))
   | (go_at_call 129; (with_reducible refine (ST.out _ _ _ _ _ _ _ hr6 (by omega)).mono ?_); rintro en w7 ⟨⟨a7, m7, c7, sa7, sm7, sc7, rfl, hr7⟩, hg7⟩; have H7 := grown_trans H6 hg7; have T7 := And.intro (H7.cell TT.out.1 (by simp)) (And.intro (H7.cell TT.out.2.1 (by simp)) (And.intro (H7.cell TT.out.2.2.1 (by simp)) (H7.cell TT.out.2.2.2 (by simp)))); have B7 := B4.out.keptN H7; obtain ⟨⟨x1, cx⟩, ⟨y1, cy⟩, z1, z2⟩ := B7.cells))
  all_goals go_wp2
  all_goals
   refine ret_rowC (p := 6) rfl B7 (Nat.le_refl _) hr7 (grown_trans G4.out H7) ?_ ?_ <;> rfl
theorem tidy_step {T : Type} {J : T → List Int → T → Bool} {D : T → List Int → T → T} {c : Nat} {q : RwT T} {i : Nat} {a b : T} {s : List Int} (h1 : q.ns[i]? = some a) (h2 : q.ss[i]? = some s) (h3 : q.ns[i + 1]? = some b) : tidyT J D (c + 1) q i = if J a s b then tidyT J D c (joinAt q i (D a s b)) i else tidyT J D c q (i + 1) := by
 rw [tidyT, h1, h2, h3]
theorem tidy_stop {T : Type} {J : T → List Int → T → Bool} {D : T → List Int → T → T} {c : Nat} {q : RwT T} {i : Nat} (h : c = 0 ∨ q.ns.length ≤ i + 1) : tidyT J D c q i = q := by
 cases c with
 | zero => rfl
 | succ c =>
  rw [tidyT, show q.ns[i + 1]? = none from List.getElem?_eq_none_iff.2 (by omega)]
  split <;> simp_all
theorem joinAt_len {T : Type} {q : RwT T} {i : Nat} {one : T} (h : i + 1 < q.ns.length) : (joinAt q i one).ns.length + 1 = q.ns.length := by
 simp only [joinAt, List.length_append, List.length_take, List.length_drop, List.length_cons, List.length_nil]
 omega
theorem rok_joinAt {n : Nat} {q : RwT (NdT n)} {i : Nat} {a b : NdT n} {s : List Int} (h : RokT n q) (h1 : q.ns[i]? = some a) (h2 : q.ss[i]? = some s) (h3 : q.ns[i + 1]? = some b) (hj : joinsT n a s b = true) : RokT n (joinAt q i (joinedT n a s b)) := by
 have := ok_tidy (ok_joined n) 1 q i h
 rw [tidy_step h1 h2 h3, if_pos hj] at this
 exact this
structure TbT (n : Nat) (w : World) (R : Nat) (a : Option Addr) (m c : Nat) (sa : Option Addr) (sm sc : Nat) (q : RwT (NdT n)) : Prop where
 box : w.heap[R]? = some (.cells #[.slice a m c, .slice sa sm sc] 69 (0, 0))
 row : RowT n w a m c sa sm sc q
theorem TbT.keptN {n : Nat} {w w' : World} {R : Nat} {a : Option Addr} {m c : Nat} {sa : Option Addr} {sm sc : Nat} {q : RwT (NdT n)} (h : TbT n w R a m c sa sm sc q) (hg : w.grownBy w' none) : TbT n w' R a m c sa sm sc q := ⟨heap_kept h.box hg, h.row.kept (FrT.of hg)⟩
set_option maxHeartbeats 16000000 in
set_option maxRecDepth 100000 in
theorem tidied_L (hJ : JoinsC 0) (hD : ∀ (r : RwT (NdT 0)) (i : Nat) (x y : NdT 0) (s : List Int), r.ns[i]? = some x → r.ss[i]? = some s → r.ns[i + 1]? = some y → RokT 0 r → joinsT 0 x s y = true → ∀ (a : Option Addr) (m c : Nat) (sa : Option Addr) (sm sc : Nat) (w : World), RowT 0 w a m c sa sm sc r → m ≤ 5000 →
   Calls Tryz.prog 138 #[.agg #[.slice a m c, .slice sa sm sc], .int .i64 i] w fun en w' => (∃ a m c sa sm sc, en = .returned (.agg #[.slice a m c, .slice sa sm sc]) ∧ RowT 0 w' a m c sa sm sc (joinAt r i (joinedT 0 x s y))) ∧ w.grownBy w' none)
  (r : RwT (NdT 0)) (fr tq : Int) (i0 cnt : Nat) (hi0 : (if (0 : Int) > fr then (0 : Int) else fr) = (i0 : Int)) (hcnt : cnt = (tq + 1 - (i0 : Int)).toNat) (ht : -100000 ≤ tq ∧ tq ≤ 100000) (hf : -100000 ≤ fr ∧ fr ≤ 100000) (hok : RokT 0 r) (a : Option Addr) (m c : Nat) (sa : Option Addr) (sm sc : Nat) (w : World) (hr : RowT 0 w a m c sa sm sc r) (hm : m ≤ 5000) :
  Calls Tryz.prog 131 #[.agg #[.slice a m c, .slice sa sm sc], .int .i64 fr, .int .i64 tq] w fun en w' => (∃ a m c sa sm sc, en = .returned (.agg #[.slice a m c, .slice sa sm sc]) ∧ RowT 0 w' a m c sa sm sc (tidyT (joinsT 0) (joinedT 0) cnt r i0)) ∧ w.grownBy w' none := by
 have hmax : ∀ (ts : Array TypeId) (t : TypeId) (W : World), (Builtin.max_ ts t #[.int .i64 fr, .int .i64 0]).run Tryz.prog W = .ok (.int .i64 i0) W := fun ts t W => by rw [run_max_int2, hi0]
 have G1 := hid_intro (grown_al (grown_al (World.grownBy.refl w none) (.cells #[.slice a m c, .slice sa sm sc] 69)) (.cells #[.slice none 0 0, .slice none 0 0] 69))
 have X1 : Hid (TbT 0 ((w.alloc (.cells #[.slice a m c, .slice sa sm sc] 69)).alloc (.cells #[.slice none 0 0, .slice none 0 0] 69)) w.heap.size a m c sa sm sc r) := ⟨heap_old (heap_at0 w _ _), hr.kept (FrT.of G1.out)⟩
 have B1 : Hid (BxT ((w.alloc (.cells #[.slice a m c, .slice sa sm sc] 69)).alloc (.cells #[.slice none 0 0, .slice none 0 0] 69)) (w.heap.size + 1)) := ⟨_, _, heap_at1 w _ _ _⟩
 have ln := hr.ns.len
 have HOK := hid_intro hok
 have hb0 : i0 ≤ 100000 := by split at hi0 <;> omega
 have hme := mL_joins
 have HCN := hid_intro hcnt
 clear hr hi0 hok hcnt
 go_enter Tryz.func131, Tryz.ntmps131
 go_wp2
 generalize (w.alloc (.cells #[.slice a m c, .slice sa sm sc] 69)).alloc (.cells #[.slice none 0 0, .slice none 0 0] 69) = w1 at *
 go_loopw [2, 7] (fun s2 s7 wr => ∃ (q : RwT (NdT 0)) (i k : Nat) (t : Int) (a : Option Addr) (m c : Nat) (sa : Option Addr) (sm sc : Nat), s2 = .int .i64 t ∧ s7 = .int .i64 (i : Nat) ∧ k = (t + 1 - (i : Int)).toNat ∧ i ≤ 200000 ∧ -300000 ≤ t ∧ t ≤ 100000 ∧ (t + 1 - (i : Int)).toNat + i ≤ 200000 ∧ m ≤ 5000 ∧ RokT 0 q ∧ TbT 0 wr w.heap.size a m c sa sm sc q ∧ BxT wr (w.heap.size + 1) ∧ w.grownBy wr none ∧ tidyT (joinsT 0) (joinedT 0) k q i = tidyT (joinsT 0) (joinedT 0) cnt r i0 ∧ t ≤ tq ∧ tq - t ≤ 200000) (fun s2 s7 _ => (intOf s2 + 1 - intOf s7).toNat)
 case atStart => exact ⟨r, i0, cnt, tq, a, m, c, sa, sm, sc, rfl, rfl, HCN.out, by omega, by omega, by omega, by omega, hm, HOK.out, X1.out, B1.out, G1.out, rfl, by omega, by omega⟩
 case round =>
  obtain ⟨q, i, k, t, a, m, c, sa, sm, sc, rfl, rfl, hk, hi, ht1, ht2, hki, hm, hok, htb, hbx, hg, heq, hto, htd⟩ := hrel
  have ln := htb.row.ns.len
  have ls := htb.row.ss.len
  have HO := hid_intro hok
  have HT := hid_intro htb
  have HB := hid_intro hbx
  have HG := hid_intro hg
  have HE := hid_intro heq
  have e0 := cell_heap (i := 0) htb.box rfl
  have e1 := cell_heap (i := 1) htb.box rfl
  by_cases c1 : (i : Int) ≤ t
  ·by_cases c2 : i + 1 < m
   ·have hsl := hok.sep.len
    obtain ⟨x, h1⟩ : ∃ x, q.ns[i]? = some x := ⟨_, List.getElem?_eq_getElem (by omega)⟩
    obtain ⟨y, h3⟩ : ∃ y, q.ns[i + 1]? = some y := ⟨_, List.getElem?_eq_getElem (by omega)⟩
    obtain ⟨s, h2⟩ : ∃ s, q.ss[i]? = some s := ⟨_, List.getElem?_eq_getElem (by omega)⟩
    obtain ⟨g, off, u1, rfl, d1, hx⟩ := htb.row.ns.node h1
    obtain ⟨g', off', u2, e, d2, hy⟩ := htb.row.ns.node h3
    simp only [Option.some.injEq, Addr.mk.injEq] at e
    obtain ⟨rfl, rfl, _⟩ := e
    obtain ⟨sg, soff, so, sn, sc', rfl, d3, hs⟩ := htb.row.ss.str h2
    obtain ⟨b1, rfl⟩ := hx.atL
    obtain ⟨b2, rfl⟩ := hy.atL
    have JQ : Hid (∀ (W : World), wr.grownBy W none → Calls Tryz.prog 112 #[.pointer (some ⟨b1, 0, none⟩), .slice so sn sc', .iface 99 (.pointer (some ⟨b2, 0, none⟩))] W fun en w' => en = .returned (.bool (joinsT 0 x s y)) ∧ W.grownBy w' none) := (fun (W : World) (h : wr.grownBy W none) => hJ b1 _ x y so sn sc' s W (NodeT.kept _ hx (FrT.of h)) (NodeT.kept _ hy (FrT.of h)) (hok.ok x (List.mem_of_getElem? h1)) (hok.ok y (List.mem_of_getElem? h3)) (hs.kept (FrT.of h)) (hok.vs s (List.mem_of_getElem? h2)))
    have DQ := hid_intro (hD q i x y s h1 h2 h3 hok)
    obtain ⟨k', hk'⟩ : ∃ k', k = k' + 1 := ⟨k - 1, by omega⟩
    have HS := hid_intro (tidy_step (J := joinsT 0) (D := joinedT 0) (c := k') h1 h2 h3)
    have RJ := hid_intro (fun hj => rok_joinAt hok h1 h2 h3 hj)
    obtain ⟨j, hj1⟩ : ∃ j, i + 1 = j := ⟨_, rfl⟩
    rw [hj1] at d2
    have v1 : (0 : Int) ≤ (i : Int) ∧ (i : Int) < (m : Int) := by omega
    have v2 : (0 : Int) ≤ (j : Int) ∧ (j : Int) < (m : Int) := by omega
    have v3 : (0 : Int) ≤ (i : Int) ∧ (i : Int) < (sm : Int) := by omega
    have ej : (i : Int) + 1 = (j : Int) := by omega
    have wj : IntKind.i64.wrap (j : Int) = (j : Int) := by rw [IntKind.wrap_i64]; omega
    have T1 := hid_intro (And.intro e0 (And.intro e1 (And.intro d1 (And.intro d2 d3))))
    have c2' : (j : Int) < (m : Int) := by omega
    clear hx hy hs hok htb hbx hg heq h1 h2 h3 d1 d2 d3 hsl
    cases hb : joinsT 0 x s y with
    | true =>
     rw [hb] at JQ HS
     have DQ2 := hid_intro (DQ.out hb)
     have RJ2 := hid_intro (RJ.out hb)
     clear DQ RJ
     go_upto_region 3 with fail
     go_region_held3 (fun w' => w'.cell? ⟨w.heap.size, 0, none⟩ = some (.slice (some ⟨g, off, none⟩) m c) ∧ w'.cell? ⟨w.heap.size, 1, none⟩ = some (.slice (some ⟨sg, soff, none⟩) sm sc) ∧ w'.cell? ⟨g, off + i, none⟩ = some (.iface 99 (.pointer (some ⟨b1, 0, none⟩))) ∧ w'.cell? ⟨g, off + j, none⟩ = some (.iface 99 (.pointer (some ⟨b2, 0, none⟩))) ∧ w'.cell? ⟨sg, soff + i, none⟩ = some (.slice so sn sc')) (first | (with_reducible exact T2) | exact T1.out | go_keep) (first
      | (go_at_call 112; (with_reducible refine (JQ.out _ ((Qt.refl wr).drew.grown none)).mono ?_); rintro en w2 ⟨rfl, hg2⟩; have g9 := grown_trans ((Qt.refl wr).drew.grown none) hg2; have T2 := And.intro (g9.cell T1.out.1 (by simp)) (And.intro (g9.cell T1.out.2.1 (by simp)) (And.intro (g9.cell T1.out.2.2.1 (by simp)) (And.intro (g9.cell T1.out.2.2.2.1 (by simp)) (g9.cell T1.out.2.2.2.2 (by simp)))))))
     all_goals go_wp2_with fail
     all_goals
      refine (DQ2.out _ _ _ _ _ _ w2 (HT.out.keptN g9).row hm).mono ?_
      rintro en w5 ⟨⟨a5, m5, c5, sa5, sm5, sc5, rfl, hr5⟩, hg5⟩
      have g5 := grown_trans g9 hg5
      have B5 : BxT w5 w.heap.size := ⟨_, _, heap_kept HT.out.box g5⟩
      obtain ⟨⟨x1, cx⟩, ⟨y1, cy⟩, z1, z2⟩ := B5.cells
      have BB := hid_intro B5
      have RR := hid_intro hr5
      have GG := hid_intro g5
      have ln5 := hr5.ns.len
      have hjl := joinAt_len (q := q) (i := i) (one := joinedT 0 x s y) (by omega)
      have wt : IntKind.i64.wrap (t - 1) = t - 1 := by rw [IntKind.wrap_i64]; omega
      clear B5 hr5 hg5 T2 hg2 g9 g5
     all_goals go_wp2
     all_goals
      obtain ⟨p1, p2, p3⟩ := BB.out.put (.slice a5 m5 c5) (.slice sa5 sm5 sc5)
      have B6 : BxT ((w5.setCell ⟨w.heap.size, 0, none⟩ (.slice a5 m5 c5)).setCell ⟨w.heap.size, 1, none⟩ (.slice sa5 sm5 sc5)) (w.heap.size + 1) := by
       obtain ⟨u, v, hu⟩ := (HB.out.keptN GG.out).row
       exact ⟨u, v, by rw [p3.block _ (Array.getElem?_eq_some_iff.1 hu).1 (by intro e; have := Option.some.inj e; omega)]; exact hu⟩
      refine ⟨⟨joinAt q i (joinedT 0 x s y), i, k', t - 1, _, _, _, _, _, _, rfl, rfl, by omega, by omega, by omega, by omega, by omega, by omega, RJ2.out, ⟨p1, RR.out.kept p2⟩, B6, grown_new (grown_trans HG.out GG.out) p3 (Nat.le_refl _), ?_, by omega, by omega⟩, by simp [intOf]; omega⟩
      rw [← HE.out, hk', HS.out, if_pos (by simp)]
    | false =>
     rw [hb] at JQ HS
     clear DQ RJ
     go_upto_region 3 with fail
     go_region_held3 (fun w' => w'.cell? ⟨w.heap.size, 0, none⟩ = some (.slice (some ⟨g, off, none⟩) m c) ∧ w'.cell? ⟨w.heap.size, 1, none⟩ = some (.slice (some ⟨sg, soff, none⟩) sm sc) ∧ w'.cell? ⟨g, off + i, none⟩ = some (.iface 99 (.pointer (some ⟨b1, 0, none⟩))) ∧ w'.cell? ⟨g, off + j, none⟩ = some (.iface 99 (.pointer (some ⟨b2, 0, none⟩))) ∧ w'.cell? ⟨sg, soff + i, none⟩ = some (.slice so sn sc')) (first | (with_reducible exact T2) | exact T1.out | go_keep) (first
      | (go_at_call 112; (with_reducible refine (JQ.out _ ((Qt.refl wr).drew.grown none)).mono ?_); rintro en w2 ⟨rfl, hg2⟩; have g9 := grown_trans ((Qt.refl wr).drew.grown none) hg2; have T2 := And.intro (g9.cell T1.out.1 (by simp)) (And.intro (g9.cell T1.out.2.1 (by simp)) (And.intro (g9.cell T1.out.2.2.1 (by simp)) (And.intro (g9.cell T1.out.2.2.2.1 (by simp)) (g9.cell T1.out.2.2.2.2 (by simp)))))))
     all_goals go_wp2
     all_goals
      refine ⟨⟨q, j, k', t, _, _, _, _, _, _, rfl, rfl, by omega, by omega, by omega, by omega, by omega, hm, HO.out, HT.out.keptN g9, HB.out.keptN g9, grown_trans HG.out g9, ?_, hto, htd⟩, by simp [intOf]; omega⟩
      rw [← HE.out, hk', HS.out, if_neg (by simp), hj1]
   ·have l2 : ¬ ((i : Int) + 1 < (m : Int)) := by omega
    have HF := hid_intro (HE.out.symm.trans (tidy_stop (.inr (by omega))))
    clear htb hbx hg heq hok
    obtain ⟨⟨x1, cx⟩, ⟨y1, cy⟩, z1, z2⟩ := HB.out.cells
    go_wp2
    rw [HF.out]
    refine ret_rowG (p := 6) rfl HB.out (by omega) HT.out.row HG.out ?_ ?_ <;> rfl
  ·have l1 : decide ((i : Int) ≤ t) = false := decide_eq_false c1
   have HF := hid_intro (HE.out.symm.trans (tidy_stop (.inl (by omega))))
   clear htb hbx hg heq hok
   obtain ⟨⟨x1, cx⟩, ⟨y1, cy⟩, z1, z2⟩ := HB.out.cells
   go_wp2
   rw [HF.out]
   refine ret_rowG (p := 6) rfl HB.out (by omega) HT.out.row HG.out ?_ ?_ <;> rfl
def TidyC (n : Nat) : Prop := ∀ (r : RwT (NdT n)) (fr tq : Int) (i0 cnt : Nat), (if (0 : Int) > fr then (0 : Int) else fr) = (i0 : Int) → cnt = (tq + 1 - (i0 : Int)).toNat → (-100000 ≤ tq ∧ tq ≤ 100000) → (-100000 ≤ fr ∧ fr ≤ 100000) → RokT n r → ∀ (a : Option Addr) (m c : Nat) (sa : Option Addr) (sm sc : Nat) (w : World), RowT n w a m c sa sm sc r → m ≤ 5000 →
  Calls Tryz.prog 131 #[.agg #[.slice a m c, .slice sa sm sc], .int .i64 fr, .int .i64 tq] w fun en w' => (∃ a m c sa sm sc, en = .returned (.agg #[.slice a m c, .slice sa sm sc]) ∧ RowT n w' a m c sa sm sc (tidyT (joinsT n) (joinedT n) cnt r i0)) ∧ w.grownBy w' none
def BoxR (n : Nat) (w : World) (r : RwT (NdT n)) (s8 : Value) (wx : World) : Prop := ∃ G a m c sa sm sc, s8 = .pointer (some ⟨G, 0, none⟩) ∧ wx.heap[G]? = some (.cells #[.slice a m c, .slice sa sm sc] 69 (0, 0)) ∧ RowT n wx a m c sa sm sc r ∧ w.grownBy wx none
theorem box_put {n : Nat} {w w6 : World} {A : Nat} {a : Option Addr} {m c : Nat} {sa : Option Addr} {sm sc : Nat} {r : RwT (NdT n)} (hb : BxT w6 A) (h : RowT n w6 a m c sa sm sc r) (hg : w.grownBy w6 none) (hA : w.heap.size ≤ A) : BoxR n w r (.pointer (some ⟨A, 0, none⟩)) ((w6.setCell ⟨A, 0, none⟩ (.slice a m c)).setCell ⟨A, 1, none⟩ (.slice sa sm sc)) := by
 obtain ⟨k1, k2, k3⟩ := hb.put (.slice a m c) (.slice sa sm sc)
 exact ⟨A, a, m, c, sa, sm, sc, rfl, k1, h.kept k2, grown_new hg k3 hA⟩
set_option maxHeartbeats 16000000 in
set_option maxRecDepth 100000 in
theorem tidied_B {n : Nat} (hJ : JoinsC (n + 1)) (hD : ∀ (r : RwT (NdT (n + 1))) (i : Nat) (x y : NdT (n + 1)) (s : List Int), r.ns[i]? = some x → r.ss[i]? = some s → r.ns[i + 1]? = some y → RokT (n + 1) r → joinsT (n + 1) x s y = true → ∀ (a : Option Addr) (m c : Nat) (sa : Option Addr) (sm sc : Nat) (w : World), RowT (n + 1) w a m c sa sm sc r → m ≤ 5000 →
   Calls Tryz.prog 138 #[.agg #[.slice a m c, .slice sa sm sc], .int .i64 i] w fun en w' => (∃ a m c sa sm sc, en = .returned (.agg #[.slice a m c, .slice sa sm sc]) ∧ RowT (n + 1) w' a m c sa sm sc (joinAt r i (joinedT (n + 1) x s y))) ∧ w.grownBy w' none)
  (r : RwT (NdT (n + 1))) (fr tq : Int) (i0 cnt : Nat) (hi0 : (if (0 : Int) > fr then (0 : Int) else fr) = (i0 : Int)) (hcnt : cnt = (tq + 1 - (i0 : Int)).toNat) (ht : -100000 ≤ tq ∧ tq ≤ 100000) (hf : -100000 ≤ fr ∧ fr ≤ 100000) (hok : RokT (n + 1) r) (a : Option Addr) (m c : Nat) (sa : Option Addr) (sm sc : Nat) (w : World) (hr : RowT (n + 1) w a m c sa sm sc r) (hm : m ≤ 5000) :
  Calls Tryz.prog 131 #[.agg #[.slice a m c, .slice sa sm sc], .int .i64 fr, .int .i64 tq] w fun en w' => (∃ a m c sa sm sc, en = .returned (.agg #[.slice a m c, .slice sa sm sc]) ∧ RowT (n + 1) w' a m c sa sm sc (tidyT (joinsT (n + 1)) (joinedT (n + 1)) cnt r i0)) ∧ w.grownBy w' none := by
 have hmax : ∀ (ts : Array TypeId) (t : TypeId) (W : World), (Builtin.max_ ts t #[.int .i64 fr, .int .i64 0]).run Tryz.prog W = .ok (.int .i64 i0) W := fun ts t W => by rw [run_max_int2, hi0]
 have G1 := hid_intro (grown_al (grown_al (World.grownBy.refl w none) (.cells #[.slice a m c, .slice sa sm sc] 69)) (.cells #[.slice none 0 0, .slice none 0 0] 69))
 have X1 : Hid (TbT (n + 1) ((w.alloc (.cells #[.slice a m c, .slice sa sm sc] 69)).alloc (.cells #[.slice none 0 0, .slice none 0 0] 69)) w.heap.size a m c sa sm sc r) := ⟨heap_old (heap_at0 w _ _), hr.kept (FrT.of G1.out)⟩
 have B1 : Hid (BxT ((w.alloc (.cells #[.slice a m c, .slice sa sm sc] 69)).alloc (.cells #[.slice none 0 0, .slice none 0 0] 69)) (w.heap.size + 1)) := ⟨_, _, heap_at1 w _ _ _⟩
 have ln := hr.ns.len
 have HOK := hid_intro hok
 have hb0 : i0 ≤ 100000 := by split at hi0 <;> omega
 have hme := mB_joins
 have HCN := hid_intro hcnt
 clear hr hi0 hok hcnt
 go_enter Tryz.func131, Tryz.ntmps131
 go_wp2
 generalize (w.alloc (.cells #[.slice a m c, .slice sa sm sc] 69)).alloc (.cells #[.slice none 0 0, .slice none 0 0] 69) = w1 at *
 go_loopw [2, 7] (fun s2 s7 wr => ∃ (q : RwT (NdT (n + 1))) (i k : Nat) (t : Int) (a : Option Addr) (m c : Nat) (sa : Option Addr) (sm sc : Nat), s2 = .int .i64 t ∧ s7 = .int .i64 (i : Nat) ∧ k = (t + 1 - (i : Int)).toNat ∧ i ≤ 200000 ∧ -300000 ≤ t ∧ t ≤ 100000 ∧ (t + 1 - (i : Int)).toNat + i ≤ 200000 ∧ m ≤ 5000 ∧ RokT (n + 1) q ∧ TbT (n + 1) wr w.heap.size a m c sa sm sc q ∧ BxT wr (w.heap.size + 1) ∧ w.grownBy wr none ∧ tidyT (joinsT (n + 1)) (joinedT (n + 1)) k q i = tidyT (joinsT (n + 1)) (joinedT (n + 1)) cnt r i0 ∧ t ≤ tq ∧ tq - t ≤ 200000) (fun s2 s7 _ => (intOf s2 + 1 - intOf s7).toNat)
 case atStart => exact ⟨r, i0, cnt, tq, a, m, c, sa, sm, sc, rfl, rfl, HCN.out, by omega, by omega, by omega, by omega, hm, HOK.out, X1.out, B1.out, G1.out, rfl, by omega, by omega⟩
 case round =>
  obtain ⟨q, i, k, t, a, m, c, sa, sm, sc, rfl, rfl, hk, hi, ht1, ht2, hki, hm, hok, htb, hbx, hg, heq, hto, htd⟩ := hrel
  have ln := htb.row.ns.len
  have ls := htb.row.ss.len
  have HO := hid_intro hok
  have HT := hid_intro htb
  have HB := hid_intro hbx
  have HG := hid_intro hg
  have HE := hid_intro heq
  have e0 := cell_heap (i := 0) htb.box rfl
  have e1 := cell_heap (i := 1) htb.box rfl
  by_cases c1 : (i : Int) ≤ t
  ·by_cases c2 : i + 1 < m
   ·have hsl := hok.sep.len
    obtain ⟨x, h1⟩ : ∃ x, q.ns[i]? = some x := ⟨_, List.getElem?_eq_getElem (by omega)⟩
    obtain ⟨y, h3⟩ : ∃ y, q.ns[i + 1]? = some y := ⟨_, List.getElem?_eq_getElem (by omega)⟩
    obtain ⟨s, h2⟩ : ∃ s, q.ss[i]? = some s := ⟨_, List.getElem?_eq_getElem (by omega)⟩
    obtain ⟨g, off, u1, rfl, d1, hx⟩ := htb.row.ns.node h1
    obtain ⟨g', off', u2, e, d2, hy⟩ := htb.row.ns.node h3
    simp only [Option.some.injEq, Addr.mk.injEq] at e
    obtain ⟨rfl, rfl, _⟩ := e
    obtain ⟨sg, soff, so, sn, sc', rfl, d3, hs⟩ := htb.row.ss.str h2
    obtain ⟨b1, rfl⟩ := hx.atB
    obtain ⟨b2, rfl⟩ := hy.atB
    have JQ : Hid (∀ (W : World), wr.grownBy W none → Calls Tryz.prog 123 #[.pointer (some ⟨b1, 0, none⟩), .slice so sn sc', .iface 114 (.pointer (some ⟨b2, 0, none⟩))] W fun en w' => en = .returned (.bool (joinsT (n + 1) x s y)) ∧ W.grownBy w' none) := (fun (W : World) (h : wr.grownBy W none) => hJ b1 _ x y so sn sc' s W (NodeT.kept _ hx (FrT.of h)) (NodeT.kept _ hy (FrT.of h)) (hok.ok x (List.mem_of_getElem? h1)) (hok.ok y (List.mem_of_getElem? h3)) (hs.kept (FrT.of h)) (hok.vs s (List.mem_of_getElem? h2)))
    have DQ := hid_intro (hD q i x y s h1 h2 h3 hok)
    obtain ⟨k', hk'⟩ : ∃ k', k = k' + 1 := ⟨k - 1, by omega⟩
    have HS := hid_intro (tidy_step (J := joinsT (n + 1)) (D := joinedT (n + 1)) (c := k') h1 h2 h3)
    have RJ := hid_intro (fun hj => rok_joinAt hok h1 h2 h3 hj)
    obtain ⟨j, hj1⟩ : ∃ j, i + 1 = j := ⟨_, rfl⟩
    rw [hj1] at d2
    have v1 : (0 : Int) ≤ (i : Int) ∧ (i : Int) < (m : Int) := by omega
    have v2 : (0 : Int) ≤ (j : Int) ∧ (j : Int) < (m : Int) := by omega
    have v3 : (0 : Int) ≤ (i : Int) ∧ (i : Int) < (sm : Int) := by omega
    have ej : (i : Int) + 1 = (j : Int) := by omega
    have wj : IntKind.i64.wrap (j : Int) = (j : Int) := by rw [IntKind.wrap_i64]; omega
    have T1 := hid_intro (And.intro e0 (And.intro e1 (And.intro d1 (And.intro d2 d3))))
    have c2' : (j : Int) < (m : Int) := by omega
    clear hx hy hs hok htb hbx hg heq h1 h2 h3 d1 d2 d3 hsl
    cases hb : joinsT (n + 1) x s y with
    | true =>
     rw [hb] at JQ HS
     have DQ2 := hid_intro (DQ.out hb)
     have RJ2 := hid_intro (RJ.out hb)
     clear DQ RJ
     go_upto_region 3 with fail
     go_region_held3 (fun w' => w'.cell? ⟨w.heap.size, 0, none⟩ = some (.slice (some ⟨g, off, none⟩) m c) ∧ w'.cell? ⟨w.heap.size, 1, none⟩ = some (.slice (some ⟨sg, soff, none⟩) sm sc) ∧ w'.cell? ⟨g, off + i, none⟩ = some (.iface 114 (.pointer (some ⟨b1, 0, none⟩))) ∧ w'.cell? ⟨g, off + j, none⟩ = some (.iface 114 (.pointer (some ⟨b2, 0, none⟩))) ∧ w'.cell? ⟨sg, soff + i, none⟩ = some (.slice so sn sc')) (first | (with_reducible exact T2) | exact T1.out | go_keep) (first
      | (go_at_call 123; (with_reducible refine (JQ.out _ ((Qt.refl wr).drew.grown none)).mono ?_); rintro en w2 ⟨rfl, hg2⟩; have g9 := grown_trans ((Qt.refl wr).drew.grown none) hg2; have T2 := And.intro (g9.cell T1.out.1 (by simp)) (And.intro (g9.cell T1.out.2.1 (by simp)) (And.intro (g9.cell T1.out.2.2.1 (by simp)) (And.intro (g9.cell T1.out.2.2.2.1 (by simp)) (g9.cell T1.out.2.2.2.2 (by simp)))))))
     all_goals go_wp2_with fail
     all_goals
      refine (DQ2.out _ _ _ _ _ _ w2 (HT.out.keptN g9).row hm).mono ?_
      rintro en w5 ⟨⟨a5, m5, c5, sa5, sm5, sc5, rfl, hr5⟩, hg5⟩
      have g5 := grown_trans g9 hg5
      have B5 : BxT w5 w.heap.size := ⟨_, _, heap_kept HT.out.box g5⟩
      obtain ⟨⟨x1, cx⟩, ⟨y1, cy⟩, z1, z2⟩ := B5.cells
      have BB := hid_intro B5
      have RR := hid_intro hr5
      have GG := hid_intro g5
      have ln5 := hr5.ns.len
      have hjl := joinAt_len (q := q) (i := i) (one := joinedT (n + 1) x s y) (by omega)
      have wt : IntKind.i64.wrap (t - 1) = t - 1 := by rw [IntKind.wrap_i64]; omega
      clear B5 hr5 hg5 T2 hg2 g9 g5
     all_goals go_wp2
     all_goals
      obtain ⟨p1, p2, p3⟩ := BB.out.put (.slice a5 m5 c5) (.slice sa5 sm5 sc5)
      have B6 : BxT ((w5.setCell ⟨w.heap.size, 0, none⟩ (.slice a5 m5 c5)).setCell ⟨w.heap.size, 1, none⟩ (.slice sa5 sm5 sc5)) (w.heap.size + 1) := by
       obtain ⟨u, v, hu⟩ := (HB.out.keptN GG.out).row
       exact ⟨u, v, by rw [p3.block _ (Array.getElem?_eq_some_iff.1 hu).1 (by intro e; have := Option.some.inj e; omega)]; exact hu⟩
      refine ⟨⟨joinAt q i (joinedT (n + 1) x s y), i, k', t - 1, _, _, _, _, _, _, rfl, rfl, by omega, by omega, by omega, by omega, by omega, by omega, RJ2.out, ⟨p1, RR.out.kept p2⟩, B6, grown_new (grown_trans HG.out GG.out) p3 (Nat.le_refl _), ?_, by omega, by omega⟩, by simp [intOf]; omega⟩
      rw [← HE.out, hk', HS.out, if_pos (by simp)]
    | false =>
     rw [hb] at JQ HS
     clear DQ RJ
     go_upto_region 3 with fail
     go_region_held3 (fun w' => w'.cell? ⟨w.heap.size, 0, none⟩ = some (.slice (some ⟨g, off, none⟩) m c) ∧ w'.cell? ⟨w.heap.size, 1, none⟩ = some (.slice (some ⟨sg, soff, none⟩) sm sc) ∧ w'.cell? ⟨g, off + i, none⟩ = some (.iface 114 (.pointer (some ⟨b1, 0, none⟩))) ∧ w'.cell? ⟨g, off + j, none⟩ = some (.iface 114 (.pointer (some ⟨b2, 0, none⟩))) ∧ w'.cell? ⟨sg, soff + i, none⟩ = some (.slice so sn sc')) (first | (with_reducible exact T2) | exact T1.out | go_keep) (first
      | (go_at_call 123; (with_reducible refine (JQ.out _ ((Qt.refl wr).drew.grown none)).mono ?_); rintro en w2 ⟨rfl, hg2⟩; have g9 := grown_trans ((Qt.refl wr).drew.grown none) hg2; have T2 := And.intro (g9.cell T1.out.1 (by simp)) (And.intro (g9.cell T1.out.2.1 (by simp)) (And.intro (g9.cell T1.out.2.2.1 (by simp)) (And.intro (g9.cell T1.out.2.2.2.1 (by simp)) (g9.cell T1.out.2.2.2.2 (by simp)))))))
     all_goals go_wp2
     all_goals
      refine ⟨⟨q, j, k', t, _, _, _, _, _, _, rfl, rfl, by omega, by omega, by omega, by omega, by omega, hm, HO.out, HT.out.keptN g9, HB.out.keptN g9, grown_trans HG.out g9, ?_, hto, htd⟩, by simp [intOf]; omega⟩
      rw [← HE.out, hk', HS.out, if_neg (by simp), hj1]
   ·have l2 : ¬ ((i : Int) + 1 < (m : Int)) := by omega
    have HF := hid_intro (HE.out.symm.trans (tidy_stop (.inr (by omega))))
    clear htb hbx hg heq hok
    obtain ⟨⟨x1, cx⟩, ⟨y1, cy⟩, z1, z2⟩ := HB.out.cells
    go_wp2
    rw [HF.out]
    refine ret_rowG (p := 6) rfl HB.out (by omega) HT.out.row HG.out ?_ ?_ <;> rfl
  ·have l1 : decide ((i : Int) ≤ t) = false := decide_eq_false c1
   have HF := hid_intro (HE.out.symm.trans (tidy_stop (.inl (by omega))))
   clear htb hbx hg heq hok
   obtain ⟨⟨x1, cx⟩, ⟨y1, cy⟩, z1, z2⟩ := HB.out.cells
   go_wp2
   rw [HF.out]
   refine ret_rowG (p := 6) rfl HB.out (by omega) HT.out.row HG.out ?_ ?_ <;> rfl
end Go.Proofs.YtoecgpckkodmcabGreat
