import Derived.Test.YtndanifjommpdaaGreatQ32
import Derived.Test.YtndanifjommpdaaGreatQ40
import Derived.RangeFuncCalls
import Derived.Test.YtndanifjommpdaaGreatQ41
import Derived.WalkKit
import Derived.ProofKit
import Derived.OpenShut
import Derived.ShutString
import Derived.ChangeOld
import Derived.Below
import Derived.SizedLaws
import Derived.Deep.Slices
import Derived.Test.YtndanifjommpdaaGreatRows
namespace Go.Proofs.YtndanifjommpdaaGreat
open Go.RowKit Go.Shelf
attribute [local go_sem] Oper.semAt_some
theorem CgW.takeN {w : World} {a : Option Addr} {C : List CgT} (h : CgW w a C) (k : Nat) : CgW w a (C.take k) := fun i x hx => h i x (by
 rw [List.getElem?_take] at hx
 split at hx
 ·exact hx
 ·cases hx)
theorem results_cellN {fn : Func} {p : Tmp} (h : fn.results = #[.cell p 4]) (tmps : Array Value) (w : World) (g : Nat) (v : Value) (hp : tmps.getD p undef = .pointer (some ⟨g, 0, none⟩)) (hc : w.cell? ⟨g, 0, none⟩ = some v) :
  (results fn tmps).run Tryz.prog w = .ok v w := by
 have hp' : tmps[p]?.getD undef = .pointer (some ⟨g, 0, none⟩) := by simpa using hp
 simp [results, h, hp', asAddr, go_sem, hc]
structure NeT (w15 : World) (n0 m k : Nat) (W : World) : Prop where
 b15 : W.heap[w15.heap.size]? = some (.cells #[.int .i64 (k : Nat)] 3 (0, 0))
 gr : w15.grownBy W none
 sz : m ≤ W.heap.size
 nm : n0 ≤ m
theorem NeT.turn {w15 A B : World} {n0 m k : Nat} {row : Option Nat} (h : NeT w15 n0 m k A) (hg : A.grownBy B row) (hr : ∀ r, row = some r → w15.heap.size ≤ r ∧ ∃ o : Obj, A.heap[r]? = some o ∧ o.isCells = false) : NeT w15 n0 m k B :=
 ⟨CeF.turn hg (fun r e => (hr r e).2) _ _ _ _ h.b15, gr_turn h.gr hg (fun r e => (hr r e).1), Nat.le_trans h.sz hg.size, h.nm⟩
theorem NeT.next {w15 W W' : World} {n0 m k : Nat} (h : NeT w15 n0 m k W) (hb : w15.heap.size < n0) (k1 : Nat) (hg : (W.setCell ⟨w15.heap.size, 0, none⟩ (.int .i64 ((k1 : Nat) : Int))).grownBy W' none) (B : Nat → Prop) :
  KeepsOthers W W' ∧ KpW n0 m B W W' ∧ NeT w15 n0 m k1 W' := by
 have hz := h.sz
 have hn := h.nm
 refine ⟨(KeepsOthers.setCell _ _ _).trans (KeepsOthers.of_grownBy hg (fun j o e => by cases e)), fun b h1 h2 _ => ?_, ⟨?_, grown_trans (gr_set h.gr 0 _ (Nat.le_refl _)) hg, by have := hg.size; simp at this; omega, hn⟩⟩
 ·exact (hg.block b (by simp; omega) (by simp)).trans (Below.heap_setCell _ ⟨w15.heap.size, 0, none⟩ _ b (by show b ≠ w15.heap.size; omega))
 ·have h1 := heap_setCell_same W w15.heap.size 0 _ _ (.int .i64 ((k1 : Nat) : Int)) h.b15
  exact CeF.of hg _ _ _ _ h1
set_option maxHeartbeats 16000000 in
set_option maxRecDepth 100000 in
theorem walkNested_le (a : Option Addr) (n c : Nat) (C : List CgT) (la : Option Addr) (ln lc : Nat) (lo : List Int) (ha : Option Addr) (hn hc : Nat) (hi : List Int) (w : World) (hC : CgW w a C) (hCn : C.length = n) (h60 : n ≤ 60) (hlo : Byt w la ln lc lo) (btl : Bt lo) (hhi : Byt w ha hn hc hi) (bth : Bt hi) :
  Calls Tryz.prog 3 #[.slice a n c, .slice la ln lc, .slice ha hn hc] w fun en w' => en = .returned (.bool true) ∧ w.grownBy w' none := by
 obtain ⟨W0, hW0⟩ : ∃ W0, w.alloc (.cells #[.bool false] 4) = W0 := ⟨_, rfl⟩
 have g0 : w.grownBy W0 none := by rw [← hW0]; exact World.grownBy_alloc _ _ _
 have x6 : W0.heap[w.heap.size]? = some (.cells #[.bool false] 4 (0, 0)) := by rw [← hW0]; exact heap_at0 w _ _
 obtain ⟨B6, hB6⟩ : ∃ B6, w.heap.size = B6 := ⟨_, rfl⟩
 have HB6 := hid_intro hB6
 rw [hB6] at x6
 have HC := hid_intro hC
 have HN := hid_intro hCn
 have HLO := hid_intro hlo
 have HHI := hid_intro hhi
 have F11 := hid_intro (first11 W0)
 clear hC hCn hlo hhi
 refine (callsIn_wide (n := 5)).1 ?_
 refine callsIn_of_wp_marks Tryz.func3 rfl trivial ?_ rfl
 simp only [Tryz.ntmps3, List.size_toArray, List.length_cons, List.length_nil, Nat.reduceAdd, Nat.reduceSub, Array.replicate_succ, Array.replicate_zero, List.push_toArray, List.append_toArray, List.nil_append, List.cons_append]
 gi_wp2
 clear hW0 hB6
 refine ⟨trivial, (callsIn_wide.2 F11.out).mono ?_⟩
 rintro en w1 ⟨rfl, hg1⟩
 have G1 := hid_intro (grown_trans g0 hg1)
 have X6 := heap_kept x6 hg1
 clear hg1 g0 F11 x6
 obtain ⟨C', hC', hN'⟩ : ∃ C', CgW w a C' ∧ C'.length = n := ⟨C, HC.out, HN.out⟩
 have HC' := hid_intro hC'
 have HN' := hid_intro hN'
 clear hC' hN' HC HN
 have z1 : ¬ ((n : Int) > 60) := by omega
 clear h60
 gi_wp2
 refine ⟨trivial, (callsIn_wide.2 (grown_law a _ c C' w1 (HC'.out.cef (CeF.of G1.out)) HN'.out)).mono ?_⟩
 rintro en w2 ⟨p, t, ma, mn, mc, rfl, ht2, hw2, hm2, hg2⟩
 have HT := hid_intro ht2
 have HW := hid_intro hw2
 have HM := hid_intro hm2
 have G2 := hid_intro (grown_trans G1.out hg2)
 have Y6 := hid_intro (heap_kept X6 hg2)
 clear ht2 hw2 hm2 hg2 HC' HN' X6 z1 G1
 gi_wp2
 refine ⟨trivial, (callsIn_wide.2 (short11 la ha ln hn lc hc w2)).mono ?_⟩
 rintro en w3 ⟨rfl, hw⟩
 rw [hw]
 clear hw
 by_cases hs : ln ≤ 1000 ∧ hn ≤ 1000
 ·have e1 : (decide (ln ≤ 1000) && decide (hn ≤ 1000)) = true := by simp [hs.1, hs.2]
  rw [e1]
  obtain ⟨hs1, hs2⟩ := hs
  clear e1
  have KW := hid_intro (HW.out.walk (Nat.le_refl _))
  have HFL := hid_intro HW.out.fl
  have hle := HW.out.le
  have HSR := hid_intro HW.out.srt
  have HVP := hid_intro HW.out.vp
  have hwl := (within_sub (grG C') lo hi).length_le
  generalize grG C' = L at *
  have hml := HM.out.1
  have BL : Hid (∀ q ∈ L, Bt q.key) := fun q hq => (HVP.out q hq).kb
  have RF := hid_intro (refRange11 ma mn mc L la ln lc lo ha hn hc hi w2 HM.out (HLO.out.keptN G2.out) (HHI.out.keptN G2.out) btl bth BL.out HSR.out (by omega))
  gi_wp2
  refine ⟨trivial, (callsIn_wide.2 RF.out).mono ?_⟩
  rintro en w4 ⟨ra, rn, rc, rfl, hg4, hm4⟩
  have hrn : (withinT L lo hi).length = rn := hm4.1
  obtain ⟨w5, hw5⟩ : ∃ w5, w4.alloc (.cells #[.slice ra rn rc] 26) = w5 := ⟨_, rfl⟩
  have g5 : w4.grownBy w5 none := by rw [← hw5]; exact World.grownBy_alloc _ _ _
  have x11 : w5.heap[w4.heap.size]? = some (.cells #[.slice ra rn rc] 26 (0, 0)) := by rw [← hw5]; exact heap_at0 w4 _ _
  obtain ⟨B11, hB11⟩ : ∃ B11, w4.heap.size = B11 := ⟨_, rfl⟩
  rw [hB11] at x11
  have F5 := hid_intro (grown_trans hg4 g5)
  have M5 := hid_intro (hm4.cef (CeF.of g5))
  have G5 := hid_intro (grown_trans G2.out F5.out)
  have RB := hid_intro (refBack11 ma mn mc L la ln lc lo ha hn hc hi w5 (HM.out.cef (CeF.of F5.out)) (HLO.out.keptN G5.out) (HHI.out.keptN G5.out) btl bth BL.out HSR.out (by omega))
  have X11 := hid_intro x11
  clear hm4 hg4 g5 x11 RF
  gi_wp2
  clear hw5 hB11
  refine ⟨trivial, (callsIn_wide.2 RB.out).mono ?_⟩
  rintro en w6 ⟨qa, qn, qc, rfl, hg6, hm6⟩
  have hqn : qn = rn := by have := hm6.1; rw [List.length_reverse, hrn] at this; exact this.symm
  rw [hqn] at hm6 ⊢
  clear hqn
  obtain ⟨w7, hw7⟩ : ∃ w7, w6.alloc (.cells #[.slice qa rn qc] 26) = w7 := ⟨_, rfl⟩
  have g7 : w6.grownBy w7 none := by rw [← hw7]; exact World.grownBy_alloc _ _ _
  have x12 : w7.heap[w6.heap.size]? = some (.cells #[.slice qa rn qc] 26 (0, 0)) := by rw [← hw7]; exact heap_at0 w6 _ _
  obtain ⟨B12, hB12⟩ : ∃ B12, w6.heap.size = B12 := ⟨_, rfl⟩
  rw [hB12] at x12
  have F7 := hid_intro (grown_trans hg6 g7)
  have N7 := hid_intro (hm6.cef (CeF.of g7))
  have G7 := hid_intro (grown_trans G5.out F7.out)
  have R7 := hid_intro (range_any p la ln lc lo ha hn hc hi w7 (HLO.out.keptN G7.out) (HHI.out.keptN G7.out) (by omega) (by omega))
  have X12 := hid_intro x12
  clear hm6 hg6 g7 x12 RB
  gi_wp2
  clear hw7 hB12
  refine ⟨trivial, (callsIn_wide.2 R7.out).mono ?_⟩
  rintro en w8 ⟨A1, A2, A3, rfl, hr8⟩
  obtain ⟨w9, hw9⟩ : ∃ w9, w8.alloc (.cells #[.func (.func 33) #[] #[.pointer (some ⟨A1, 0, none⟩), .pointer (some ⟨A2, 0, none⟩), .pointer (some ⟨A3, 0, none⟩)]] 32) = w9 := ⟨_, rfl⟩
  have g9 : w8.grownBy w9 none := by rw [← hw9]; exact World.grownBy_alloc _ _ _
  have x13 : w9.heap[w8.heap.size]? = some (.cells #[.func (.func 33) #[] #[.pointer (some ⟨A1, 0, none⟩), .pointer (some ⟨A2, 0, none⟩), .pointer (some ⟨A3, 0, none⟩)]] 32 (0, 0)) := by rw [← hw9]; exact heap_at0 w8 _ _
  obtain ⟨B13, hB13⟩ : ∃ B13, w8.heap.size = B13 := ⟨_, rfl⟩
  rw [hB13] at x13
  have F9 := hid_intro (grown_trans hr8.gr g9)
  have KA := hid_intro (hr8.k.grown g9)
  have G9 := hid_intro (grown_trans G7.out F9.out)
  have R9 := hid_intro (back_any p la ln lc lo ha hn hc hi w9 (HLO.out.keptN G9.out) (HHI.out.keptN G9.out) (by omega) (by omega))
  have X13 := hid_intro x13
  clear hr8 g9 x13 R7
  gi_wp2
  clear hw9 hB13
  refine ⟨trivial, (callsIn_wide.2 R9.out).mono ?_⟩
  rintro en w10 ⟨E1, E2, E3, rfl, hr10⟩
  obtain ⟨w11, hw11⟩ : ∃ w11, w10.alloc (.cells #[.func (.func 35) #[] #[.pointer (some ⟨E1, 0, none⟩), .pointer (some ⟨E2, 0, none⟩), .pointer (some ⟨E3, 0, none⟩)]] 32) = w11 := ⟨_, rfl⟩
  have g11 : w10.grownBy w11 none := by rw [← hw11]; exact World.grownBy_alloc _ _ _
  have x14 : w11.heap[w10.heap.size]? = some (.cells #[.func (.func 35) #[] #[.pointer (some ⟨E1, 0, none⟩), .pointer (some ⟨E2, 0, none⟩), .pointer (some ⟨E3, 0, none⟩)]] 32 (0, 0)) := by rw [← hw11]; exact heap_at0 w10 _ _
  obtain ⟨B14, hB14⟩ : ∃ B14, w10.heap.size = B14 := ⟨_, rfl⟩
  rw [hB14] at x14
  have F11 := hid_intro (grown_trans hr10.gr g11)
  have KB := hid_intro (hr10.k.grown g11)
  have G11 := hid_intro (grown_trans G9.out F11.out)
  have Y13 := hid_intro (heap_kept X13.out F11.out)
  have d13 := cell_heap (i := 0) Y13.out rfl
  have d14 := cell_heap (i := 0) x14 rfl
  have X14 := hid_intro x14
  obtain ⟨w12, hw12⟩ : ∃ w12, w11.alloc (.cells #[.int .i64 ((0 : Nat) : Int)] 3) = w12 := ⟨_, rfl⟩
  have g12 : w11.grownBy w12 none := by rw [← hw12]; exact World.grownBy_alloc _ _ _
  have x15 : w12.heap[w11.heap.size]? = some (.cells #[.int .i64 ((0 : Nat) : Int)] 3 (0, 0)) := by rw [← hw12]; exact heap_at0 w11 _ _
  have hz12 : w12.heap.size = w11.heap.size + 1 := by rw [← hw12]; simp
  have e13 := (World.grownBy_alloc w11 (.cells #[.int .i64 0] 3) none).cell d13 (by simp)
  have HNF := eql_nilf 33 #[.pointer (some ⟨A1, 0, none⟩), .pointer (some ⟨A2, 0, none⟩), .pointer (some ⟨A3, 0, none⟩)]
  have HNG := eql_nilf 35 #[.pointer (some ⟨E1, 0, none⟩), .pointer (some ⟨E2, 0, none⟩), .pointer (some ⟨E3, 0, none⟩)]
  have HW12 : Hid (w11.alloc (.cells #[.int .i64 0] 3) = w12) := hw12
  clear hr10 g11 x14 R9 hw12
  gi_wp2
  rw [HW12.out]
  clear hw11 hB14 HW12 HNF HNG
  have Z11 := hid_intro (heap_kept X11.out (grown_trans F7.out (grown_trans F9.out F11.out)))
  have Z13 := hid_intro (heap_kept X13.out F11.out)
  have Z12 := hid_intro (heap_kept X12.out (grown_trans F9.out F11.out))
  have Z6 := hid_intro (heap_kept Y6.out (grown_trans F5.out (grown_trans F7.out (grown_trans F9.out F11.out))))
  have MU := hid_intro (M5.out.cef (CeF.of (grown_trans F7.out (grown_trans F9.out F11.out))))
  have MV := hid_intro (N7.out.cef (CeF.of (grown_trans F9.out F11.out)))
  have KA11 := hid_intro (KA.out.grown F11.out)
  have T11 := hid_intro (HT.out.kept (FrT.of (grown_trans F5.out (grown_trans F7.out (grown_trans F9.out F11.out)))))
  have HGW := hid_intro HW.out
  obtain ⟨a2, c2, y2, b2⟩ := (KA11.out.grown g12).k2
  obtain ⟨a3, c3, y3, b3⟩ := (KA11.out.grown g12).k3
  have SQ := range1_seq 4 t p A1 A2 A3 a2 ln c2 lo a3 hn c3 hi w12 (KA11.out.grown g12).k1 y2 y3 (T11.out.kept (FrT.of g12)) KW.out b2 btl b3 bth
  rw [HFL.out] at SQ
  clear y2 y3 b2 b3 X11 X12 X13 Y6 M5 N7 KA HT F5 F7 F9 F11 G5 G7 G9 Y13 d13 d14 e13
  refine range_walk (n := 5) rfl (by decide) (gf := 33) (lb := #[.pointer (some ⟨A1, 0, none⟩), .pointer (some ⟨A2, 0, none⟩), .pointer (some ⟨A3, 0, none⟩)]) rfl trivial (enters_of Tryz.func33 (by kernel_rfl) rfl) SQ px_kept (Below.refl _ _) (fun _ => rfl)
   (fun m pre W => NeT w11 (w12.heap.size + 2) m pre.length W)
   (fun _ _ _ _ => False)
   (fun m pre A B row h hg hr => h.turn hg (fun r e => ⟨by have := (hr r e).1; omega, (hr r e).2⟩))
   (fun cd m pre A B row h hg hr => h)
   (fun m W2 hg hm hz => ⟨CeF.of hg _ _ _ _ x15, grown_trans g12 hg, by omega, hm⟩)
   ?a1 ?assign ?body ?done ?stop
  case assign =>
   intro l x W K hK
   simp only [encP]
   gi_wp2
   exact hK
  case body =>
   rintro l m pre ⟨kv, vv, pr⟩ W hT hm hpx hlt hsp
   obtain ⟨k, hk⟩ : ∃ k, pre.length = k := ⟨_, rfl⟩
   have HPL : Hid ((pre ++ [((kv, vv, pr) : PgT)]).length = k + 1) := by show _ = _; simp [hk]
   have hUk : (withinT L lo hi)[k]? = some pr := by
    obtain ⟨r, hr⟩ := hsp
    rw [← hr, List.map_append, List.append_assoc, List.getElem?_append_right (by simp [hk])]
    simp [hk]
   have hkr : k < rn := by have := (List.getElem?_eq_some_iff.1 hUk).1; omega
   rw [hk] at hT
   obtain ⟨lo', hi', _, _, hpv⟩ := hpx
   obtain ⟨ka, kc, va, vc, e, hbk, hbv⟩ := pv_bp hpv
   injection e with e1 e2
   injection e2 with e2 _
   simp only at e1 e2 hbk hbv
   subst e1 e2
   obtain ⟨b1, off1, ka1, kc1, va1, vc1, ea, q1, q2, q3, q5⟩ := (MU.out.cef (CeF.of hT.gr)).get hUk
   subst ea
   have d15 := cell_heap (i := 0) hT.b15 rfl
   have z15 := frozen_of_row W w11.heap.size 0 _ _ hT.b15
   have c11 := cell_heap (i := 0) (heap_kept Z11.out hT.gr) rfl
   have i1 : ¬ ((rn : Int) ≤ (k : Int)) := by omega
   have i2 : (k : Int) < (rn : Int) := by omega
   have i3 : (0 : Int) ≤ (k : Int) := by omega
   have hrb : rn ≤ 400 := by omega
   obtain ⟨k1, hk1⟩ : ∃ k1, k + 1 = k1 := ⟨_, rfl⟩
   have v1 : (k : Int) + 1 = (k1 : Int) := by omega
   have v2 : IntKind.i64.wrap (k1 : Int) = (k1 : Int) := by rw [IntKind.wrap_i64]; omega
   have SA := hid_intro (same_yes ka ka1 _ _ kc kc1 pr.key pr.key W hbk q3 rfl)
   have SB := hid_intro (same_yes va va1 _ _ vc vc1 pr.val pr.val W hbv q5 rfl)
   have HT9 := hid_intro hT
   have HK1 := hid_intro hk1
   clear hk hUk hpv hbk hbv q3 q5 hsp hlt hk1 hT
   generalize pr.key.length = kl at *
   generalize pr.val.length = vl at *
   have HPK : Hid ((pre ++ [((.slice ka kl kc, .slice va vl vc, pr) : PgT)]).length = k1) := HPL.out.trans HK1.out
   obtain ⟨W1, hW1⟩ : ∃ W1, W.setCell ⟨w11.heap.size, 0, none⟩ (.int .i64 (k1 : Int)) = W1 := ⟨_, rfl⟩
   have g1 : w11.grownBy W1 none := by rw [← hW1]; exact gr_set HT9.out.gr 0 _ (Nat.le_refl _)
   have FIN : Hid (∀ W', W1.grownBy W' none → KeepsOthers W W' ∧ KpW (w12.heap.size + 2) m (blkP (.slice ka kl kc, .slice va vl vc, pr)) W W' ∧ NeT w11 (w12.heap.size + 2) m (pre ++ [((.slice ka kl kc, .slice va vl vc, pr) : PgT)]).length W') := fun W' hg => by
    rw [HPK.out]
    rw [← hW1] at hg
    exact HT9.out.next (by omega) k1 hg _
   have b15 : W1.heap[w11.heap.size]? = some (.cells #[.int .i64 (k1 : Int)] 3 (0, 0)) := by rw [← hW1]; exact heap_setCell_same W w11.heap.size 0 _ _ (.int .i64 (k1 : Int)) HT9.out.b15
   have e15 := cell_heap (i := 0) b15 rfl
   obtain ⟨r5, hr5⟩ : ∃ r5, k1 % 5 = r5 := ⟨_, rfl⟩
   have v5 : Int.tmod (k1 : Int) 5 = (r5 : Int) := by rw [← hr5]; rfl
   have v6 : (k1 : Int) % 5 = (r5 : Int) := by omega
   have hr6 : r5 < 5 := by omega
   have v7 : IntKind.i64.wrap (r5 : Int) = (r5 : Int) := by rw [IntKind.wrap_i64]; omega
   clear HPL HK1 hr5 b15
   gi_wp2
   refine ⟨trivial, (CallsIn.inRound l (callsIn_wide.2 SA.out)).mono ?_⟩
   rintro en W9 ⟨rfl, hw⟩
   rw [hw]
   clear hw SA
   gi_wp2
   refine ⟨trivial, (CallsIn.inRound l (callsIn_wide.2 SB.out)).mono ?_⟩
   rintro en W9 ⟨rfl, hw⟩
   rw [hw]
   clear hw SB
   by_cases h5 : r5 = 1
   ·have v8 : ((r5 : Int) == 1) = true := by rw [beq_iff_eq]; omega
    obtain ⟨rn1, hrn1⟩ : ∃ rn1, rn + 1 = rn1 := ⟨_, rfl⟩
    have u1 : (rn : Int) + 1 = (rn1 : Int) := by omega
    have u2 : IntKind.i64.wrap (rn1 : Int) = (rn1 : Int) := by rw [IntKind.wrap_i64]; omega
    have GA := hid_intro (rangeK HGW.out (KA11.out.grown g1) (T11.out.kept (FrT.of g1)) btl bth rn1 (by omega) (by omega))
    have hta : (withinT L lo hi).take rn1 = withinT L lo hi := List.take_of_length_le (by omega)
    have htb : (withinT L lo hi).reverse.take rn1 = (withinT L lo hi).reverse := List.take_of_length_le (by rw [List.length_reverse]; omega)
    rw [hta] at GA
    have f11 := cell_heap (i := 0) (heap_kept Z11.out g1) rfl
    have f13 := cell_heap (i := 0) (heap_kept Z13.out g1) rfl
    have HRN := hid_intro hrn
    have H1 := hid_intro hrn1
    clear h5 hta hrn1
    gi_wp2
    clear hW1
    refine ⟨trivial, (CallsIn.inRound l (callsIn_wide.2 GA.out)).mono ?_⟩
    rintro en W2 ⟨xa, xk, xc, rfl, hm2, hg2⟩
    have hxk : xk = rn := hm2.1.symm.trans HRN.out
    rw [hxk] at hm2 ⊢
    have g2 := grown_trans g1 hg2
    have GB := hid_intro (backK HGW.out (KB.out.grown g2) (T11.out.kept (FrT.of g2)) btl bth rn1 (by have := H1.out; omega) (by have := H1.out; omega))
    rw [htb] at GB
    have p11 := hg2.cell f11 (by simp)
    have p14 := cell_heap (i := 0) (heap_kept X14.out g2) rfl
    have N2 := hid_intro hm2
    have J2 := hid_intro hg2
    clear hxk hm2 hg2 GA f11 f13 htb
    gi_wp2
    refine ⟨trivial, (CallsIn.inRound l (callsIn_wide.2 GB.out)).mono ?_⟩
    rintro en W3 ⟨ya, yk, yc, rfl, hm3, hg3⟩
    have hyk : yk = rn := by have := hm3.1; rw [List.length_reverse, HRN.out] at this; exact this.symm
    rw [hyk] at hm3 ⊢
    have g3 := grown_trans g2 hg3
    have s11 := hg3.cell p11 (by simp)
    have SP := hid_intro (samePairs11 xa (some ⟨b1, off1, none⟩) rn xc rc (withinT L lo hi) W3 (N2.out.cef (CeF.of hg3)) (MU.out.cef (CeF.of g3)) (by omega))
    have J3 := hid_intro (grown_trans J2.out hg3)
    have N3 := hid_intro hm3
    clear hyk hm3 hg3 GB p11 p14 N2 J2 g2
    gi_wp2
    refine ⟨trivial, (CallsIn.inRound l (callsIn_wide.2 SP.out)).mono ?_⟩
    rintro en W4 ⟨rfl, hg4⟩
    have g4 := grown_trans g3 hg4
    have t12 := cell_heap (i := 0) (heap_kept Z12.out g4) rfl
    have SQ2 := hid_intro (samePairs11 ya qa rn yc qc (withinT L lo hi).reverse W4 (N3.out.cef (CeF.of hg4)) (MV.out.cef (CeF.of g4)) (by omega))
    have J4 := hid_intro (grown_trans J3.out hg4)
    clear hg4 SP N3 J3 g3 s11
    gi_wp2
    refine ⟨trivial, (CallsIn.inRound l (callsIn_wide.2 SQ2.out)).mono ?_⟩
    rintro en W5 ⟨rfl, hg5⟩
    have FF := hid_intro (FIN.out W5 (grown_trans J4.out hg5))
    clear hg5 SQ2
    gi_wp2
    exact FF.out
   ·have v8 : ((r5 : Int) == 1) = false := by rw [beq_eq_false_iff_ne]; omega
    have FF := hid_intro (FIN.out W1 (World.grownBy.refl _ _))
    clear h5
    gi_wp2
    exact FF.out
  case done =>
   rintro D m xs W hD hSx hT hK
   have hxl : xs.length = rn := by rw [← hrn, ← hSx, List.length_map]
   rw [hxl] at hT
   have d15 := cell_heap (i := 0) hT.b15 rfl
   have c11 := cell_heap (i := 0) (heap_kept Z11.out hT.gr) rfl
   have y6 := heap_kept Z6.out hT.gr
   have d6 := cell_heap (i := 0) y6 rfl
   have z6 := frozen_of_row W B6 0 _ _ y6
   have k1 : ((rn : Int) == (rn : Int)) = true := by simp
   have hK' := (KeepsOthers.setCell W ⟨B6, 0, none⟩ (.bool true)).same D _ hK rfl
   have ct := CeF.turn (grownBy_putObj' (W.setCell ⟨B6, 0, none⟩ (.bool true)) D (.deferred none)) (fun r e => by cases e; exact ⟨_, hK', rfl⟩)
   have h6 := heap_setCell_same W B6 0 _ _ (.bool true) y6
   have HG9 : Hid (w.grownBy ((W.setCell ⟨B6, 0, none⟩ (.bool true)).putObj D (.deferred none)) none) := by
    have hb := HB6.out
    have hz := G11.out.size
    exact gr_put (gr_set (grown_trans G11.out hT.gr) 0 _ (by omega)) _ (by omega)
   gi_wp2
   refine ⟨by simp, .inl ⟨_, _, rfl, run_takeDeferred hK', ?_⟩⟩
   exact ⟨_, results_cellN rfl _ _ B6 _ rfl (cell_heap (ct _ _ _ _ h6) rfl), rfl, HG9.out⟩
  case stop =>
   rintro D m cd pre W hD hSp hF hK
   exact hF.elim
 ·have e1 : (decide (ln ≤ 1000) && decide (hn ≤ 1000)) = false := by
   cases h : (decide (ln ≤ 1000) && decide (hn ≤ 1000)) with
   | false => rfl
   | true => simp at h; exact absurd h hs
  rw [e1]
  clear hs e1
  have d6 := cell_heap (i := 0) Y6.out rfl
  have z6 := frozen_of_row w2 B6 0 _ _ Y6.out
  have h6 := heap_setCell_same w2 B6 0 _ _ (.bool true) Y6.out
  have HG9 : Hid (w.grownBy (w2.setCell ⟨B6, 0, none⟩ (.bool true)) none) := gr_set G2.out 0 _ (by have := HB6.out; omega)
  gi_wp2
  exact ⟨_, results_cellN rfl _ _ B6 _ rfl (cell_heap h6 rfl), rfl, HG9.out⟩
set_option maxHeartbeats 16000000 in
set_option maxRecDepth 100000 in
theorem walkNested_gt (a : Option Addr) (n c : Nat) (C : List CgT) (la : Option Addr) (ln lc : Nat) (lo : List Int) (ha : Option Addr) (hn hc : Nat) (hi : List Int) (w : World) (hC : CgW w a C) (hCn : C.length = n) (hnc : n ≤ c) (h60 : 60 < n) (hlo : Byt w la ln lc lo) (btl : Bt lo) (hhi : Byt w ha hn hc hi) (bth : Bt hi) :
  Calls Tryz.prog 3 #[.slice a n c, .slice la ln lc, .slice ha hn hc] w fun en w' => en = .returned (.bool true) ∧ w.grownBy w' none := by
 obtain ⟨W0, hW0⟩ : ∃ W0, w.alloc (.cells #[.bool false] 4) = W0 := ⟨_, rfl⟩
 have g0 : w.grownBy W0 none := by rw [← hW0]; exact World.grownBy_alloc _ _ _
 have x6 : W0.heap[w.heap.size]? = some (.cells #[.bool false] 4 (0, 0)) := by rw [← hW0]; exact heap_at0 w _ _
 obtain ⟨B6, hB6⟩ : ∃ B6, w.heap.size = B6 := ⟨_, rfl⟩
 have HB6 := hid_intro hB6
 rw [hB6] at x6
 have HC := hid_intro hC
 have HN := hid_intro hCn
 have HLO := hid_intro hlo
 have HHI := hid_intro hhi
 have F11 := hid_intro (first11 W0)
 clear hC hCn hlo hhi
 refine (callsIn_wide (n := 5)).1 ?_
 refine callsIn_of_wp_marks Tryz.func3 rfl trivial ?_ rfl
 simp only [Tryz.ntmps3, List.size_toArray, List.length_cons, List.length_nil, Nat.reduceAdd, Nat.reduceSub, Array.replicate_succ, Array.replicate_zero, List.push_toArray, List.append_toArray, List.nil_append, List.cons_append]
 gi_wp2
 clear hW0 hB6
 refine ⟨trivial, (callsIn_wide.2 F11.out).mono ?_⟩
 rintro en w1 ⟨rfl, hg1⟩
 have G1 := hid_intro (grown_trans g0 hg1)
 have X6 := heap_kept x6 hg1
 clear hg1 g0 F11 x6
 obtain ⟨C', hC', hN'⟩ : ∃ C', CgW w a C' ∧ C'.length = 60 := ⟨C.take 60, HC.out.takeN 60, by rw [List.length_take, HN.out]; omega⟩
 have HC' := hid_intro hC'
 have HN' := hid_intro hN'
 clear hC' hN' HC HN
 have z1 : (n : Int) > 60 := by omega
 have z2 : (60 : Int) ≤ (c : Int) := by omega
 clear h60
 gi_wp2
 clear z2
 refine ⟨trivial, (callsIn_wide.2 (grown_law a _ c C' w1 (HC'.out.cef (CeF.of G1.out)) HN'.out)).mono ?_⟩
 rintro en w2 ⟨p, t, ma, mn, mc, rfl, ht2, hw2, hm2, hg2⟩
 have HT := hid_intro ht2
 have HW := hid_intro hw2
 have HM := hid_intro hm2
 have G2 := hid_intro (grown_trans G1.out hg2)
 have Y6 := hid_intro (heap_kept X6 hg2)
 clear ht2 hw2 hm2 hg2 HC' HN' X6 z1 G1
 gi_wp2
 refine ⟨trivial, (callsIn_wide.2 (short11 la ha ln hn lc hc w2)).mono ?_⟩
 rintro en w3 ⟨rfl, hw⟩
 rw [hw]
 clear hw
 by_cases hs : ln ≤ 1000 ∧ hn ≤ 1000
 ·have e1 : (decide (ln ≤ 1000) && decide (hn ≤ 1000)) = true := by simp [hs.1, hs.2]
  rw [e1]
  obtain ⟨hs1, hs2⟩ := hs
  clear e1
  have KW := hid_intro (HW.out.walk (Nat.le_refl _))
  have HFL := hid_intro HW.out.fl
  have hle := HW.out.le
  have HSR := hid_intro HW.out.srt
  have HVP := hid_intro HW.out.vp
  have hwl := (within_sub (grG C') lo hi).length_le
  generalize grG C' = L at *
  have hml := HM.out.1
  have BL : Hid (∀ q ∈ L, Bt q.key) := fun q hq => (HVP.out q hq).kb
  have RF := hid_intro (refRange11 ma mn mc L la ln lc lo ha hn hc hi w2 HM.out (HLO.out.keptN G2.out) (HHI.out.keptN G2.out) btl bth BL.out HSR.out (by omega))
  gi_wp2
  refine ⟨trivial, (callsIn_wide.2 RF.out).mono ?_⟩
  rintro en w4 ⟨ra, rn, rc, rfl, hg4, hm4⟩
  have hrn : (withinT L lo hi).length = rn := hm4.1
  obtain ⟨w5, hw5⟩ : ∃ w5, w4.alloc (.cells #[.slice ra rn rc] 26) = w5 := ⟨_, rfl⟩
  have g5 : w4.grownBy w5 none := by rw [← hw5]; exact World.grownBy_alloc _ _ _
  have x11 : w5.heap[w4.heap.size]? = some (.cells #[.slice ra rn rc] 26 (0, 0)) := by rw [← hw5]; exact heap_at0 w4 _ _
  obtain ⟨B11, hB11⟩ : ∃ B11, w4.heap.size = B11 := ⟨_, rfl⟩
  rw [hB11] at x11
  have F5 := hid_intro (grown_trans hg4 g5)
  have M5 := hid_intro (hm4.cef (CeF.of g5))
  have G5 := hid_intro (grown_trans G2.out F5.out)
  have RB := hid_intro (refBack11 ma mn mc L la ln lc lo ha hn hc hi w5 (HM.out.cef (CeF.of F5.out)) (HLO.out.keptN G5.out) (HHI.out.keptN G5.out) btl bth BL.out HSR.out (by omega))
  have X11 := hid_intro x11
  clear hm4 hg4 g5 x11 RF
  gi_wp2
  clear hw5 hB11
  refine ⟨trivial, (callsIn_wide.2 RB.out).mono ?_⟩
  rintro en w6 ⟨qa, qn, qc, rfl, hg6, hm6⟩
  have hqn : qn = rn := by have := hm6.1; rw [List.length_reverse, hrn] at this; exact this.symm
  rw [hqn] at hm6 ⊢
  clear hqn
  obtain ⟨w7, hw7⟩ : ∃ w7, w6.alloc (.cells #[.slice qa rn qc] 26) = w7 := ⟨_, rfl⟩
  have g7 : w6.grownBy w7 none := by rw [← hw7]; exact World.grownBy_alloc _ _ _
  have x12 : w7.heap[w6.heap.size]? = some (.cells #[.slice qa rn qc] 26 (0, 0)) := by rw [← hw7]; exact heap_at0 w6 _ _
  obtain ⟨B12, hB12⟩ : ∃ B12, w6.heap.size = B12 := ⟨_, rfl⟩
  rw [hB12] at x12
  have F7 := hid_intro (grown_trans hg6 g7)
  have N7 := hid_intro (hm6.cef (CeF.of g7))
  have G7 := hid_intro (grown_trans G5.out F7.out)
  have R7 := hid_intro (range_any p la ln lc lo ha hn hc hi w7 (HLO.out.keptN G7.out) (HHI.out.keptN G7.out) (by omega) (by omega))
  have X12 := hid_intro x12
  clear hm6 hg6 g7 x12 RB
  gi_wp2
  clear hw7 hB12
  refine ⟨trivial, (callsIn_wide.2 R7.out).mono ?_⟩
  rintro en w8 ⟨A1, A2, A3, rfl, hr8⟩
  obtain ⟨w9, hw9⟩ : ∃ w9, w8.alloc (.cells #[.func (.func 33) #[] #[.pointer (some ⟨A1, 0, none⟩), .pointer (some ⟨A2, 0, none⟩), .pointer (some ⟨A3, 0, none⟩)]] 32) = w9 := ⟨_, rfl⟩
  have g9 : w8.grownBy w9 none := by rw [← hw9]; exact World.grownBy_alloc _ _ _
  have x13 : w9.heap[w8.heap.size]? = some (.cells #[.func (.func 33) #[] #[.pointer (some ⟨A1, 0, none⟩), .pointer (some ⟨A2, 0, none⟩), .pointer (some ⟨A3, 0, none⟩)]] 32 (0, 0)) := by rw [← hw9]; exact heap_at0 w8 _ _
  obtain ⟨B13, hB13⟩ : ∃ B13, w8.heap.size = B13 := ⟨_, rfl⟩
  rw [hB13] at x13
  have F9 := hid_intro (grown_trans hr8.gr g9)
  have KA := hid_intro (hr8.k.grown g9)
  have G9 := hid_intro (grown_trans G7.out F9.out)
  have R9 := hid_intro (back_any p la ln lc lo ha hn hc hi w9 (HLO.out.keptN G9.out) (HHI.out.keptN G9.out) (by omega) (by omega))
  have X13 := hid_intro x13
  clear hr8 g9 x13 R7
  gi_wp2
  clear hw9 hB13
  refine ⟨trivial, (callsIn_wide.2 R9.out).mono ?_⟩
  rintro en w10 ⟨E1, E2, E3, rfl, hr10⟩
  obtain ⟨w11, hw11⟩ : ∃ w11, w10.alloc (.cells #[.func (.func 35) #[] #[.pointer (some ⟨E1, 0, none⟩), .pointer (some ⟨E2, 0, none⟩), .pointer (some ⟨E3, 0, none⟩)]] 32) = w11 := ⟨_, rfl⟩
  have g11 : w10.grownBy w11 none := by rw [← hw11]; exact World.grownBy_alloc _ _ _
  have x14 : w11.heap[w10.heap.size]? = some (.cells #[.func (.func 35) #[] #[.pointer (some ⟨E1, 0, none⟩), .pointer (some ⟨E2, 0, none⟩), .pointer (some ⟨E3, 0, none⟩)]] 32 (0, 0)) := by rw [← hw11]; exact heap_at0 w10 _ _
  obtain ⟨B14, hB14⟩ : ∃ B14, w10.heap.size = B14 := ⟨_, rfl⟩
  rw [hB14] at x14
  have F11 := hid_intro (grown_trans hr10.gr g11)
  have KB := hid_intro (hr10.k.grown g11)
  have G11 := hid_intro (grown_trans G9.out F11.out)
  have Y13 := hid_intro (heap_kept X13.out F11.out)
  have d13 := cell_heap (i := 0) Y13.out rfl
  have d14 := cell_heap (i := 0) x14 rfl
  have X14 := hid_intro x14
  obtain ⟨w12, hw12⟩ : ∃ w12, w11.alloc (.cells #[.int .i64 ((0 : Nat) : Int)] 3) = w12 := ⟨_, rfl⟩
  have g12 : w11.grownBy w12 none := by rw [← hw12]; exact World.grownBy_alloc _ _ _
  have x15 : w12.heap[w11.heap.size]? = some (.cells #[.int .i64 ((0 : Nat) : Int)] 3 (0, 0)) := by rw [← hw12]; exact heap_at0 w11 _ _
  have hz12 : w12.heap.size = w11.heap.size + 1 := by rw [← hw12]; simp
  have e13 := (World.grownBy_alloc w11 (.cells #[.int .i64 0] 3) none).cell d13 (by simp)
  have HNF := eql_nilf 33 #[.pointer (some ⟨A1, 0, none⟩), .pointer (some ⟨A2, 0, none⟩), .pointer (some ⟨A3, 0, none⟩)]
  have HNG := eql_nilf 35 #[.pointer (some ⟨E1, 0, none⟩), .pointer (some ⟨E2, 0, none⟩), .pointer (some ⟨E3, 0, none⟩)]
  have HW12 : Hid (w11.alloc (.cells #[.int .i64 0] 3) = w12) := hw12
  clear hr10 g11 x14 R9 hw12
  gi_wp2
  rw [HW12.out]
  clear hw11 hB14 HW12 HNF HNG
  have Z11 := hid_intro (heap_kept X11.out (grown_trans F7.out (grown_trans F9.out F11.out)))
  have Z13 := hid_intro (heap_kept X13.out F11.out)
  have Z12 := hid_intro (heap_kept X12.out (grown_trans F9.out F11.out))
  have Z6 := hid_intro (heap_kept Y6.out (grown_trans F5.out (grown_trans F7.out (grown_trans F9.out F11.out))))
  have MU := hid_intro (M5.out.cef (CeF.of (grown_trans F7.out (grown_trans F9.out F11.out))))
  have MV := hid_intro (N7.out.cef (CeF.of (grown_trans F9.out F11.out)))
  have KA11 := hid_intro (KA.out.grown F11.out)
  have T11 := hid_intro (HT.out.kept (FrT.of (grown_trans F5.out (grown_trans F7.out (grown_trans F9.out F11.out)))))
  have HGW := hid_intro HW.out
  obtain ⟨a2, c2, y2, b2⟩ := (KA11.out.grown g12).k2
  obtain ⟨a3, c3, y3, b3⟩ := (KA11.out.grown g12).k3
  have SQ := range1_seq 4 t p A1 A2 A3 a2 ln c2 lo a3 hn c3 hi w12 (KA11.out.grown g12).k1 y2 y3 (T11.out.kept (FrT.of g12)) KW.out b2 btl b3 bth
  rw [HFL.out] at SQ
  clear y2 y3 b2 b3 X11 X12 X13 Y6 M5 N7 KA HT F5 F7 F9 F11 G5 G7 G9 Y13 d13 d14 e13
  refine range_walk (n := 5) rfl (by decide) (gf := 33) (lb := #[.pointer (some ⟨A1, 0, none⟩), .pointer (some ⟨A2, 0, none⟩), .pointer (some ⟨A3, 0, none⟩)]) rfl trivial (enters_of Tryz.func33 (by kernel_rfl) rfl) SQ px_kept (Below.refl _ _) (fun _ => rfl)
   (fun m pre W => NeT w11 (w12.heap.size + 2) m pre.length W)
   (fun _ _ _ _ => False)
   (fun m pre A B row h hg hr => h.turn hg (fun r e => ⟨by have := (hr r e).1; omega, (hr r e).2⟩))
   (fun cd m pre A B row h hg hr => h)
   (fun m W2 hg hm hz => ⟨CeF.of hg _ _ _ _ x15, grown_trans g12 hg, by omega, hm⟩)
   ?a1 ?assign ?body ?done ?stop
  case assign =>
   intro l x W K hK
   simp only [encP]
   gi_wp2
   exact hK
  case body =>
   rintro l m pre ⟨kv, vv, pr⟩ W hT hm hpx hlt hsp
   obtain ⟨k, hk⟩ : ∃ k, pre.length = k := ⟨_, rfl⟩
   have HPL : Hid ((pre ++ [((kv, vv, pr) : PgT)]).length = k + 1) := by show _ = _; simp [hk]
   have hUk : (withinT L lo hi)[k]? = some pr := by
    obtain ⟨r, hr⟩ := hsp
    rw [← hr, List.map_append, List.append_assoc, List.getElem?_append_right (by simp [hk])]
    simp [hk]
   have hkr : k < rn := by have := (List.getElem?_eq_some_iff.1 hUk).1; omega
   rw [hk] at hT
   obtain ⟨lo', hi', _, _, hpv⟩ := hpx
   obtain ⟨ka, kc, va, vc, e, hbk, hbv⟩ := pv_bp hpv
   injection e with e1 e2
   injection e2 with e2 _
   simp only at e1 e2 hbk hbv
   subst e1 e2
   obtain ⟨b1, off1, ka1, kc1, va1, vc1, ea, q1, q2, q3, q5⟩ := (MU.out.cef (CeF.of hT.gr)).get hUk
   subst ea
   have d15 := cell_heap (i := 0) hT.b15 rfl
   have z15 := frozen_of_row W w11.heap.size 0 _ _ hT.b15
   have c11 := cell_heap (i := 0) (heap_kept Z11.out hT.gr) rfl
   have i1 : ¬ ((rn : Int) ≤ (k : Int)) := by omega
   have i2 : (k : Int) < (rn : Int) := by omega
   have i3 : (0 : Int) ≤ (k : Int) := by omega
   have hrb : rn ≤ 400 := by omega
   obtain ⟨k1, hk1⟩ : ∃ k1, k + 1 = k1 := ⟨_, rfl⟩
   have v1 : (k : Int) + 1 = (k1 : Int) := by omega
   have v2 : IntKind.i64.wrap (k1 : Int) = (k1 : Int) := by rw [IntKind.wrap_i64]; omega
   have SA := hid_intro (same_yes ka ka1 _ _ kc kc1 pr.key pr.key W hbk q3 rfl)
   have SB := hid_intro (same_yes va va1 _ _ vc vc1 pr.val pr.val W hbv q5 rfl)
   have HT9 := hid_intro hT
   have HK1 := hid_intro hk1
   clear hk hUk hpv hbk hbv q3 q5 hsp hlt hk1 hT
   generalize pr.key.length = kl at *
   generalize pr.val.length = vl at *
   have HPK : Hid ((pre ++ [((.slice ka kl kc, .slice va vl vc, pr) : PgT)]).length = k1) := HPL.out.trans HK1.out
   obtain ⟨W1, hW1⟩ : ∃ W1, W.setCell ⟨w11.heap.size, 0, none⟩ (.int .i64 (k1 : Int)) = W1 := ⟨_, rfl⟩
   have g1 : w11.grownBy W1 none := by rw [← hW1]; exact gr_set HT9.out.gr 0 _ (Nat.le_refl _)
   have FIN : Hid (∀ W', W1.grownBy W' none → KeepsOthers W W' ∧ KpW (w12.heap.size + 2) m (blkP (.slice ka kl kc, .slice va vl vc, pr)) W W' ∧ NeT w11 (w12.heap.size + 2) m (pre ++ [((.slice ka kl kc, .slice va vl vc, pr) : PgT)]).length W') := fun W' hg => by
    rw [HPK.out]
    rw [← hW1] at hg
    exact HT9.out.next (by omega) k1 hg _
   have b15 : W1.heap[w11.heap.size]? = some (.cells #[.int .i64 (k1 : Int)] 3 (0, 0)) := by rw [← hW1]; exact heap_setCell_same W w11.heap.size 0 _ _ (.int .i64 (k1 : Int)) HT9.out.b15
   have e15 := cell_heap (i := 0) b15 rfl
   obtain ⟨r5, hr5⟩ : ∃ r5, k1 % 5 = r5 := ⟨_, rfl⟩
   have v5 : Int.tmod (k1 : Int) 5 = (r5 : Int) := by rw [← hr5]; rfl
   have v6 : (k1 : Int) % 5 = (r5 : Int) := by omega
   have hr6 : r5 < 5 := by omega
   have v7 : IntKind.i64.wrap (r5 : Int) = (r5 : Int) := by rw [IntKind.wrap_i64]; omega
   clear HPL HK1 hr5 b15
   gi_wp2
   refine ⟨trivial, (CallsIn.inRound l (callsIn_wide.2 SA.out)).mono ?_⟩
   rintro en W9 ⟨rfl, hw⟩
   rw [hw]
   clear hw SA
   gi_wp2
   refine ⟨trivial, (CallsIn.inRound l (callsIn_wide.2 SB.out)).mono ?_⟩
   rintro en W9 ⟨rfl, hw⟩
   rw [hw]
   clear hw SB
   by_cases h5 : r5 = 1
   ·have v8 : ((r5 : Int) == 1) = true := by rw [beq_iff_eq]; omega
    obtain ⟨rn1, hrn1⟩ : ∃ rn1, rn + 1 = rn1 := ⟨_, rfl⟩
    have u1 : (rn : Int) + 1 = (rn1 : Int) := by omega
    have u2 : IntKind.i64.wrap (rn1 : Int) = (rn1 : Int) := by rw [IntKind.wrap_i64]; omega
    have GA := hid_intro (rangeK HGW.out (KA11.out.grown g1) (T11.out.kept (FrT.of g1)) btl bth rn1 (by omega) (by omega))
    have hta : (withinT L lo hi).take rn1 = withinT L lo hi := List.take_of_length_le (by omega)
    have htb : (withinT L lo hi).reverse.take rn1 = (withinT L lo hi).reverse := List.take_of_length_le (by rw [List.length_reverse]; omega)
    rw [hta] at GA
    have f11 := cell_heap (i := 0) (heap_kept Z11.out g1) rfl
    have f13 := cell_heap (i := 0) (heap_kept Z13.out g1) rfl
    have HRN := hid_intro hrn
    have H1 := hid_intro hrn1
    clear h5 hta hrn1
    gi_wp2
    clear hW1
    refine ⟨trivial, (CallsIn.inRound l (callsIn_wide.2 GA.out)).mono ?_⟩
    rintro en W2 ⟨xa, xk, xc, rfl, hm2, hg2⟩
    have hxk : xk = rn := hm2.1.symm.trans HRN.out
    rw [hxk] at hm2 ⊢
    have g2 := grown_trans g1 hg2
    have GB := hid_intro (backK HGW.out (KB.out.grown g2) (T11.out.kept (FrT.of g2)) btl bth rn1 (by have := H1.out; omega) (by have := H1.out; omega))
    rw [htb] at GB
    have p11 := hg2.cell f11 (by simp)
    have p14 := cell_heap (i := 0) (heap_kept X14.out g2) rfl
    have N2 := hid_intro hm2
    have J2 := hid_intro hg2
    clear hxk hm2 hg2 GA f11 f13 htb
    gi_wp2
    refine ⟨trivial, (CallsIn.inRound l (callsIn_wide.2 GB.out)).mono ?_⟩
    rintro en W3 ⟨ya, yk, yc, rfl, hm3, hg3⟩
    have hyk : yk = rn := by have := hm3.1; rw [List.length_reverse, HRN.out] at this; exact this.symm
    rw [hyk] at hm3 ⊢
    have g3 := grown_trans g2 hg3
    have s11 := hg3.cell p11 (by simp)
    have SP := hid_intro (samePairs11 xa (some ⟨b1, off1, none⟩) rn xc rc (withinT L lo hi) W3 (N2.out.cef (CeF.of hg3)) (MU.out.cef (CeF.of g3)) (by omega))
    have J3 := hid_intro (grown_trans J2.out hg3)
    have N3 := hid_intro hm3
    clear hyk hm3 hg3 GB p11 p14 N2 J2 g2
    gi_wp2
    refine ⟨trivial, (CallsIn.inRound l (callsIn_wide.2 SP.out)).mono ?_⟩
    rintro en W4 ⟨rfl, hg4⟩
    have g4 := grown_trans g3 hg4
    have t12 := cell_heap (i := 0) (heap_kept Z12.out g4) rfl
    have SQ2 := hid_intro (samePairs11 ya qa rn yc qc (withinT L lo hi).reverse W4 (N3.out.cef (CeF.of hg4)) (MV.out.cef (CeF.of g4)) (by omega))
    have J4 := hid_intro (grown_trans J3.out hg4)
    clear hg4 SP N3 J3 g3 s11
    gi_wp2
    refine ⟨trivial, (CallsIn.inRound l (callsIn_wide.2 SQ2.out)).mono ?_⟩
    rintro en W5 ⟨rfl, hg5⟩
    have FF := hid_intro (FIN.out W5 (grown_trans J4.out hg5))
    clear hg5 SQ2
    gi_wp2
    exact FF.out
   ·have v8 : ((r5 : Int) == 1) = false := by rw [beq_eq_false_iff_ne]; omega
    have FF := hid_intro (FIN.out W1 (World.grownBy.refl _ _))
    clear h5
    gi_wp2
    exact FF.out
  case done =>
   rintro D m xs W hD hSx hT hK
   have hxl : xs.length = rn := by rw [← hrn, ← hSx, List.length_map]
   rw [hxl] at hT
   have d15 := cell_heap (i := 0) hT.b15 rfl
   have c11 := cell_heap (i := 0) (heap_kept Z11.out hT.gr) rfl
   have y6 := heap_kept Z6.out hT.gr
   have d6 := cell_heap (i := 0) y6 rfl
   have z6 := frozen_of_row W B6 0 _ _ y6
   have k1 : ((rn : Int) == (rn : Int)) = true := by simp
   have hK' := (KeepsOthers.setCell W ⟨B6, 0, none⟩ (.bool true)).same D _ hK rfl
   have ct := CeF.turn (grownBy_putObj' (W.setCell ⟨B6, 0, none⟩ (.bool true)) D (.deferred none)) (fun r e => by cases e; exact ⟨_, hK', rfl⟩)
   have h6 := heap_setCell_same W B6 0 _ _ (.bool true) y6
   have HG9 : Hid (w.grownBy ((W.setCell ⟨B6, 0, none⟩ (.bool true)).putObj D (.deferred none)) none) := by
    have hb := HB6.out
    have hz := G11.out.size
    exact gr_put (gr_set (grown_trans G11.out hT.gr) 0 _ (by omega)) _ (by omega)
   gi_wp2
   refine ⟨by simp, .inl ⟨_, _, rfl, run_takeDeferred hK', ?_⟩⟩
   exact ⟨_, results_cellN rfl _ _ B6 _ rfl (cell_heap (ct _ _ _ _ h6) rfl), rfl, HG9.out⟩
  case stop =>
   rintro D m cd pre W hD hSp hF hK
   exact hF.elim
 ·have e1 : (decide (ln ≤ 1000) && decide (hn ≤ 1000)) = false := by
   cases h : (decide (ln ≤ 1000) && decide (hn ≤ 1000)) with
   | false => rfl
   | true => simp at h; exact absurd h hs
  rw [e1]
  clear hs e1
  have d6 := cell_heap (i := 0) Y6.out rfl
  have z6 := frozen_of_row w2 B6 0 _ _ Y6.out
  have h6 := heap_setCell_same w2 B6 0 _ _ (.bool true) Y6.out
  have HG9 : Hid (w.grownBy (w2.setCell ⟨B6, 0, none⟩ (.bool true)) none) := gr_set G2.out 0 _ (by have := HB6.out; omega)
  gi_wp2
  exact ⟨_, results_cellN rfl _ _ B6 _ rfl (cell_heap h6 rfl), rfl, HG9.out⟩
theorem walkNested_walk (a : Option Addr) (n c : Nat) (C : List CgT) (la : Option Addr) (ln lc : Nat) (lo : List Int) (ha : Option Addr) (hn hc : Nat) (hi : List Int) (w : World) (hC : CgW w a C) (hCn : C.length = n) (hnc : n ≤ c) (hlo : Byt w la ln lc lo) (btl : Bt lo) (hhi : Byt w ha hn hc hi) (bth : Bt hi) :
  Calls Tryz.prog 3 #[.slice a n c, .slice la ln lc, .slice ha hn hc] w fun en w' => en = .returned (.bool true) ∧ w.grownBy w' none := by
 rcases Nat.lt_or_ge 60 n with h | h
 ·exact walkNested_gt a n c C la ln lc lo ha hn hc hi w hC hCn hnc h hlo btl hhi bth
 ·exact walkNested_le a n c C la ln lc lo ha hn hc hi w hC hCn h hlo btl hhi bth
end Go.Proofs.YtndanifjommpdaaGreat
namespace Go.Proofs.YtndanifjommpdaaGreat.walkNested
open Go.ChangeShapes Go.WideShapes Go.ChangeAt Go.WideMaps Go.WideElems Go.RowKit Go.Deep
open Go.ChangeMaps (open_string shut_string)
theorem own : ownKnob Tryz.prog.godebug = none := by kernel_rfl
theorem laidOut : laidOutB Tryz.prog = true := by kernel_rfl
theorem bytes_u8 : Tryz.prog.bytesOf 5 = 1 := by kernel_rfl
theorem bytes_i64 : Tryz.prog.bytesOf 3 = 8 := by kernel_rfl
set_option linter.unusedVariables false
set_option maxRecDepth 100000 in
theorem lifted (os : Os) (started : os.Started) (H : Type) (enc : TypeId × Value → H) :
  ReturnsInHanded {} Tryz.checked os 3 .any (Rows.walkNestedSpec.pre6 enc Tryz.prog Tryz.f3 Rows.walkNestedRow.domain false) (Rows.walkNestedSpec.post enc Tryz.prog Tryz.f3 false true false false) := by
 refine returnsInHanded_of_change_sized (C := Tryz.checked) own started (by kernel_rfl) Tryz.func3
  (ChangeSpec.witness6 (enc := enc) (C := Tryz.checked) false ⟨#[], #[.slice none 0 0, .slice none 0 0, .slice none 0 0], []⟩ 8 (by kernel_rfl) (by kernel_rfl) (by kernel_rfl) (by kernel_rfl)) ?_
 intro W base args ds gs before hval0 hW hcnd hsz0 _
 have hval : ∀ (j : Nat) t v, Tryz.f3.params[j]? = some t → args[j]? = some v → Value.okWide Tryz.prog W .any base t v := hval0
 have hsz : (DataW.weightsEach Tryz.prog (Tryz.f3.params.toList ++ Rows.walkNestedSpec.plain.varTypes Tryz.prog) (ds ++ gs)).all (· ≤ reachBytes) = true := hsz0
 clear hsz0
 have hW' := hW
 obtain ⟨p, q, hA0, hV, rfl, hfz, hnd⟩ := hW
 have hA : DataW.TrodAll enc Tryz.prog W 0 (fun _ => true) true Tryz.f3.params.toList args.toList ds p := hA0
 rw [Tryz.params3] at hA hval hsz
 obtain ⟨v0, vs0, d0, ds0, p0, q0, hargs, rfl, rfl, h0, r0⟩ := trodAll_cons hA
 obtain ⟨v1, vs1, d1, ds1, p1, q1, rfl, rfl, rfl, h1, r1⟩ := trodAll_cons r0
 obtain ⟨v2, vs2, d2, ds2, p2, q2, rfl, rfl, rfl, h2, r2⟩ := trodAll_cons r1
 obtain ⟨rfl, rfl, rfl⟩ := trodAll_nil r2
 obtain rfl : args = #[v0, v1, v2] := by cases args; simp_all
 obtain ⟨rfl, rfl⟩ := trodVars_none hV
 obtain ⟨a0, len0, cap0, rfl⟩ := okWide_slice Tryz.underlying22 (hval 0 22 v0 rfl rfl)
 have k0 := h0
 have lt0 : ∀ x ∈ p0, x.block < W.heap.size := by obtain ⟨m, hm⟩ := k0; exact DataW.trod_lt m _ _ _ hm
 obtain ⟨z0, b0, e0, l0, c0⟩ : ∃ L, CgW W a0 L ∧ L.length = len0 ∧ len0 ≤ cap0 ∧ cap0 ≤ 9223372036854775807 := by
  obtain ⟨fuel, hf⟩ := h0
  exact chgs_open (by simpa [Value.cells] using hf)
 obtain ⟨a1, len1, cap1, rfl⟩ := okWide_slice Tryz.underlying23 (hval 1 23 v1 rfl rfl)
 have k1 := h1
 have lt1 : ∀ x ∈ p1, x.block < W.heap.size := by obtain ⟨m, hm⟩ := k1; exact DataW.trod_lt m _ _ _ hm
 obtain ⟨z1, b1, t1, l1, c1⟩ : ∃ zs, Byt W a1 len1 cap1 zs ∧ Bt zs ∧ len1 ≤ cap1 ∧ cap1 ≤ 140737488351232 := by
  obtain ⟨fuel, hf⟩ := h1
  rcases open_ints Tryz.underlying23 Tryz.underlying5 (by kernel_rfl) hf with ⟨hcs, _⟩ | ⟨x, l, c, zs, hcs, _, hl, hm, hz, hx, hcell, hwz⟩
  ·simp [Value.cells] at hcs
   obtain ⟨rfl, rfl, rfl⟩ := hcs
   exact ⟨[], Byt.empty W, Bt.nil, Nat.le_refl _, by omega⟩
  ·simp [Value.cells] at hcs
   obtain ⟨rfl, rfl, rfl⟩ := hcs
   have hz' : zs.length = cap1 := by simpa using hz
   obtain ⟨h1, h2, _, _⟩ := byt_of_row (zs := zs) (.inr ⟨_, rfl, hl, hm, hz', hcell, hwz⟩)
   have hs := sized_slice hsz (j := 1) (t := 23) (e := 5) rfl (congrArg (fun y => some (Prod.fst y)) hx) Tryz.underlying23
   rw [bytes_u8] at hs
   simp only [lits, List.length_map, List.length_take, List.length_drop, reachBytes] at hs
   exact ⟨_, h1, h2, hl, by omega⟩
 obtain ⟨a2, len2, cap2, rfl⟩ := okWide_slice Tryz.underlying23 (hval 2 23 v2 rfl rfl)
 have k2 := h2
 have lt2 : ∀ x ∈ p2, x.block < W.heap.size := by obtain ⟨m, hm⟩ := k2; exact DataW.trod_lt m _ _ _ hm
 obtain ⟨z2, b2, t2, l2, c2⟩ : ∃ zs, Byt W a2 len2 cap2 zs ∧ Bt zs ∧ len2 ≤ cap2 ∧ cap2 ≤ 140737488351232 := by
  obtain ⟨fuel, hf⟩ := h2
  rcases open_ints Tryz.underlying23 Tryz.underlying5 (by kernel_rfl) hf with ⟨hcs, _⟩ | ⟨x, l, c, zs, hcs, _, hl, hm, hz, hx, hcell, hwz⟩
  ·simp [Value.cells] at hcs
   obtain ⟨rfl, rfl, rfl⟩ := hcs
   exact ⟨[], Byt.empty W, Bt.nil, Nat.le_refl _, by omega⟩
  ·simp [Value.cells] at hcs
   obtain ⟨rfl, rfl, rfl⟩ := hcs
   have hz' : zs.length = cap2 := by simpa using hz
   obtain ⟨h1, h2, _, _⟩ := byt_of_row (zs := zs) (.inr ⟨_, rfl, hl, hm, hz', hcell, hwz⟩)
   have hs := sized_slice hsz (j := 2) (t := 23) (e := 5) rfl (congrArg (fun y => some (Prod.fst y)) hx) Tryz.underlying23
   rw [bytes_u8] at hs
   simp only [lits, List.length_map, List.length_take, List.length_drop, reachBytes] at hs
   exact ⟨_, h1, h2, hl, by omega⟩
 clear hA0 hval0
 refine (walkNested_walk a0 len0 cap0 z0 a1 len1 cap1 z1 a2 len2 cap2 z2 W b0 e0 l0 b1 t1 b2 t2).mono fun e W' ⟨he, hg⟩ => ?_
 subst he
 have bel := below_ofW hg
 exact ⟨_, rfl, _, _, _, [], _, [], hW', trodAll_mk1 (shut_bool Tryz.underlying4 _), (trodAll_cons_mk (Below.trod laidOut (by kernel_rfl) (of_decide_eq_true (by kernel_rfl)) k0 bel lt0) (trodAll_cons_mk (Below.trod laidOut (by kernel_rfl) (of_decide_eq_true (by kernel_rfl)) k1 bel lt1) (trodAll_cons_mk (Below.trod laidOut (by kernel_rfl) (of_decide_eq_true (by kernel_rfl)) k2 bel lt2) trodAll_mk0))), rfl, bel.frame _, fun h => by cases h⟩
theorem over : Rows.walkNestedRow.holds Tryz.pinned (OpenSpec.ofChange Rows.walkNestedSpec) :=
 OpenClaim.holds_of_wide 3 Tryz.f3 rfl rfl rfl rfl rfl rfl rfl ⟨rfl, rfl, rfl, rfl, rfl⟩ rfl rfl rfl rfl rfl (by kernel_rfl) Tryz.func3 (by kernel_rfl)
  (of_decide_eq_true (by kernel_rfl)) (by unfold Func.isWrapper; first | (rw [if_pos (by decide +kernel)]; kernel_rfl) | (rw [if_neg (by decide +kernel)]; exact ⟨rfl, rfl⟩))
  (fun os started H enc _ => lifted os started H enc)
end Go.Proofs.YtndanifjommpdaaGreat.walkNested
namespace Go.Proofs.YtndanifjommpdaaGreat
theorem walkNested_holds : Rows.WalkNestedSaid := walkNested.over
#print axioms walkNested_holds
end Go.Proofs.YtndanifjommpdaaGreat
