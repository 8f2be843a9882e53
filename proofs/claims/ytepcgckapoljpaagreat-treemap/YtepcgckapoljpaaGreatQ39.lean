import Derived.Test.YtepcgckapoljpaaGreatQ38
import Derived.Test.YtepcgckapoljpaaGreatQ41
import Derived.Test.YtepcgckapoljpaaGreatQ21
namespace Go.Proofs.YtepcgckapoljpaaGreat
open Go.RowKit
set_option maxHeartbeats 8000000 in
set_option maxRecDepth 100000 in
theorem bjoined_any (n : Nat) (hT : TidyC n) : JoinedC (n + 1) := by
 intro b v x y so sn sc s w hx hy ox oy hs hv hJ lw1 lw2
 obtain ⟨b', a, m, c, sa, sm, sc1, e, hb, hns, hss⟩ := hx
 simp only [tyN, Value.iface.injEq, Value.pointer.injEq, Option.some.injEq, Addr.mk.injEq, true_and, and_true] at e
 subst e
 obtain ⟨d, a2, m2, c2, sa2, sm2, sc2, rfl, hd, hns2, hss2⟩ := hy
 obtain ⟨x1, x2, x3, x4, x5⟩ := ox
 obtain ⟨y1, y2, y3, y4, y5⟩ := oy
 have l1 := hss.len
 have l2 := hss2.len
 have n1 := hns.len
 have n2 := hns2.len
 have f1 := seps_few x4
 have f2 := seps_few y4
 have sl1 := x3.len
 have sl2 := y3.len
 have p1 := List.length_pos_iff.2 x1
 have k1 := cell_heap (i := 1) hb rfl
 have k2 := cell_heap (i := 2) hb rfl
 have k3 := cell_heap (i := 1) hd rfl
 have k4 := cell_heap (i := 2) hd rfl
 have hbl := cell_lt k1
 have hdl := cell_lt k3
 have RO : Hid (RokT n ⟨(BnT.row (T := NdT n) x).ns ++ (BnT.row (T := NdT n) y).ns, (BnT.row (T := NdT n) x).ss ++ ([s] ++ (BnT.row (T := NdT n) y).ss)⟩) := by
  refine ⟨fun k hk => ?_, sep_concat x3 y3 x1 y1 (fun z hz => flat_ne n z (x2 z hz)) (fun z hz => flat_ne n z (y2 z hz)) lw1 lw2, fun t ht => ?_⟩
  ·rcases List.mem_append.1 hk with hk | hk
   ·exact x2 k hk
   ·exact y2 k hk
  ·simp only [List.mem_append, List.mem_cons, List.not_mem_nil, or_false] at ht
   rcases ht with ht | rfl | ht
   ·exact x5 t ht
   ·exact hv
   ·exact y5 t ht
 have QN := hid_intro (show NsT n w a m c (BnT.row (T := NdT n) x).ns from hns)
 have QM := hid_intro (show NsT n w a2 m2 c2 (BnT.row (T := NdT n) y).ns from hns2)
 have QS := hid_intro hss
 have QR := hid_intro hss2
 have QB := hid_intro hs
 have HD : Hid (joinedT (n + 1) x s y = (⟨0, tidyT (joinsT n) (joinedT n) 1 ⟨(BnT.row (T := NdT n) x).ns ++ (BnT.row (T := NdT n) y).ns, (BnT.row (T := NdT n) x).ss ++ ([s] ++ (BnT.row (T := NdT n) y).ss)⟩ ((BnT.row (T := NdT n) x).ns.length - 1)⟩ : BnT (NdT n))) := rfl
 rw [HD.out]
 have CN : Hid (∀ (W : World) (q : Nat), w.grownBy W none → W.heap[q]? = some (.cells #[.slice a m c, .slice a2 m2 c2] 75 (0, 0)) → Calls Tryz.prog 172 #[.slice (some ⟨q, 0, none⟩) 2 2] W fun en w' => (∃ a N c, en = .returned (.slice a N c) ∧ NsT n w' a N c ((BnT.row (T := NdT n) x).ns ++ (BnT.row (T := NdT n) y).ns)) ∧ W.grownBy w' none) := fun W q hg hq =>
  catAt2_tn (InT n) (in_keptN _) hq (QN.out.kept (FrT.of hg)) (QM.out.kept (FrT.of hg)) (by rw [List.length_append]; omega)
 have CS : Hid (∀ (W : World) (q : Nat), w.grownBy W none → (∃ p, W.heap[q]? = some (.cells #[.slice sa sm sc1, .slice (some ⟨p, 0, none⟩) 1 1, .slice sa2 sm2 sc2] 51 (0, 0)) ∧ W.heap[p]? = some (.cells #[.slice so sn sc] 30 (0, 0))) → Calls Tryz.prog 173 #[.slice (some ⟨q, 0, none⟩) 3 3] W fun en w' => (∃ a N c, en = .returned (.slice a N c) ∧ SsT w' a N c ((BnT.row (T := NdT n) x).ss ++ ([s] ++ (BnT.row (T := NdT n) y).ss))) ∧ W.grownBy w' none) := fun W q hg ⟨p, hq, hp⟩ =>
  catAt3_ts IbT ib_keptN hq (QS.out.kept (FrT.of hg)) ⟨[[_]], es_one hp rfl, ElyT.one ⟨_, _, _, rfl, QB.out.kept (FrT.of hg)⟩⟩ (QR.out.kept (FrT.of hg)) (by rw [List.length_append, List.length_append]; simp only [List.length_cons, List.length_nil]; omega)
 have TT := hid_intro (And.intro k1 (And.intro k2 (And.intro k3 k4)))
 have hta := assertB
 show Calls Tryz.prog 159 _ _ _
 clear hb hd hns hss hns2 hss2 hs x2 x3 x5 y2 y3 y5 lw1 lw2 hJ QN QM QS QR QB k2 k3 k4
 go_enter Tryz.func159, Tryz.ntmps159
 have BD := hid_intro (show m + m2 ≤ 5000 ∧ 1 ≤ m by omega)
 clear f1 f2 sl1 sl2 l1 l2 x4 y4
 go_upto_region 2 with fail
 go_cut [8] from 12 to 39 (fun s8 wx => BoxR n w ⟨(BnT.row (T := NdT n) x).ns ++ (BnT.row (T := NdT n) y).ns, (BnT.row (T := NdT n) x).ss ++ ([s] ++ (BnT.row (T := NdT n) y).ss)⟩ s8 wx)
 case first =>
  refine wp_region_noPanic ?_
  refine bj_region (n := n) (b := b) (d := d) (xs := (BnT.row (T := NdT n) x).ns) (ys := (BnT.row (T := NdT n) y).ns) (ss := (BnT.row (T := NdT n) x).ss) (ts := (BnT.row (T := NdT n) y).ss) (s := s) ⟨⟨TT.out.1, TT.out.2.1, TT.out.2.2.1, TT.out.2.2.2⟩, CN.out, CS.out, (fun c f t v W h => h), ?_⟩
  intro u8 u12 u13 u14 u15 u16 u17 u18 u19 u20 u21 u22 u23 u24 u25 u26 u27 u28 u29 u30 u31 u32 u33 u34 u35 u36 u37 u38 W hB
  have HB := hid_intro hB
  clear hB
  refine NoPanic.normal ?_
  go_wp2_with fail
  go_meet
  exact HB.out
 case rest =>
  obtain ⟨G, a3, m3, c3, sa3, sm3, sc3, rfl, hG, hR, hg3⟩ := hcut
  have g0 := cell_heap (i := 0) hG rfl
  have g1 := cell_heap (i := 1) hG rfl
  have kb := hg3.cell k1 (by simp)
  have ln3 := hR.ns.len
  have le3 : m3 = m + m2 := by rw [← ln3, List.length_append]; omega
  have HR := hid_intro hR
  have HG3 := hid_intro hg3
  obtain ⟨bd1, bd2⟩ := BD.out
  have em : (m : Int) - 1 = ((m - 1 : Nat) : Int) := by omega
  have TQ := hid_intro (hT ⟨(BnT.row (T := NdT n) x).ns ++ (BnT.row (T := NdT n) y).ns, (BnT.row (T := NdT n) x).ss ++ ([s] ++ (BnT.row (T := NdT n) y).ss)⟩ ((m - 1 : Nat) : Int) ((m - 1 : Nat) : Int) (m - 1) 1 (by rw [if_neg (by omega)]) (by omega) (by omega) (by omega) RO.out a3 m3 c3 sa3 sm3 sc3 wc HR.out (by omega))
  obtain ⟨j, hj⟩ : ∃ j, m - 1 = j := ⟨_, rfl⟩
  rw [hj] at TQ em
  have wj : IntKind.i64.wrap (j : Int) = (j : Int) := by rw [IntKind.wrap_i64]; omega
  have HJ := hid_intro (show (BnT.row (T := NdT n) x).ns.length - 1 = j by omega)
  clear hR hg3 hG CN CS TT k1 le3 ln3
  go_wp2_with fail
  (with_reducible refine TQ.out.mono ?_)
  rintro en w7 ⟨⟨a7, m7, c7, sa7, sm7, sc7, rfl, hr7⟩, hg7⟩
  have R7 := hid_intro hr7
  have G7 := hid_intro (grown_trans HG3.out hg7)
  clear hr7 hg7
  go_wp2
  go_ret
  rw [HJ.out]
  exact ⟨⟨_, rfl, node_branch 0 R7.out⟩, grown_trans G7.out (World.grownBy_alloc w7 _ none)⟩
set_option maxHeartbeats 16000000 in
set_option maxRecDepth 100000 in
theorem tidied_B {n : Nat} (hJ : JoinsC (n + 1)) (hD : ∀ (r : RwT (NdT (n + 1))) (i : Nat) (x y : NdT (n + 1)) (s : List Int), r.ns[i]? = some x → r.ss[i]? = some s → r.ns[i + 1]? = some y → RokT (n + 1) r → joinsT (n + 1) x s y = true → ∀ (a : Option Addr) (m c : Nat) (sa : Option Addr) (sm sc : Nat) (w : World), RowT (n + 1) w a m c sa sm sc r → m ≤ 5000 →
   Calls Tryz.prog 174 #[.agg #[.slice a m c, .slice sa sm sc], .int .i64 i] w fun en w' => (∃ a m c sa sm sc, en = .returned (.agg #[.slice a m c, .slice sa sm sc]) ∧ RowT (n + 1) w' a m c sa sm sc (joinAt r i (joinedT (n + 1) x s y))) ∧ w.grownBy w' none)
  (r : RwT (NdT (n + 1))) (fr tq : Int) (i0 cnt : Nat) (hi0 : (if (0 : Int) > fr then (0 : Int) else fr) = (i0 : Int)) (hcnt : cnt = (tq + 1 - (i0 : Int)).toNat) (ht : -100000 ≤ tq ∧ tq ≤ 100000) (hf : -100000 ≤ fr ∧ fr ≤ 100000) (hok : RokT (n + 1) r) (a : Option Addr) (m c : Nat) (sa : Option Addr) (sm sc : Nat) (w : World) (hr : RowT (n + 1) w a m c sa sm sc r) (hm : m ≤ 5000) :
  Calls Tryz.prog 168 #[.agg #[.slice a m c, .slice sa sm sc], .int .i64 fr, .int .i64 tq] w fun en w' => (∃ a m c sa sm sc, en = .returned (.agg #[.slice a m c, .slice sa sm sc]) ∧ RowT (n + 1) w' a m c sa sm sc (tidyT (joinsT (n + 1)) (joinedT (n + 1)) cnt r i0)) ∧ w.grownBy w' none := by
 have hmax : ∀ (ts : Array TypeId) (t : TypeId) (W : World), (Builtin.max_ ts t #[.int .i64 fr, .int .i64 0]).run Tryz.prog W = .ok (.int .i64 i0) W := fun ts t W => by rw [run_max_int2, hi0]
 have G1 := hid_intro (grown_al (grown_al (World.grownBy.refl w none) (.cells #[.slice a m c, .slice sa sm sc] 77)) (.cells #[.slice none 0 0, .slice none 0 0] 77))
 have X1 : Hid (TbT (n + 1) ((w.alloc (.cells #[.slice a m c, .slice sa sm sc] 77)).alloc (.cells #[.slice none 0 0, .slice none 0 0] 77)) w.heap.size a m c sa sm sc r) := ⟨heap_old (heap_at0 w _ _), hr.kept (FrT.of G1.out)⟩
 have B1 : Hid (BxT ((w.alloc (.cells #[.slice a m c, .slice sa sm sc] 77)).alloc (.cells #[.slice none 0 0, .slice none 0 0] 77)) (w.heap.size + 1)) := ⟨_, _, heap_at1 w _ _ _⟩
 have ln := hr.ns.len
 have HOK := hid_intro hok
 have hb0 : i0 ≤ 100000 := by split at hi0 <;> omega
 have hme := mB_joins
 have HCN := hid_intro hcnt
 clear hr hi0 hok hcnt
 go_enter Tryz.func168, Tryz.ntmps168
 go_wp2
 generalize (w.alloc (.cells #[.slice a m c, .slice sa sm sc] 77)).alloc (.cells #[.slice none 0 0, .slice none 0 0] 77) = w1 at *
 go_loopw [2, 7] (fun s2 s7 wr => ∃ (q : RwT (NdT (n + 1))) (i k : Nat) (t : Int) (a : Option Addr) (m c : Nat) (sa : Option Addr) (sm sc : Nat), s2 = .int .i64 t ∧ s7 = .int .i64 (i : Nat) ∧ k = (t + 1 - (i : Int)).toNat ∧ i ≤ 200000 ∧ -300000 ≤ t ∧ t ≤ 100000 ∧ (t + 1 - (i : Int)).toNat + i ≤ 200000 ∧ m ≤ 5000 ∧ RokT (n + 1) q ∧ TbT (n + 1) wr w.heap.size a m c sa sm sc q ∧ BxT wr (w.heap.size + 1) ∧ w.grownBy wr none ∧ tidyT (joinsT (n + 1)) (joinedT (n + 1)) k q i = tidyT (joinsT (n + 1)) (joinedT (n + 1)) cnt r i0 ∧ t ≤ tq ∧ tq - t ≤ 200000) (fun s2 s7 _ => (intOf s2 + 1 - intOf s7).toNat)
 case atStart => exact ⟨r, i0, cnt, tq, a, m, c, sa, sm, sc, rfl, rfl, HCN.out, by omega, by omega, by omega, by omega, hm, HOK.out, X1.out, B1.out, G1.out, rfl, by omega, by omega⟩
 case round =>
  obtain ⟨q, i, k, t, a, m, c, sa, sm, sc, rfl, rfl, hk, hi, ht1, ht2, hki, hm, hok, htb, hbx, hg, heq, hto, htd⟩ := hrel
  have ln := htb.row.ns.len
  have ls := htb.row.ss.len
  have HO := hid_intro hok
  have HT := hid_intro htb
  have HB := hid_intro hbx
  have HG := hid_intro hg
  have HE := hid_intro heq
  have e0 := cell_heap (i := 0) htb.box rfl
  have e1 := cell_heap (i := 1) htb.box rfl
  by_cases c1 : (i : Int) ≤ t
  ·by_cases c2 : i + 1 < m
   ·have hsl := hok.sep.len
    obtain ⟨x, h1⟩ : ∃ x, q.ns[i]? = some x := ⟨_, List.getElem?_eq_getElem (by omega)⟩
    obtain ⟨y, h3⟩ : ∃ y, q.ns[i + 1]? = some y := ⟨_, List.getElem?_eq_getElem (by omega)⟩
    obtain ⟨s, h2⟩ : ∃ s, q.ss[i]? = some s := ⟨_, List.getElem?_eq_getElem (by omega)⟩
    obtain ⟨g, off, u1, rfl, d1, hx⟩ := htb.row.ns.node h1
    obtain ⟨g', off', u2, e, d2, hy⟩ := htb.row.ns.node h3
    simp only [Option.some.injEq, Addr.mk.injEq] at e
    obtain ⟨rfl, rfl, _⟩ := e
    obtain ⟨sg, soff, so, sn, sc', rfl, d3, hs⟩ := htb.row.ss.str h2
    obtain ⟨b1, rfl⟩ := hx.atB
    obtain ⟨b2, rfl⟩ := hy.atB
    have JQ : Hid (∀ (W : World), wr.grownBy W none → Calls Tryz.prog 160 #[.pointer (some ⟨b1, 0, none⟩), .slice so sn sc', .iface 134 (.pointer (some ⟨b2, 0, none⟩))] W fun en w' => en = .returned (.bool (joinsT (n + 1) x s y)) ∧ W.grownBy w' none) := (fun (W : World) (h : wr.grownBy W none) => hJ b1 _ x y so sn sc' s W (NodeT.kept _ hx (FrT.of h)) (NodeT.kept _ hy (FrT.of h)) (hok.ok x (List.mem_of_getElem? h1)) (hok.ok y (List.mem_of_getElem? h3)) (hs.kept (FrT.of h)) (hok.vs s (List.mem_of_getElem? h2)))
    have DQ := hid_intro (hD q i x y s h1 h2 h3 hok)
    obtain ⟨k', hk'⟩ : ∃ k', k = k' + 1 := ⟨k - 1, by omega⟩
    have HS := hid_intro (tidy_step (J := joinsT (n + 1)) (D := joinedT (n + 1)) (c := k') h1 h2 h3)
    have RJ := hid_intro (fun hj => rok_joinAt hok h1 h2 h3 hj)
    obtain ⟨j, hj1⟩ : ∃ j, i + 1 = j := ⟨_, rfl⟩
    rw [hj1] at d2
    have v1 : (0 : Int) ≤ (i : Int) ∧ (i : Int) < (m : Int) := by omega
    have v2 : (0 : Int) ≤ (j : Int) ∧ (j : Int) < (m : Int) := by omega
    have v3 : (0 : Int) ≤ (i : Int) ∧ (i : Int) < (sm : Int) := by omega
    have ej : (i : Int) + 1 = (j : Int) := by omega
    have wj : IntKind.i64.wrap (j : Int) = (j : Int) := by rw [IntKind.wrap_i64]; omega
    have T1 := hid_intro (And.intro e0 (And.intro e1 (And.intro d1 (And.intro d2 d3))))
    have c2' : (j : Int) < (m : Int) := by omega
    clear hx hy hs hok htb hbx hg heq h1 h2 h3 d1 d2 d3 hsl
    cases hb : joinsT (n + 1) x s y with
    | true =>
     rw [hb] at JQ HS
     have DQ2 := hid_intro (DQ.out hb)
     have RJ2 := hid_intro (RJ.out hb)
     clear DQ RJ
     go_upto_region 3 with fail
     go_region_held3 (fun w' => w'.cell? ⟨w.heap.size, 0, none⟩ = some (.slice (some ⟨g, off, none⟩) m c) ∧ w'.cell? ⟨w.heap.size, 1, none⟩ = some (.slice (some ⟨sg, soff, none⟩) sm sc) ∧ w'.cell? ⟨g, off + i, none⟩ = some (.iface 134 (.pointer (some ⟨b1, 0, none⟩))) ∧ w'.cell? ⟨g, off + j, none⟩ = some (.iface 134 (.pointer (some ⟨b2, 0, none⟩))) ∧ w'.cell? ⟨sg, soff + i, none⟩ = some (.slice so sn sc')) (first | (with_reducible exact T2) | exact T1.out | go_keep) (first
      | (go_at_call 160; (with_reducible refine (JQ.out _ ((Qt.refl wr).drew.grown none)).mono ?_); rintro en w2 ⟨rfl, hg2⟩; have g9 := grown_trans ((Qt.refl wr).drew.grown none) hg2; have T2 := And.intro (g9.cell T1.out.1 (by simp)) (And.intro (g9.cell T1.out.2.1 (by simp)) (And.intro (g9.cell T1.out.2.2.1 (by simp)) (And.intro (g9.cell T1.out.2.2.2.1 (by simp)) (g9.cell T1.out.2.2.2.2 (by simp)))))))
     all_goals go_wp2_with fail
     all_goals
      refine (DQ2.out _ _ _ _ _ _ w2 (HT.out.keptN g9).row hm).mono ?_
      rintro en w5 ⟨⟨a5, m5, c5, sa5, sm5, sc5, rfl, hr5⟩, hg5⟩
      have g5 := grown_trans g9 hg5
      have B5 : BxT w5 w.heap.size := ⟨_, _, heap_kept HT.out.box g5⟩
      obtain ⟨⟨x1, cx⟩, ⟨y1, cy⟩, z1, z2⟩ := B5.cells
      have BB := hid_intro B5
      have RR := hid_intro hr5
      have GG := hid_intro g5
      have ln5 := hr5.ns.len
      have hjl := joinAt_len (q := q) (i := i) (one := joinedT (n + 1) x s y) (by omega)
      have wt : IntKind.i64.wrap (t - 1) = t - 1 := by rw [IntKind.wrap_i64]; omega
      clear B5 hr5 hg5 T2 hg2 g9 g5
     all_goals go_wp2
     all_goals
      obtain ⟨p1, p2, p3⟩ := BB.out.put (.slice a5 m5 c5) (.slice sa5 sm5 sc5)
      have B6 : BxT ((w5.setCell ⟨w.heap.size, 0, none⟩ (.slice a5 m5 c5)).setCell ⟨w.heap.size, 1, none⟩ (.slice sa5 sm5 sc5)) (w.heap.size + 1) := by
       obtain ⟨u, v, hu⟩ := (HB.out.keptN GG.out).row
       exact ⟨u, v, by rw [p3.block _ (Array.getElem?_eq_some_iff.1 hu).1 (by intro e; have := Option.some.inj e; omega)]; exact hu⟩
      refine ⟨⟨joinAt q i (joinedT (n + 1) x s y), i, k', t - 1, _, _, _, _, _, _, rfl, rfl, by omega, by omega, by omega, by omega, by omega, by omega, RJ2.out, ⟨p1, RR.out.kept p2⟩, B6, grown_new (grown_trans HG.out GG.out) p3 (Nat.le_refl _), ?_, by omega, by omega⟩, by simp [intOf]; omega⟩
      rw [← HE.out, hk', HS.out, if_pos (by simp)]
    | false =>
     rw [hb] at JQ HS
     clear DQ RJ
     go_upto_region 3 with fail
     go_region_held3 (fun w' => w'.cell? ⟨w.heap.size, 0, none⟩ = some (.slice (some ⟨g, off, none⟩) m c) ∧ w'.cell? ⟨w.heap.size, 1, none⟩ = some (.slice (some ⟨sg, soff, none⟩) sm sc) ∧ w'.cell? ⟨g, off + i, none⟩ = some (.iface 134 (.pointer (some ⟨b1, 0, none⟩))) ∧ w'.cell? ⟨g, off + j, none⟩ = some (.iface 134 (.pointer (some ⟨b2, 0, none⟩))) ∧ w'.cell? ⟨sg, soff + i, none⟩ = some (.slice so sn sc')) (first | (with_reducible exact T2) | exact T1.out | go_keep) (first
      | (go_at_call 160; (with_reducible refine (JQ.out _ ((Qt.refl wr).drew.grown none)).mono ?_); rintro en w2 ⟨rfl, hg2⟩; have g9 := grown_trans ((Qt.refl wr).drew.grown none) hg2; have T2 := And.intro (g9.cell T1.out.1 (by simp)) (And.intro (g9.cell T1.out.2.1 (by simp)) (And.intro (g9.cell T1.out.2.2.1 (by simp)) (And.intro (g9.cell T1.out.2.2.2.1 (by simp)) (g9.cell T1.out.2.2.2.2 (by simp)))))))
     all_goals go_wp2
     all_goals
      refine ⟨⟨q, j, k', t, _, _, _, _, _, _, rfl, rfl, by omega, by omega, by omega, by omega, by omega, hm, HO.out, HT.out.keptN g9, HB.out.keptN g9, grown_trans HG.out g9, ?_, hto, htd⟩, by simp [intOf]; omega⟩
      rw [← HE.out, hk', HS.out, if_neg (by simp), hj1]
   ·have l2 : ¬ ((i : Int) + 1 < (m : Int)) := by omega
    have HF := hid_intro (HE.out.symm.trans (tidy_stop (.inr (by omega))))
    clear htb hbx hg heq hok
    obtain ⟨⟨x1, cx⟩, ⟨y1, cy⟩, z1, z2⟩ := HB.out.cells
    go_wp2
    rw [HF.out]
    refine ret_rowG (p := 6) rfl HB.out (by omega) HT.out.row HG.out ?_ ?_ <;> rfl
  ·have l1 : decide ((i : Int) ≤ t) = false := decide_eq_false c1
   have HF := hid_intro (HE.out.symm.trans (tidy_stop (.inl (by omega))))
   clear htb hbx hg heq hok
   obtain ⟨⟨x1, cx⟩, ⟨y1, cy⟩, z1, z2⟩ := HB.out.cells
   go_wp2
   rw [HF.out]
   refine ret_rowG (p := 6) rfl HB.out (by omega) HT.out.row HG.out ?_ ?_ <;> rfl
theorem all_levels : ∀ n, JoinsC n ∧ JoinedC n ∧ TidyC n
 | 0 => ⟨joinsC0, joinedC0, fun r fr tq i0 cnt h1 h2 h3 h4 h5 a m c sa sm sc w h6 h7 => tidied_L joinsC0 (joinedAt_L joinedC0) r fr tq i0 cnt h1 h2 h3 h4 h5 a m c sa sm sc w h6 h7⟩
 | n + 1 => by
  obtain ⟨_, _, i3⟩ := all_levels n
  have j1 := bjoins_any n
  have j2 := bjoined_any n i3
  exact ⟨j1, j2, fun r fr tq i0 cnt h1 h2 h3 h4 h5 a m c sa sm sc w h6 h7 => tidied_B j1 (joinedAt_B j2) r fr tq i0 cnt h1 h2 h3 h4 h5 a m c sa sm sc w h6 h7⟩
end Go.Proofs.YtepcgckapoljpaaGreat
