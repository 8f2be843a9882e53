import Derived.Test.YtepcgckapoljpaaGreatQ21
namespace Go.Proofs.YtepcgckapoljpaaGreat
open Go.RowKit
set_option maxHeartbeats 32000000 in
set_option maxRecDepth 100000 in
theorem joinedAt_L (hJ : JoinedC 0) (r : RwT (NdT 0)) (i : Nat) (x y : NdT 0) (s : List Int) (h1 : r.ns[i]? = some x) (h2 : r.ss[i]? = some s) (h3 : r.ns[i + 1]? = some y) (hok : RokT 0 r) (hj : joinsT 0 x s y = true) (a : Option Addr) (m c : Nat) (sa : Option Addr) (sm sc : Nat) (w : World) (hr : RowT 0 w a m c sa sm sc r) (hm : m ≤ 5000) :
  Calls Tryz.prog 174 #[.agg #[.slice a m c, .slice sa sm sc], .int .i64 i] w fun en w' => (∃ a m c sa sm sc, en = .returned (.agg #[.slice a m c, .slice sa sm sc]) ∧ RowT 0 w' a m c sa sm sc (joinAt r i (joinedT 0 x s y))) ∧ w.grownBy w' none := by
 have ln := hr.ns.len
 have ls := hr.ss.len
 have i1 := (List.getElem?_eq_some_iff.1 h3).1
 have i2 := (List.getElem?_eq_some_iff.1 h2).1
 have seam := sep_seam hok.sep h1 h2 h3
 rw [List.pairwise_append, List.pairwise_cons] at seam
 have lw1 : ∀ p ∈ flatT 0 x, cmpZ p.key s < 0 := fun p hp => rk_ps.1 (seam.2.2 _ (List.mem_map_of_mem hp) _ List.mem_cons_self)
 have lw2 : ∀ p ∈ flatT 0 y, cmpZ s p.key ≤ 0 := fun p hp => rk_sp.1 (seam.2.1.1 _ (List.mem_map_of_mem hp))
 obtain ⟨g, off, u1, rfl, c1, hx⟩ := hr.ns.node h1
 obtain ⟨g', off', u2, e, c2, hy⟩ := hr.ns.node h3
 simp only [Option.some.injEq, Addr.mk.injEq] at e
 obtain ⟨rfl, rfl, _⟩ := e
 obtain ⟨sg, soff, so, sn, sc', rfl, c3, hs⟩ := hr.ss.str h2
 obtain ⟨b1, rfl⟩ := hx.atL
 obtain ⟨b2, rfl⟩ := hy.atL
 have JQ : Hid (∀ (W : World), w.grownBy W none → Calls Tryz.prog 147 #[.pointer (some ⟨b1, 0, none⟩), .slice so sn sc', .iface 118 (.pointer (some ⟨b2, 0, none⟩))] W fun en w' => (∃ u, en = .returned u ∧ NodeT 0 w' u (joinedT 0 x s y)) ∧ W.grownBy w' none) := (fun (W : World) (h : w.grownBy W none) => hJ b1 _ x y so sn sc' s W (NodeT.kept _ hx (FrT.of h)) (NodeT.kept _ hy (FrT.of h)) (hok.ok x (List.mem_of_getElem? h1)) (hok.ok y (List.mem_of_getElem? h3)) (hs.kept (FrT.of h)) (hok.vs s (List.mem_of_getElem? h2)) hj lw1 lw2)
 have G1 := hid_intro (grown_al (grown_al (World.grownBy.refl w none) (.cells #[.slice (some ⟨g, off, none⟩) m c, .slice (some ⟨sg, soff, none⟩) sm sc] 77)) (.cells #[.slice none 0 0, .slice none 0 0] 77))
 have d1 := G1.out.cell c1 (by simp)
 have d2 := G1.out.cell c2 (by simp)
 have d3 := G1.out.cell c3 (by simp)
 have R1 := hid_intro (hr.kept (FrT.of G1.out))
 have B1 : Hid (BxT ((w.alloc (.cells #[.slice (some ⟨g, off, none⟩) m c, .slice (some ⟨sg, soff, none⟩) sm sc] 77)).alloc (.cells #[.slice none 0 0, .slice none 0 0] 77)) (w.heap.size + 1)) := ⟨_, _, heap_at1 w _ _ _⟩
 have e0 : ((w.alloc (.cells #[.slice (some ⟨g, off, none⟩) m c, .slice (some ⟨sg, soff, none⟩) sm sc] 77)).alloc (.cells #[.slice none 0 0, .slice none 0 0] 77)).cell? ⟨w.heap.size, 0, none⟩ = some (.slice (some ⟨g, off, none⟩) m c) := cell_heap (heap_old (heap_at0 w _ _)) rfl
 have e1 : ((w.alloc (.cells #[.slice (some ⟨g, off, none⟩) m c, .slice (some ⟨sg, soff, none⟩) sm sc] 77)).alloc (.cells #[.slice none 0 0, .slice none 0 0] 77)).cell? ⟨w.heap.size, 1, none⟩ = some (.slice (some ⟨sg, soff, none⟩) sm sc) := cell_heap (heap_old (heap_at0 w _ _)) rfl
 have hme := mL_joined
 have v1 : (0 : Int) ≤ (i : Int) ∧ (i : Int) < (m : Int) := by omega
 obtain ⟨j, hj1⟩ : ∃ j, i + 1 = j := ⟨_, rfl⟩
 rw [hj1] at d2
 have v2 : (0 : Int) ≤ (j : Int) ∧ (j : Int) < (m : Int) := by omega
 have ej : (i : Int) + 1 = (j : Int) := by omega
 have wj : IntKind.i64.wrap (j : Int) = (j : Int) := by rw [IntKind.wrap_i64]; omega
 have v3 : (0 : Int) ≤ (i : Int) ∧ (i : Int) < (sm : Int) := by omega
 have HY := hid_intro (NodeT.kept _ hy (FrT.of G1.out))
 have SL : r.ss.length ≤ 5000 := by
  have := hok.sep.len
  omega
 clear hx hy hs hr c1 c2 c3 hok
 go_enter Tryz.func174, Tryz.ntmps174
 go_wp2_with fail
 generalize hw1 : (w.alloc (.cells #[.slice (some ⟨g, off, none⟩) m c, .slice (some ⟨sg, soff, none⟩) sm sc] 77)).alloc (.cells #[.slice none 0 0, .slice none 0 0] 77) = w1 at *
 have T1 := hid_intro (And.intro e0 (And.intro e1 (And.intro d1 (And.intro d2 d3))))
 go_upto_region 1 with fail
 go_cut [5] from 6 to 25 (fun s5 wx => ∃ b9, s5 = .iface 118 (.pointer (some ⟨b9, 0, none⟩)) ∧ NodeT 0 wx (.iface 118 (.pointer (some ⟨b9, 0, none⟩))) (joinedT 0 x s y) ∧ w1.grownBy wx none)
 case first =>
  go_region_held3 (fun w' => w'.cell? ⟨w.heap.size, 0, none⟩ = some (.slice (some ⟨g, off, none⟩) m c) ∧ w'.cell? ⟨w.heap.size, 1, none⟩ = some (.slice (some ⟨sg, soff, none⟩) sm sc) ∧ w'.cell? ⟨g, off + i, none⟩ = some (.iface 118 (.pointer (some ⟨b1, 0, none⟩))) ∧ w'.cell? ⟨g, off + j, none⟩ = some (.iface 118 (.pointer (some ⟨b2, 0, none⟩))) ∧ w'.cell? ⟨sg, soff + i, none⟩ = some (.slice so sn sc')) (first | exact T1.out | exact T2 | go_keep) (first
   | (go_at_call 147; (with_reducible refine (JQ.out _ (grown_dw G1.out)).mono ?_); rintro en w2 ⟨⟨u9, rfl, hu9⟩, hg2⟩; obtain ⟨b9, rfl⟩ := hu9.atL; have g9 := grown_trans ((Qt.refl w1).drew.grown none) hg2; have T2 := And.intro (g9.cell T1.out.1 (by simp)) (And.intro (g9.cell T1.out.2.1 (by simp)) (And.intro (g9.cell T1.out.2.2.1 (by simp)) (And.intro (g9.cell T1.out.2.2.2.1 (by simp)) (g9.cell T1.out.2.2.2.2 (by simp)))))))
  all_goals (go_wp2_with fail; go_meet; exact ⟨b9, rfl, hu9, g9⟩)
 case rest =>
  obtain ⟨b9, rfl, hu9, hg9⟩ := hcut
  have U9 := hid_intro hu9
  have G9 := hid_intro hg9
  have R9 := R1.out.kept (FrT.of hg9)
  have t0 := hg9.cell T1.out.1 (by simp)
  have t1 := hg9.cell T1.out.2.1 (by simp)
  have B9 := B1.out.keptN hg9
  have capn := R9.ns.cap
  have caps := R9.ss.cap
  have l1 : (r.ns.take i).length ≤ 5000 ∧ (r.ns.drop (i + 2)).length ≤ 5000 ∧ (r.ss.take i).length ≤ 5000 ∧ (r.ss.drop (i + 1)).length ≤ 5000 := by
   rw [List.length_take, List.length_drop, List.length_take, List.length_drop]
   have hsl := SL
   omega
  have TT := hid_intro (And.intro t0 t1)
  obtain ⟨k2, hk2⟩ : ∃ k2, i + 2 = k2 := ⟨_, rfl⟩
  clear T1 R1 HY JQ d1 d2 d3 e0 e1 hg9 hu9
  by_cases q1 : c = k2
  ·have hmk : c = m := by omega
   subst q1
   subst hmk
   by_cases q2 : sc = j
   ·have hsk : sc = sm := by omega
    subst q2
    subst hsk
    have N1 : Hid (NsT 0 wc (some ⟨g, off, none⟩) i c (r.ns.take i)) := SlT.take R9.ns (by omega)
    have N3 : Hid (NsT 0 wc (some ⟨g, off, none⟩) 0 0 (r.ns.drop (i + 2))) := SlT.end R9.ns (by omega) _ _ (by omega) (fun e => by cases e) (fun x hx => by cases hx; exact ⟨_, _, rfl⟩)
    have M1 : Hid (SsT wc (some ⟨sg, soff, none⟩) i sc (r.ss.take i)) := SlT.take R9.ss (by omega)
    have M2 : Hid (SsT wc (some ⟨sg, soff, none⟩) 0 0 (r.ss.drop (i + 1))) := SlT.end R9.ss (by omega) _ _ (by omega) (fun e => by cases e) (fun x hx => by cases hx; exact ⟨_, _, rfl⟩)
    have CN : Hid (∀ (W : World) (q : Nat), wc.grownBy W none → (∃ p, W.heap[q]? = some (.cells #[.slice (some ⟨g, off, none⟩) i c, .slice (some ⟨p, 0, none⟩) 1 1, .slice (some ⟨g, off, none⟩) 0 0] 75 (0, 0)) ∧ W.heap[p]? = some (.cells #[.iface 118 (.pointer (some ⟨b9, 0, none⟩))] 82 (0, 0))) → Calls Tryz.prog 172 #[.slice (some ⟨q, 0, none⟩) 3 3] W fun en w' => (∃ a N c, en = .returned (.slice a N c) ∧ NsT 0 w' a N c (joinAt r i (joinedT 0 x s y)).ns) ∧ W.grownBy w' none) := fun W q hg ⟨p, hq, hp⟩ =>
     catAt3_tn (InT 0) (in_keptN _) hq (N1.out.kept (FrT.of hg)) ⟨[[_]], es_one hp rfl, ElyT.one ⟨_, rfl, NodeT.kept _ U9.out (FrT.of hg)⟩⟩ (N3.out.kept (FrT.of hg)) (by rw [List.length_append, List.length_append]; simp only [List.length_cons, List.length_nil]; omega)
    have CS : Hid (∀ (W : World) (q : Nat), wc.grownBy W none → W.heap[q]? = some (.cells #[.slice (some ⟨sg, soff, none⟩) i sc, .slice (some ⟨sg, soff, none⟩) 0 0] 51 (0, 0)) → Calls Tryz.prog 173 #[.slice (some ⟨q, 0, none⟩) 2 2] W fun en w' => (∃ a N c, en = .returned (.slice a N c) ∧ SsT w' a N c (joinAt r i (joinedT 0 x s y)).ss) ∧ W.grownBy w' none) := fun W q hg hq =>
     catAt2_ts IbT ib_keptN hq (M1.out.kept (FrT.of hg)) (M2.out.kept (FrT.of hg)) (by rw [List.length_append]; omega)
    have y1 : (0 : Int) ≤ (i : Int) := by omega
    have y2 : (i : Int) ≤ (c : Int) := by omega
    have y3 : (i : Int) ≤ (sc : Int) := by omega
    have y4 : (i : Int) + 2 = (c : Int) := by omega
    have y5 : IntKind.i64.wrap (c : Int) = (c : Int) := by rw [IntKind.wrap_i64]; omega
    have y6 : (0 : Int) ≤ (c : Int) := by omega
    have y7 : (c : Int) ≤ (c : Int) := by omega
    have y8 : (c : Int) ≤ (c : Int) := by omega
    have y9 : (0 : Int) ≤ (sc : Int) := by omega
    have ya : (sc : Int) ≤ (sc : Int) := by omega
    have yb : (sc : Int) ≤ (sc : Int) := by omega
    have BB := hid_intro B9
    clear B9 R9 N1 N3 M1 M2 l1 hj1 hk2 i1
    go_upto_region 2 with fail
    go_region_held3 (fun w' => w'.cell? ⟨w.heap.size, 0, none⟩ = some (.slice (some ⟨g, off, none⟩) c c) ∧ w'.cell? ⟨w.heap.size, 1, none⟩ = some (.slice (some ⟨sg, soff, none⟩) sc sc)) (first | (with_reducible exact TT.out) | (with_reducible exact T5) | (with_reducible exact T6) | ((with_reducible refine And.intro (keep1 TT.out.1 ?_) (keep1 TT.out.2 ?_)) <;> (repeat' first | (with_reducible exact World.grownBy.refl _ _) | (with_reducible exact H5) | (with_reducible exact H6) | (with_reducible apply grown_dw) | (with_reducible apply grown_al)); done) | (refine And.intro ?_ ?_ <;> go_keep) | go_keep) (first
     | (go_at_call 172; (with_reducible refine (CN.out _ _ ?_ ?_).mono ?_); (· (repeat' first | (with_reducible exact World.grownBy.refl _ _) | (with_reducible exact H5) | (with_reducible apply grown_dw) | (with_reducible apply grown_al))); (· apply Exists.intro; apply And.intro; (· (repeat' first | (with_reducible exact heap_at0 _ _ _) | (with_reducible exact heap_at1 _ _ _ _) | (with_reducible exact heap_at2 _ _ _ _ _) | (with_reducible apply heap_dw) | (with_reducible apply heap_old) | (with_reducible refine heap_kept ?_ hg5))); (· (repeat' first | (with_reducible exact heap_at0 _ _ _) | (with_reducible exact heap_at1 _ _ _ _) | (with_reducible exact heap_at2 _ _ _ _ _) | (with_reducible apply heap_dw) | (with_reducible apply heap_old) | (with_reducible refine heap_kept ?_ hg5)))); rintro en w6 ⟨⟨a6, n6, c6, rfl, hN⟩, hg6⟩; have H6 : wc.grownBy w6 none := grown_trans (by (repeat' first | (with_reducible exact World.grownBy.refl _ _) | (with_reducible exact H5) | (with_reducible apply grown_dw) | (with_reducible apply grown_al))) hg6; have hS6 := SsT.kept hS (FrT.of (show w5.grownBy w6 none from grown_trans (by (repeat' first | (with_reducible exact World.grownBy.refl _ _) | (with_reducible apply grown_dw) | (with_reducible apply grown_al))) hg6)); have T6 := And.intro (H6.cell TT.out.1 (by simp)) (H6.cell TT.out.2 (by simp)); obtain ⟨⟨x1, cx⟩, ⟨y1, cy⟩, z1, z2⟩ := (BB.out.keptN H6).cells; have RR : RowT 0 w6 a6 n6 c6 a5 n5 c5 (joinAt r i (joinedT 0 x s y)) := ⟨hN, hS6⟩)
     | (go_at_call 173; (with_reducible refine (CS.out _ _ ?_ ?_).mono ?_); (· (repeat' first | (with_reducible exact World.grownBy.refl _ _) | (with_reducible exact H5) | (with_reducible apply grown_dw) | (with_reducible apply grown_al))); (· (repeat' first | (with_reducible exact heap_at0 _ _ _) | (with_reducible exact heap_at1 _ _ _ _) | (with_reducible exact heap_at2 _ _ _ _ _) | (with_reducible apply heap_dw) | (with_reducible apply heap_old) | (with_reducible refine heap_kept ?_ hg5))); rintro en w6 ⟨⟨a6, n6, c6, rfl, hS⟩, hg6⟩; have H6 : wc.grownBy w6 none := grown_trans (by (repeat' first | (with_reducible exact World.grownBy.refl _ _) | (with_reducible exact H5) | (with_reducible apply grown_dw) | (with_reducible apply grown_al))) hg6; have hN6 := NsT.kept hN (FrT.of (show w5.grownBy w6 none from grown_trans (by (repeat' first | (with_reducible exact World.grownBy.refl _ _) | (with_reducible apply grown_dw) | (with_reducible apply grown_al))) hg6)); have T6 := And.intro (H6.cell TT.out.1 (by simp)) (H6.cell TT.out.2 (by simp)); obtain ⟨⟨x1, cx⟩, ⟨y1, cy⟩, z1, z2⟩ := (BB.out.keptN H6).cells; have RR : RowT 0 w6 a5 n5 c5 a6 n6 c6 (joinAt r i (joinedT 0 x s y)) := ⟨hN6, hS⟩)
     | (go_at_call 172; (with_reducible refine (CN.out _ _ ?_ ?_).mono ?_); (· (repeat' first | (with_reducible exact World.grownBy.refl _ _) | (with_reducible apply grown_dw) | (with_reducible apply grown_al))); (· apply Exists.intro; apply And.intro; (· (repeat' first | (with_reducible exact heap_at0 _ _ _) | (with_reducible exact heap_at1 _ _ _ _) | (with_reducible exact heap_at2 _ _ _ _ _) | (with_reducible apply heap_dw) | (with_reducible apply heap_old))); (· (repeat' first | (with_reducible exact heap_at0 _ _ _) | (with_reducible exact heap_at1 _ _ _ _) | (with_reducible exact heap_at2 _ _ _ _ _) | (with_reducible apply heap_dw) | (with_reducible apply heap_old)))); rintro en w5 ⟨⟨a5, n5, c5, rfl, hN⟩, hg5⟩; have H5 : wc.grownBy w5 none := grown_trans (by (repeat' first | (with_reducible exact World.grownBy.refl _ _) | (with_reducible apply grown_dw) | (with_reducible apply grown_al))) hg5; have T5 := And.intro (H5.cell TT.out.1 (by simp)) (H5.cell TT.out.2 (by simp)))
     | (go_at_call 173; (with_reducible refine (CS.out _ _ ?_ ?_).mono ?_); (· (repeat' first | (with_reducible exact World.grownBy.refl _ _) | (with_reducible apply grown_dw) | (with_reducible apply grown_al))); (· (repeat' first | (with_reducible exact heap_at0 _ _ _) | (with_reducible exact heap_at1 _ _ _ _) | (with_reducible exact heap_at2 _ _ _ _ _) | (with_reducible apply heap_dw) | (with_reducible apply heap_old))); rintro en w5 ⟨⟨a5, n5, c5, rfl, hS⟩, hg5⟩; have H5 : wc.grownBy w5 none := grown_trans (by (repeat' first | (with_reducible exact World.grownBy.refl _ _) | (with_reducible apply grown_dw) | (with_reducible apply grown_al))) hg5; have T5 := And.intro (H5.cell TT.out.1 (by simp)) (H5.cell TT.out.2 (by simp))))
    all_goals go_wp2
    all_goals (refine ret_rowG (p := 4) rfl (BB.out.keptN H6) (by omega) RR (grown_trans G1.out (grown_trans G9.out H6)) ?_ ?_ <;> rfl)
   ·have N1 : Hid (NsT 0 wc (some ⟨g, off, none⟩) i c (r.ns.take i)) := SlT.take R9.ns (by omega)
    have N3 : Hid (NsT 0 wc (some ⟨g, off, none⟩) 0 0 (r.ns.drop (i + 2))) := SlT.end R9.ns (by omega) _ _ (by omega) (fun e => by cases e) (fun x hx => by cases hx; exact ⟨_, _, rfl⟩)
    have M1 : Hid (SsT wc (some ⟨sg, soff, none⟩) i sc (r.ss.take i)) := SlT.take R9.ss (by omega)
    have M2 : Hid (SsT wc (some ⟨sg, soff + j, none⟩) (sm - j) (sc - j) (r.ss.drop (i + 1))) := by have := SlT.drop R9.ss (i := i + 1) (by omega); rw [Nat.mul_one] at this; rw [← hj1]; exact this
    have CN : Hid (∀ (W : World) (q : Nat), wc.grownBy W none → (∃ p, W.heap[q]? = some (.cells #[.slice (some ⟨g, off, none⟩) i c, .slice (some ⟨p, 0, none⟩) 1 1, .slice (some ⟨g, off, none⟩) 0 0] 75 (0, 0)) ∧ W.heap[p]? = some (.cells #[.iface 118 (.pointer (some ⟨b9, 0, none⟩))] 82 (0, 0))) → Calls Tryz.prog 172 #[.slice (some ⟨q, 0, none⟩) 3 3] W fun en w' => (∃ a N c, en = .returned (.slice a N c) ∧ NsT 0 w' a N c (joinAt r i (joinedT 0 x s y)).ns) ∧ W.grownBy w' none) := fun W q hg ⟨p, hq, hp⟩ =>
     catAt3_tn (InT 0) (in_keptN _) hq (N1.out.kept (FrT.of hg)) ⟨[[_]], es_one hp rfl, ElyT.one ⟨_, rfl, NodeT.kept _ U9.out (FrT.of hg)⟩⟩ (N3.out.kept (FrT.of hg)) (by rw [List.length_append, List.length_append]; simp only [List.length_cons, List.length_nil]; omega)
    have CS : Hid (∀ (W : World) (q : Nat), wc.grownBy W none → W.heap[q]? = some (.cells #[.slice (some ⟨sg, soff, none⟩) i sc, .slice (some ⟨sg, soff + j, none⟩) (sm - j) (sc - j)] 51 (0, 0)) → Calls Tryz.prog 173 #[.slice (some ⟨q, 0, none⟩) 2 2] W fun en w' => (∃ a N c, en = .returned (.slice a N c) ∧ SsT w' a N c (joinAt r i (joinedT 0 x s y)).ss) ∧ W.grownBy w' none) := fun W q hg hq =>
     catAt2_ts IbT ib_keptN hq (M1.out.kept (FrT.of hg)) (M2.out.kept (FrT.of hg)) (by rw [List.length_append]; omega)
    have y1 : (0 : Int) ≤ (i : Int) := by omega
    have y2 : (i : Int) ≤ (c : Int) := by omega
    have y3 : (i : Int) ≤ (sc : Int) := by omega
    have y4 : (i : Int) + 2 = (c : Int) := by omega
    have y5 : IntKind.i64.wrap (c : Int) = (c : Int) := by rw [IntKind.wrap_i64]; omega
    have y6 : (0 : Int) ≤ (c : Int) := by omega
    have y7 : (c : Int) ≤ (c : Int) := by omega
    have y8 : (c : Int) ≤ (c : Int) := by omega
    have y9 : (0 : Int) ≤ (j : Int) := by omega
    have ya : (j : Int) ≤ (sm : Int) := by omega
    have yb : (j : Int) ≤ (sc : Int) := by omega
    have BB := hid_intro B9
    clear B9 R9 N1 N3 M1 M2 l1 hj1 hk2 i1
    go_upto_region 2 with fail
    go_region_held3 (fun w' => w'.cell? ⟨w.heap.size, 0, none⟩ = some (.slice (some ⟨g, off, none⟩) c c) ∧ w'.cell? ⟨w.heap.size, 1, none⟩ = some (.slice (some ⟨sg, soff, none⟩) sm sc)) (first | (with_reducible exact TT.out) | (with_reducible exact T5) | (with_reducible exact T6) | ((with_reducible refine And.intro (keep1 TT.out.1 ?_) (keep1 TT.out.2 ?_)) <;> (repeat' first | (with_reducible exact World.grownBy.refl _ _) | (with_reducible exact H5) | (with_reducible exact H6) | (with_reducible apply grown_dw) | (with_reducible apply grown_al)); done) | (refine And.intro ?_ ?_ <;> go_keep) | go_keep) (first
     | (go_at_call 172; (with_reducible refine (CN.out _ _ ?_ ?_).mono ?_); (· (repeat' first | (with_reducible exact World.grownBy.refl _ _) | (with_reducible exact H5) | (with_reducible apply grown_dw) | (with_reducible apply grown_al))); (· apply Exists.intro; apply And.intro; (· (repeat' first | (with_reducible exact heap_at0 _ _ _) | (with_reducible exact heap_at1 _ _ _ _) | (with_reducible exact heap_at2 _ _ _ _ _) | (with_reducible apply heap_dw) | (with_reducible apply heap_old) | (with_reducible refine heap_kept ?_ hg5))); (· (repeat' first | (with_reducible exact heap_at0 _ _ _) | (with_reducible exact heap_at1 _ _ _ _) | (with_reducible exact heap_at2 _ _ _ _ _) | (with_reducible apply heap_dw) | (with_reducible apply heap_old) | (with_reducible refine heap_kept ?_ hg5)))); rintro en w6 ⟨⟨a6, n6, c6, rfl, hN⟩, hg6⟩; have H6 : wc.grownBy w6 none := grown_trans (by (repeat' first | (with_reducible exact World.grownBy.refl _ _) | (with_reducible exact H5) | (with_reducible apply grown_dw) | (with_reducible apply grown_al))) hg6; have hS6 := SsT.kept hS (FrT.of (show w5.grownBy w6 none from grown_trans (by (repeat' first | (with_reducible exact World.grownBy.refl _ _) | (with_reducible apply grown_dw) | (with_reducible apply grown_al))) hg6)); have T6 := And.intro (H6.cell TT.out.1 (by simp)) (H6.cell TT.out.2 (by simp)); obtain ⟨⟨x1, cx⟩, ⟨y1, cy⟩, z1, z2⟩ := (BB.out.keptN H6).cells; have RR : RowT 0 w6 a6 n6 c6 a5 n5 c5 (joinAt r i (joinedT 0 x s y)) := ⟨hN, hS6⟩)
     | (go_at_call 173; (with_reducible refine (CS.out _ _ ?_ ?_).mono ?_); (· (repeat' first | (with_reducible exact World.grownBy.refl _ _) | (with_reducible exact H5) | (with_reducible apply grown_dw) | (with_reducible apply grown_al))); (· (repeat' first | (with_reducible exact heap_at0 _ _ _) | (with_reducible exact heap_at1 _ _ _ _) | (with_reducible exact heap_at2 _ _ _ _ _) | (with_reducible apply heap_dw) | (with_reducible apply heap_old) | (with_reducible refine heap_kept ?_ hg5))); rintro en w6 ⟨⟨a6, n6, c6, rfl, hS⟩, hg6⟩; have H6 : wc.grownBy w6 none := grown_trans (by (repeat' first | (with_reducible exact World.grownBy.refl _ _) | (with_reducible exact H5) | (with_reducible apply grown_dw) | (with_reducible apply grown_al))) hg6; have hN6 := NsT.kept hN (FrT.of (show w5.grownBy w6 none from grown_trans (by (repeat' first | (with_reducible exact World.grownBy.refl _ _) | (with_reducible apply grown_dw) | (with_reducible apply grown_al))) hg6)); have T6 := And.intro (H6.cell TT.out.1 (by simp)) (H6.cell TT.out.2 (by simp)); obtain ⟨⟨x1, cx⟩, ⟨y1, cy⟩, z1, z2⟩ := (BB.out.keptN H6).cells; have RR : RowT 0 w6 a5 n5 c5 a6 n6 c6 (joinAt r i (joinedT 0 x s y)) := ⟨hN6, hS⟩)
     | (go_at_call 172; (with_reducible refine (CN.out _ _ ?_ ?_).mono ?_); (· (repeat' first | (with_reducible exact World.grownBy.refl _ _) | (with_reducible apply grown_dw) | (with_reducible apply grown_al))); (· apply Exists.intro; apply And.intro; (· (repeat' first | (with_reducible exact heap_at0 _ _ _) | (with_reducible exact heap_at1 _ _ _ _) | (with_reducible exact heap_at2 _ _ _ _ _) | (with_reducible apply heap_dw) | (with_reducible apply heap_old))); (· (repeat' first | (with_reducible exact heap_at0 _ _ _) | (with_reducible exact heap_at1 _ _ _ _) | (with_reducible exact heap_at2 _ _ _ _ _) | (with_reducible apply heap_dw) | (with_reducible apply heap_old)))); rintro en w5 ⟨⟨a5, n5, c5, rfl, hN⟩, hg5⟩; have H5 : wc.grownBy w5 none := grown_trans (by (repeat' first | (with_reducible exact World.grownBy.refl _ _) | (with_reducible apply grown_dw) | (with_reducible apply grown_al))) hg5; have T5 := And.intro (H5.cell TT.out.1 (by simp)) (H5.cell TT.out.2 (by simp)))
     | (go_at_call 173; (with_reducible refine (CS.out _ _ ?_ ?_).mono ?_); (· (repeat' first | (with_reducible exact World.grownBy.refl _ _) | (with_reducible apply grown_dw) | (with_reducible apply grown_al))); (· (repeat' first | (with_reducible exact heap_at0 _ _ _) | (with_reducible exact heap_at1 _ _ _ _) | (with_reducible exact heap_at2 _ _ _ _ _) | (with_reducible apply heap_dw) | (with_reducible apply heap_old))); rintro en w5 ⟨⟨a5, n5, c5, rfl, hS⟩, hg5⟩; have H5 : wc.grownBy w5 none := grown_trans (by (repeat' first | (with_reducible exact World.grownBy.refl _ _) | (with_reducible apply grown_dw) | (with_reducible apply grown_al))) hg5; have T5 := And.intro (H5.cell TT.out.1 (by simp)) (H5.cell TT.out.2 (by simp))))
    all_goals go_wp2
    all_goals (refine ret_rowG (p := 4) rfl (BB.out.keptN H6) (by omega) RR (grown_trans G1.out (grown_trans G9.out H6)) ?_ ?_ <;> rfl)
  ·by_cases q2 : sc = j
   ·have hsk : sc = sm := by omega
    subst q2
    subst hsk
    have N1 : Hid (NsT 0 wc (some ⟨g, off, none⟩) i c (r.ns.take i)) := SlT.take R9.ns (by omega)
    have N3 : Hid (NsT 0 wc (some ⟨g, off + k2, none⟩) (m - k2) (c - k2) (r.ns.drop (i + 2))) := by have := SlT.drop R9.ns (i := i + 2) (by omega); rw [Nat.mul_one] at this; rw [← hk2]; exact this
    have M1 : Hid (SsT wc (some ⟨sg, soff, none⟩) i sc (r.ss.take i)) := SlT.take R9.ss (by omega)
    have M2 : Hid (SsT wc (some ⟨sg, soff, none⟩) 0 0 (r.ss.drop (i + 1))) := SlT.end R9.ss (by omega) _ _ (by omega) (fun e => by cases e) (fun x hx => by cases hx; exact ⟨_, _, rfl⟩)
    have CN : Hid (∀ (W : World) (q : Nat), wc.grownBy W none → (∃ p, W.heap[q]? = some (.cells #[.slice (some ⟨g, off, none⟩) i c, .slice (some ⟨p, 0, none⟩) 1 1, .slice (some ⟨g, off + k2, none⟩) (m - k2) (c - k2)] 75 (0, 0)) ∧ W.heap[p]? = some (.cells #[.iface 118 (.pointer (some ⟨b9, 0, none⟩))] 82 (0, 0))) → Calls Tryz.prog 172 #[.slice (some ⟨q, 0, none⟩) 3 3] W fun en w' => (∃ a N c, en = .returned (.slice a N c) ∧ NsT 0 w' a N c (joinAt r i (joinedT 0 x s y)).ns) ∧ W.grownBy w' none) := fun W q hg ⟨p, hq, hp⟩ =>
     catAt3_tn (InT 0) (in_keptN _) hq (N1.out.kept (FrT.of hg)) ⟨[[_]], es_one hp rfl, ElyT.one ⟨_, rfl, NodeT.kept _ U9.out (FrT.of hg)⟩⟩ (N3.out.kept (FrT.of hg)) (by rw [List.length_append, List.length_append]; simp only [List.length_cons, List.length_nil]; omega)
    have CS : Hid (∀ (W : World) (q : Nat), wc.grownBy W none → W.heap[q]? = some (.cells #[.slice (some ⟨sg, soff, none⟩) i sc, .slice (some ⟨sg, soff, none⟩) 0 0] 51 (0, 0)) → Calls Tryz.prog 173 #[.slice (some ⟨q, 0, none⟩) 2 2] W fun en w' => (∃ a N c, en = .returned (.slice a N c) ∧ SsT w' a N c (joinAt r i (joinedT 0 x s y)).ss) ∧ W.grownBy w' none) := fun W q hg hq =>
     catAt2_ts IbT ib_keptN hq (M1.out.kept (FrT.of hg)) (M2.out.kept (FrT.of hg)) (by rw [List.length_append]; omega)
    have y1 : (0 : Int) ≤ (i : Int) := by omega
    have y2 : (i : Int) ≤ (c : Int) := by omega
    have y3 : (i : Int) ≤ (sc : Int) := by omega
    have y4 : (i : Int) + 2 = (k2 : Int) := by omega
    have y5 : IntKind.i64.wrap (k2 : Int) = (k2 : Int) := by rw [IntKind.wrap_i64]; omega
    have y6 : (0 : Int) ≤ (k2 : Int) := by omega
    have y7 : (k2 : Int) ≤ (m : Int) := by omega
    have y8 : (k2 : Int) ≤ (c : Int) := by omega
    have y9 : (0 : Int) ≤ (sc : Int) := by omega
    have ya : (sc : Int) ≤ (sc : Int) := by omega
    have yb : (sc : Int) ≤ (sc : Int) := by omega
    have BB := hid_intro B9
    clear B9 R9 N1 N3 M1 M2 l1 hj1 hk2 i1
    go_upto_region 2 with fail
    go_region_held3 (fun w' => w'.cell? ⟨w.heap.size, 0, none⟩ = some (.slice (some ⟨g, off, none⟩) m c) ∧ w'.cell? ⟨w.heap.size, 1, none⟩ = some (.slice (some ⟨sg, soff, none⟩) sc sc)) (first | (with_reducible exact TT.out) | (with_reducible exact T5) | (with_reducible exact T6) | ((with_reducible refine And.intro (keep1 TT.out.1 ?_) (keep1 TT.out.2 ?_)) <;> (repeat' first | (with_reducible exact World.grownBy.refl _ _) | (with_reducible exact H5) | (with_reducible exact H6) | (with_reducible apply grown_dw) | (with_reducible apply grown_al)); done) | (refine And.intro ?_ ?_ <;> go_keep) | go_keep) (first
     | (go_at_call 172; (with_reducible refine (CN.out _ _ ?_ ?_).mono ?_); (· (repeat' first | (with_reducible exact World.grownBy.refl _ _) | (with_reducible exact H5) | (with_reducible apply grown_dw) | (with_reducible apply grown_al))); (· apply Exists.intro; apply And.intro; (· (repeat' first | (with_reducible exact heap_at0 _ _ _) | (with_reducible exact heap_at1 _ _ _ _) | (with_reducible exact heap_at2 _ _ _ _ _) | (with_reducible apply heap_dw) | (with_reducible apply heap_old) | (with_reducible refine heap_kept ?_ hg5))); (· (repeat' first | (with_reducible exact heap_at0 _ _ _) | (with_reducible exact heap_at1 _ _ _ _) | (with_reducible exact heap_at2 _ _ _ _ _) | (with_reducible apply heap_dw) | (with_reducible apply heap_old) | (with_reducible refine heap_kept ?_ hg5)))); rintro en w6 ⟨⟨a6, n6, c6, rfl, hN⟩, hg6⟩; have H6 : wc.grownBy w6 none := grown_trans (by (repeat' first | (with_reducible exact World.grownBy.refl _ _) | (with_reducible exact H5) | (with_reducible apply grown_dw) | (with_reducible apply grown_al))) hg6; have hS6 := SsT.kept hS (FrT.of (show w5.grownBy w6 none from grown_trans (by (repeat' first | (with_reducible exact World.grownBy.refl _ _) | (with_reducible apply grown_dw) | (with_reducible apply grown_al))) hg6)); have T6 := And.intro (H6.cell TT.out.1 (by simp)) (H6.cell TT.out.2 (by simp)); obtain ⟨⟨x1, cx⟩, ⟨y1, cy⟩, z1, z2⟩ := (BB.out.keptN H6).cells; have RR : RowT 0 w6 a6 n6 c6 a5 n5 c5 (joinAt r i (joinedT 0 x s y)) := ⟨hN, hS6⟩)
     | (go_at_call 173; (with_reducible refine (CS.out _ _ ?_ ?_).mono ?_); (· (repeat' first | (with_reducible exact World.grownBy.refl _ _) | (with_reducible exact H5) | (with_reducible apply grown_dw) | (with_reducible apply grown_al))); (· (repeat' first | (with_reducible exact heap_at0 _ _ _) | (with_reducible exact heap_at1 _ _ _ _) | (with_reducible exact heap_at2 _ _ _ _ _) | (with_reducible apply heap_dw) | (with_reducible apply heap_old) | (with_reducible refine heap_kept ?_ hg5))); rintro en w6 ⟨⟨a6, n6, c6, rfl, hS⟩, hg6⟩; have H6 : wc.grownBy w6 none := grown_trans (by (repeat' first | (with_reducible exact World.grownBy.refl _ _) | (with_reducible exact H5) | (with_reducible apply grown_dw) | (with_reducible apply grown_al))) hg6; have hN6 := NsT.kept hN (FrT.of (show w5.grownBy w6 none from grown_trans (by (repeat' first | (with_reducible exact World.grownBy.refl _ _) | (with_reducible apply grown_dw) | (with_reducible apply grown_al))) hg6)); have T6 := And.intro (H6.cell TT.out.1 (by simp)) (H6.cell TT.out.2 (by simp)); obtain ⟨⟨x1, cx⟩, ⟨y1, cy⟩, z1, z2⟩ := (BB.out.keptN H6).cells; have RR : RowT 0 w6 a5 n5 c5 a6 n6 c6 (joinAt r i (joinedT 0 x s y)) := ⟨hN6, hS⟩)
     | (go_at_call 172; (with_reducible refine (CN.out _ _ ?_ ?_).mono ?_); (· (repeat' first | (with_reducible exact World.grownBy.refl _ _) | (with_reducible apply grown_dw) | (with_reducible apply grown_al))); (· apply Exists.intro; apply And.intro; (· (repeat' first | (with_reducible exact heap_at0 _ _ _) | (with_reducible exact heap_at1 _ _ _ _) | (with_reducible exact heap_at2 _ _ _ _ _) | (with_reducible apply heap_dw) | (with_reducible apply heap_old))); (· (repeat' first | (with_reducible exact heap_at0 _ _ _) | (with_reducible exact heap_at1 _ _ _ _) | (with_reducible exact heap_at2 _ _ _ _ _) | (with_reducible apply heap_dw) | (with_reducible apply heap_old)))); rintro en w5 ⟨⟨a5, n5, c5, rfl, hN⟩, hg5⟩; have H5 : wc.grownBy w5 none := grown_trans (by (repeat' first | (with_reducible exact World.grownBy.refl _ _) | (with_reducible apply grown_dw) | (with_reducible apply grown_al))) hg5; have T5 := And.intro (H5.cell TT.out.1 (by simp)) (H5.cell TT.out.2 (by simp)))
     | (go_at_call 173; (with_reducible refine (CS.out _ _ ?_ ?_).mono ?_); (· (repeat' first | (with_reducible exact World.grownBy.refl _ _) | (with_reducible apply grown_dw) | (with_reducible apply grown_al))); (· (repeat' first | (with_reducible exact heap_at0 _ _ _) | (with_reducible exact heap_at1 _ _ _ _) | (with_reducible exact heap_at2 _ _ _ _ _) | (with_reducible apply heap_dw) | (with_reducible apply heap_old))); rintro en w5 ⟨⟨a5, n5, c5, rfl, hS⟩, hg5⟩; have H5 : wc.grownBy w5 none := grown_trans (by (repeat' first | (with_reducible exact World.grownBy.refl _ _) | (with_reducible apply grown_dw) | (with_reducible apply grown_al))) hg5; have T5 := And.intro (H5.cell TT.out.1 (by simp)) (H5.cell TT.out.2 (by simp))))
    all_goals go_wp2
    all_goals (refine ret_rowG (p := 4) rfl (BB.out.keptN H6) (by omega) RR (grown_trans G1.out (grown_trans G9.out H6)) ?_ ?_ <;> rfl)
   ·have N1 : Hid (NsT 0 wc (some ⟨g, off, none⟩) i c (r.ns.take i)) := SlT.take R9.ns (by omega)
    have N3 : Hid (NsT 0 wc (some ⟨g, off + k2, none⟩) (m - k2) (c - k2) (r.ns.drop (i + 2))) := by have := SlT.drop R9.ns (i := i + 2) (by omega); rw [Nat.mul_one] at this; rw [← hk2]; exact this
    have M1 : Hid (SsT wc (some ⟨sg, soff, none⟩) i sc (r.ss.take i)) := SlT.take R9.ss (by omega)
    have M2 : Hid (SsT wc (some ⟨sg, soff + j, none⟩) (sm - j) (sc - j) (r.ss.drop (i + 1))) := by have := SlT.drop R9.ss (i := i + 1) (by omega); rw [Nat.mul_one] at this; rw [← hj1]; exact this
    have CN : Hid (∀ (W : World) (q : Nat), wc.grownBy W none → (∃ p, W.heap[q]? = some (.cells #[.slice (some ⟨g, off, none⟩) i c, .slice (some ⟨p, 0, none⟩) 1 1, .slice (some ⟨g, off + k2, none⟩) (m - k2) (c - k2)] 75 (0, 0)) ∧ W.heap[p]? = some (.cells #[.iface 118 (.pointer (some ⟨b9, 0, none⟩))] 82 (0, 0))) → Calls Tryz.prog 172 #[.slice (some ⟨q, 0, none⟩) 3 3] W fun en w' => (∃ a N c, en = .returned (.slice a N c) ∧ NsT 0 w' a N c (joinAt r i (joinedT 0 x s y)).ns) ∧ W.grownBy w' none) := fun W q hg ⟨p, hq, hp⟩ =>
     catAt3_tn (InT 0) (in_keptN _) hq (N1.out.kept (FrT.of hg)) ⟨[[_]], es_one hp rfl, ElyT.one ⟨_, rfl, NodeT.kept _ U9.out (FrT.of hg)⟩⟩ (N3.out.kept (FrT.of hg)) (by rw [List.length_append, List.length_append]; simp only [List.length_cons, List.length_nil]; omega)
    have CS : Hid (∀ (W : World) (q : Nat), wc.grownBy W none → W.heap[q]? = some (.cells #[.slice (some ⟨sg, soff, none⟩) i sc, .slice (some ⟨sg, soff + j, none⟩) (sm - j) (sc - j)] 51 (0, 0)) → Calls Tryz.prog 173 #[.slice (some ⟨q, 0, none⟩) 2 2] W fun en w' => (∃ a N c, en = .returned (.slice a N c) ∧ SsT w' a N c (joinAt r i (joinedT 0 x s y)).ss) ∧ W.grownBy w' none) := fun W q hg hq =>
     catAt2_ts IbT ib_keptN hq (M1.out.kept (FrT.of hg)) (M2.out.kept (FrT.of hg)) (by rw [List.length_append]; omega)
    have y1 : (0 : Int) ≤ (i : Int) := by omega
    have y2 : (i : Int) ≤ (c : Int) := by omega
    have y3 : (i : Int) ≤ (sc : Int) := by omega
    have y4 : (i : Int) + 2 = (k2 : Int) := by omega
    have y5 : IntKind.i64.wrap (k2 : Int) = (k2 : Int) := by rw [IntKind.wrap_i64]; omega
    have y6 : (0 : Int) ≤ (k2 : Int) := by omega
    have y7 : (k2 : Int) ≤ (m : Int) := by omega
    have y8 : (k2 : Int) ≤ (c : Int) := by omega
    have y9 : (0 : Int) ≤ (j : Int) := by omega
    have ya : (j : Int) ≤ (sm : Int) := by omega
    have yb : (j : Int) ≤ (sc : Int) := by omega
    have BB := hid_intro B9
    clear B9 R9 N1 N3 M1 M2 l1 hj1 hk2 i1
    go_upto_region 2 with fail
    go_region_held3 (fun w' => w'.cell? ⟨w.heap.size, 0, none⟩ = some (.slice (some ⟨g, off, none⟩) m c) ∧ w'.cell? ⟨w.heap.size, 1, none⟩ = some (.slice (some ⟨sg, soff, none⟩) sm sc)) (first | (with_reducible exact TT.out) | (with_reducible exact T5) | (with_reducible exact T6) | ((with_reducible refine And.intro (keep1 TT.out.1 ?_) (keep1 TT.out.2 ?_)) <;> (repeat' first | (with_reducible exact World.grownBy.refl _ _) | (with_reducible exact H5) | (with_reducible exact H6) | (with_reducible apply grown_dw) | (with_reducible apply grown_al)); done) | (refine And.intro ?_ ?_ <;> go_keep) | go_keep) (first
     | (go_at_call 172; (with_reducible refine (CN.out _ _ ?_ ?_).mono ?_); (· (repeat' first | (with_reducible exact World.grownBy.refl _ _) | (with_reducible exact H5) | (with_reducible apply grown_dw) | (with_reducible apply grown_al))); (· apply Exists.intro; apply And.intro; (· (repeat' first | (with_reducible exact heap_at0 _ _ _) | (with_reducible exact heap_at1 _ _ _ _) | (with_reducible exact heap_at2 _ _ _ _ _) | (with_reducible apply heap_dw) | (with_reducible apply heap_old) | (with_reducible refine heap_kept ?_ hg5))); (· (repeat' first | (with_reducible exact heap_at0 _ _ _) | (with_reducible exact heap_at1 _ _ _ _) | (with_reducible exact heap_at2 _ _ _ _ _) | (with_reducible apply heap_dw) | (with_reducible apply heap_old) | (with_reducible refine heap_kept ?_ hg5)))); rintro en w6 ⟨⟨a6, n6, c6, rfl, hN⟩, hg6⟩; have H6 : wc.grownBy w6 none := grown_trans (by (repeat' first | (with_reducible exact World.grownBy.refl _ _) | (with_reducible exact H5) | (with_reducible apply grown_dw) | (with_reducible apply grown_al))) hg6; have hS6 := SsT.kept hS (FrT.of (show w5.grownBy w6 none from grown_trans (by (repeat' first | (with_reducible exact World.grownBy.refl _ _) | (with_reducible apply grown_dw) | (with_reducible apply grown_al))) hg6)); have T6 := And.intro (H6.cell TT.out.1 (by simp)) (H6.cell TT.out.2 (by simp)); obtain ⟨⟨x1, cx⟩, ⟨y1, cy⟩, z1, z2⟩ := (BB.out.keptN H6).cells; have RR : RowT 0 w6 a6 n6 c6 a5 n5 c5 (joinAt r i (joinedT 0 x s y)) := ⟨hN, hS6⟩)
     | (go_at_call 173; (with_reducible refine (CS.out _ _ ?_ ?_).mono ?_); (· (repeat' first | (with_reducible exact World.grownBy.refl _ _) | (with_reducible exact H5) | (with_reducible apply grown_dw) | (with_reducible apply grown_al))); (· (repeat' first | (with_reducible exact heap_at0 _ _ _) | (with_reducible exact heap_at1 _ _ _ _) | (with_reducible exact heap_at2 _ _ _ _ _) | (with_reducible apply heap_dw) | (with_reducible apply heap_old) | (with_reducible refine heap_kept ?_ hg5))); rintro en w6 ⟨⟨a6, n6, c6, rfl, hS⟩, hg6⟩; have H6 : wc.grownBy w6 none := grown_trans (by (repeat' first | (with_reducible exact World.grownBy.refl _ _) | (with_reducible exact H5) | (with_reducible apply grown_dw) | (with_reducible apply grown_al))) hg6; have hN6 := NsT.kept hN (FrT.of (show w5.grownBy w6 none from grown_trans (by (repeat' first | (with_reducible exact World.grownBy.refl _ _) | (with_reducible apply grown_dw) | (with_reducible apply grown_al))) hg6)); have T6 := And.intro (H6.cell TT.out.1 (by simp)) (H6.cell TT.out.2 (by simp)); obtain ⟨⟨x1, cx⟩, ⟨y1, cy⟩, z1, z2⟩ := (BB.out.keptN H6).cells; have RR : RowT 0 w6 a5 n5 c5 a6 n6 c6 (joinAt r i (joinedT 0 x s y)) := ⟨hN6, hS⟩)
     | (go_at_call 172; (with_reducible refine (CN.out _ _ ?_ ?_).mono ?_); (· (repeat' first | (with_reducible exact World.grownBy.refl _ _) | (with_reducible apply grown_dw) | (with_reducible apply grown_al))); (· apply Exists.intro; apply And.intro; (· (repeat' first | (with_reducible exact heap_at0 _ _ _) | (with_reducible exact heap_at1 _ _ _ _) | (with_reducible exact heap_at2 _ _ _ _ _) | (with_reducible apply heap_dw) | (with_reducible apply heap_old))); (· (repeat' first | (with_reducible exact heap_at0 _ _ _) | (with_reducible exact heap_at1 _ _ _ _) | (with_reducible exact heap_at2 _ _ _ _ _) | (with_reducible apply heap_dw) | (with_reducible apply heap_old)))); rintro en w5 ⟨⟨a5, n5, c5, rfl, hN⟩, hg5⟩; have H5 : wc.grownBy w5 none := grown_trans (by (repeat' first | (with_reducible exact World.grownBy.refl _ _) | (with_reducible apply grown_dw) | (with_reducible apply grown_al))) hg5; have T5 := And.intro (H5.cell TT.out.1 (by simp)) (H5.cell TT.out.2 (by simp)))
     | (go_at_call 173; (with_reducible refine (CS.out _ _ ?_ ?_).mono ?_); (· (repeat' first | (with_reducible exact World.grownBy.refl _ _) | (with_reducible apply grown_dw) | (with_reducible apply grown_al))); (· (repeat' first | (with_reducible exact heap_at0 _ _ _) | (with_reducible exact heap_at1 _ _ _ _) | (with_reducible exact heap_at2 _ _ _ _ _) | (with_reducible apply heap_dw) | (with_reducible apply heap_old))); rintro en w5 ⟨⟨a5, n5, c5, rfl, hS⟩, hg5⟩; have H5 : wc.grownBy w5 none := grown_trans (by (repeat' first | (with_reducible exact World.grownBy.refl _ _) | (with_reducible apply grown_dw) | (with_reducible apply grown_al))) hg5; have T5 := And.intro (H5.cell TT.out.1 (by simp)) (H5.cell TT.out.2 (by simp))))
    all_goals go_wp2
    all_goals (refine ret_rowG (p := 4) rfl (BB.out.keptN H6) (by omega) RR (grown_trans G1.out (grown_trans G9.out H6)) ?_ ?_ <;> rfl)
end Go.Proofs.YtepcgckapoljpaaGreat
