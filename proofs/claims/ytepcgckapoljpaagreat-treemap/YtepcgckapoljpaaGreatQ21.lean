import Derived.Test.YtepcgckapoljpaaGreatQ18
import Derived.Deep.RegionHeld3
import Derived.Deep.CutBlock
import Derived.Deep.DeepCutAuto
import Derived.Deep.CutRange
import Derived.Deep.QuietTactic
namespace Go.Proofs.YtepcgckapoljpaaGreat
open Go.RowKit
theorem node_leaf {w : World} {a : Option Addr} {m c : Nat} {ps : List PrT} (no : Int) (h : PsT w a m c ps) : NodeT 0 (w.alloc (.cells #[.int .i64 no, .slice a m c] 120)) (.iface 118 (.pointer (some ⟨w.heap.size, 0, none⟩))) (⟨no, ps⟩ : LfT) :=
 ⟨_, a, m, c, rfl, heap_alloc_new w _, h.kept (FrT.of (World.grownBy_alloc w _ none))⟩
theorem node_branch {n : Nat} {w : World} {a : Option Addr} {m c : Nat} {sa : Option Addr} {sm sc : Nat} {r : RwT (NdT n)} (no : Int) (h : RowT n w a m c sa sm sc r) : NodeT (n + 1) (w.alloc (.cells #[.int .i64 no, .slice a m c, .slice sa sm sc] 136)) (.iface 134 (.pointer (some ⟨w.heap.size, 0, none⟩))) (⟨no, r⟩ : BnT (NdT n)) :=
 ⟨_, a, m, c, sa, sm, sc, rfl, heap_alloc_new w _, (h.kept (FrT.of (World.grownBy_alloc w _ none))).ns, (h.kept (FrT.of (World.grownBy_alloc w _ none))).ss⟩
theorem sums_least : ∀ (p : Nat) (L : List It), 2 * L.length ≤ sums p L
 | _, [] => by simp
 | p, x :: L => by
  have := sums_least p L
  rw [sums]
  simp only [List.length_cons]
  omega
theorem size_least (L : List It) : 2 * L.length + 3 ≤ size L := by
 unfold size
 have := sums_least (pre L) L
 omega
theorem bsize_least (L : List (List Int)) : 11 * L.length + 12 ≤ bsize L := by
 unfold bsize
 have := bsums_least (bpre L) L
 omega
structure BxT (w : World) (g : Nat) : Prop where
 row : ∃ x y, w.heap[g]? = some (.cells #[x, y] 77 (0, 0))
theorem BxT.keptN {w w' : World} {g : Nat} (h : BxT w g) (hg : w.grownBy w' none) : BxT w' g := by
 obtain ⟨x, y, e⟩ := h.row
 exact ⟨x, y, heap_kept e hg⟩
theorem BxT.cells {w : World} {g : Nat} (h : BxT w g) : (∃ x, w.cell? ⟨g, 0, none⟩ = some x) ∧ (∃ y, w.cell? ⟨g, 1, none⟩ = some y) ∧ w.frozen? ⟨g, 0, none⟩ = false ∧ w.frozen? ⟨g, 1, none⟩ = false := by
 obtain ⟨x, y, e⟩ := h.row
 exact ⟨⟨x, cell_heap e rfl⟩, ⟨y, cell_heap e rfl⟩, frozen_of_row w g 0 _ _ e, frozen_of_row w g 1 _ _ e⟩
theorem BxT.put {w : World} {g : Nat} (h : BxT w g) (u v : Value) : ((w.setCell ⟨g, 0, none⟩ u).setCell ⟨g, 1, none⟩ v).heap[g]? = some (.cells #[u, v] 77 (0, 0)) ∧ FrT w ((w.setCell ⟨g, 0, none⟩ u).setCell ⟨g, 1, none⟩ v) ∧ w.grownBy ((w.setCell ⟨g, 0, none⟩ u).setCell ⟨g, 1, none⟩ v) (some g) := by
 obtain ⟨x, y, e⟩ := h.row
 have k1 := heap_setCell_same w g 0 _ _ u e
 have k2 := heap_setCell_same _ g 1 _ _ v k1
 refine ⟨?_, (FrT.set e (by decide)).trans (FrT.set k1 (by decide)), grown_trans (grown_cell w g 0 u) (grown_cell _ g 1 v)⟩
 rw [k2]
 rfl
theorem ret_row {fn : Func} {p : Tmp} {n : Nat} {r : RwT (NdT n)} {w w5 : World} {a : Option Addr} {m c : Nat} {sa : Option Addr} {sm sc : Nat} (h : fn.results = #[.cell p 77]) (hb : BxT w5 w.heap.size) (hr : RowT n w5 a m c sa sm sc r) (hg : w.grownBy w5 none) :
  (∀ tmps : Array Value, tmps.getD p undef = .pointer (some ⟨w.heap.size, 0, none⟩) → (results fn tmps).run Tryz.prog ((w5.setCell ⟨w.heap.size, 0, none⟩ (.slice a m c)).setCell ⟨w.heap.size, 1, none⟩ (.slice sa sm sc)) = .ok (.agg #[.slice a m c, .slice sa sm sc]) ((w5.setCell ⟨w.heap.size, 0, none⟩ (.slice a m c)).setCell ⟨w.heap.size, 1, none⟩ (.slice sa sm sc))) ∧
  RowT n ((w5.setCell ⟨w.heap.size, 0, none⟩ (.slice a m c)).setCell ⟨w.heap.size, 1, none⟩ (.slice sa sm sc)) a m c sa sm sc r ∧ w.grownBy ((w5.setCell ⟨w.heap.size, 0, none⟩ (.slice a m c)).setCell ⟨w.heap.size, 1, none⟩ (.slice sa sm sc)) none := by
 obtain ⟨k1, k2, k3⟩ := hb.put (.slice a m c) (.slice sa sm sc)
 exact ⟨fun tmps hp => results_row h tmps _ _ _ _ hp k1, hr.kept k2, grown_new hg k3 (Nat.le_refl _)⟩
theorem ret_end {fn : Func} {p : Tmp} {n : Nat} {r : RwT (NdT n)} {w w6 : World} {ac : Act} {a : Option Addr} {m c : Nat} {sa : Option Addr} {sm sc : Nat} (h1 : ∀ tmps : Array Value, tmps.getD p undef = .pointer (some ⟨w.heap.size, 0, none⟩) → (results fn tmps).run Tryz.prog w6 = .ok (.agg #[.slice a m c, .slice sa sm sc]) w6) (h2 : RowT n w6 a m c sa sm sc r) (h3 : w.grownBy w6 none) (hp : ac.tmps.getD p undef = .pointer (some ⟨w.heap.size, 0, none⟩)) (hd : ac.defers = []) :
  bodyPost Tryz.prog fn (fun en w' => (∃ a m c sa sm sc, en = .returned (.agg #[.slice a m c, .slice sa sm sc]) ∧ RowT n w' a m c sa sm sc r) ∧ w.grownBy w' none) Exit.ret ac w6 :=
 bodyPost_ret (h1 _ hp) hd ⟨⟨_, _, _, _, _, _, rfl, h2⟩, h3⟩
theorem BxT.new (w : World) (x y : Value) : BxT (w.alloc (.cells #[x, y] 77)) w.heap.size := ⟨x, y, heap_alloc_new w _⟩
theorem two_leaves {w : World} {b off n c r : Nat} {ps : List PrT} {so : Option Addr} {sn sc : Nat} {s : List Int} (h : PsT w (some ⟨b, off, none⟩) n c ps) (hs : BtyT w so sn sc s) (hr : r ≤ n) :
  (Calls Tryz.prog 99 #[.iface 118 (.pointer (some ⟨w.heap.size, 0, none⟩)), .slice so sn sc, .iface 118 (.pointer (some ⟨w.heap.size + 1, 0, none⟩))] ((w.alloc (.cells #[.int .i64 0, .slice (some ⟨b, off, none⟩) r c] 120)).alloc (.cells #[.int .i64 0, .slice (some ⟨b, off + r * 3, none⟩) (n - r) (c - r)] 120)).drew
   fun en w' => (∃ a m c sa sm sc, en = .returned (.agg #[.slice a m c, .slice sa sm sc]) ∧ RowT 0 w' a m c sa sm sc ⟨[(⟨0, ps.take r⟩ : LfT), (⟨0, ps.drop r⟩ : LfT)], [s]⟩) ∧ w.grownBy w' none) ∧
  (Calls Tryz.prog 99 #[.iface 118 (.pointer (some ⟨w.heap.size + 1, 0, none⟩)), .slice so sn sc, .iface 118 (.pointer (some ⟨w.heap.size, 0, none⟩))] ((w.alloc (.cells #[.int .i64 0, .slice (some ⟨b, off + r * 3, none⟩) (n - r) (c - r)] 120)).alloc (.cells #[.int .i64 0, .slice (some ⟨b, off, none⟩) r c] 120)).drew
   fun en w' => (∃ a m c sa sm sc, en = .returned (.agg #[.slice a m c, .slice sa sm sc]) ∧ RowT 0 w' a m c sa sm sc ⟨[(⟨0, ps.take r⟩ : LfT), (⟨0, ps.drop r⟩ : LfT)], [s]⟩) ∧ w.grownBy w' none) := by
 have t1 : PsT w (some ⟨b, off, none⟩) r c (ps.take r) := SlT.take h hr
 have t2 : PsT w (some ⟨b, off + r * 3, none⟩) (n - r) (c - r) (ps.drop r) := SlT.drop h hr
 constructor
 ·have n1 := node_leaf 0 t1
  have ga := World.grownBy_alloc w (.cells #[.int .i64 0, .slice (some ⟨b, off, none⟩) r c] 120) none
  have n2 := node_leaf 0 (t2.kept (FrT.of ga))
  have gb := World.grownBy_alloc (w.alloc (.cells #[.int .i64 0, .slice (some ⟨b, off, none⟩) r c] 120)) (.cells #[.int .i64 0, .slice (some ⟨b, off + r * 3, none⟩) (n - r) (c - r)] 120) none
  have gd : ((w.alloc (.cells #[.int .i64 0, .slice (some ⟨b, off, none⟩) r c] 120)).alloc (.cells #[.int .i64 0, .slice (some ⟨b, off + r * 3, none⟩) (n - r) (c - r)] 120)).grownBy ((w.alloc (.cells #[.int .i64 0, .slice (some ⟨b, off, none⟩) r c] 120)).alloc (.cells #[.int .i64 0, .slice (some ⟨b, off + r * 3, none⟩) (n - r) (c - r)] 120)).drew none := (Qt.refl _).drew.grown none
  have e : (w.alloc (.cells #[.int .i64 0, .slice (some ⟨b, off, none⟩) r c] 120)).heap.size = w.heap.size + 1 := by simp
  rw [e] at n2
  refine (both_row (n := 0) (NodeT.kept 0 n1 (FrT.of gb)) n2 ⟨_, _, _, rfl, hs.kept (FrT.of (grown_trans ga gb))⟩ gd).mono ?_
  rintro en w' ⟨h1, h2⟩
  exact ⟨h1, grown_trans (grown_trans ga gb) (grown_trans gd h2)⟩
 ·have n1 := node_leaf 0 t2
  have ga := World.grownBy_alloc w (.cells #[.int .i64 0, .slice (some ⟨b, off + r * 3, none⟩) (n - r) (c - r)] 120) none
  have n2 := node_leaf 0 (t1.kept (FrT.of ga))
  have gb := World.grownBy_alloc (w.alloc (.cells #[.int .i64 0, .slice (some ⟨b, off + r * 3, none⟩) (n - r) (c - r)] 120)) (.cells #[.int .i64 0, .slice (some ⟨b, off, none⟩) r c] 120) none
  have gd : ((w.alloc (.cells #[.int .i64 0, .slice (some ⟨b, off + r * 3, none⟩) (n - r) (c - r)] 120)).alloc (.cells #[.int .i64 0, .slice (some ⟨b, off, none⟩) r c] 120)).grownBy ((w.alloc (.cells #[.int .i64 0, .slice (some ⟨b, off + r * 3, none⟩) (n - r) (c - r)] 120)).alloc (.cells #[.int .i64 0, .slice (some ⟨b, off, none⟩) r c] 120)).drew none := (Qt.refl _).drew.grown none
  have e : (w.alloc (.cells #[.int .i64 0, .slice (some ⟨b, off + r * 3, none⟩) (n - r) (c - r)] 120)).heap.size = w.heap.size + 1 := by simp
  rw [e] at n2
  refine (both_row (n := 0) n2 (NodeT.kept 0 n1 (FrT.of gb)) ⟨_, _, _, rfl, hs.kept (FrT.of (grown_trans ga gb))⟩ gd).mono ?_
  rintro en w' ⟨h1, h2⟩
  exact ⟨h1, grown_trans (grown_trans ga gb) (grown_trans gd h2)⟩
set_option maxHeartbeats 4000000 in
set_option maxRecDepth 100000 in
theorem settledLeaf_any (a : Option Addr) (n c : Nat) (ps : List PrT) (w : World) (hl : PsT w a n c ps) (hn : n ≤ 5000) (hs : Srt ps) (hv : ∀ p ∈ ps, Vp p) (hc : 4092 < size (its ps) → 1 ≤ cutL (its ps) ∧ cutL (its ps) < ps.length) :
  Calls Tryz.prog 76 #[.slice a n c] w fun en w' => (∃ a m c sa sm sc, en = .returned (.agg #[.slice a m c, .slice sa sm sc]) ∧ RowT 0 w' a m c sa sm sc (settleL ps)) ∧ w.grownBy w' none := by
 have hlen := hl.len
 have G1 := hid_intro (World.grownBy_alloc w (.cells #[.slice none 0 0, .slice none 0 0] 77) none)
 have B1 := hid_intro (BxT.new w (.slice none 0 0) (.slice none 0 0))
 have P1 := hid_intro (hl.kept (FrT.of G1.out))
 have HI := hid_intro (itemsOf_any a n c ps _ P1.out (by omega))
 have hkk : ∀ x ∈ its ps, x.key.length ≤ 140737488351232 := by
  intro x hx
  obtain ⟨p, hp, rfl⟩ := List.mem_map.1 hx
  have := (hv p hp).k2
  show p.key.length ≤ _
  omega
 have HK := hid_intro hkk
 clear hkk hl
 by_cases h0 : n = 0
 ·have e0 : settleL ps = ⟨[], []⟩ := by unfold settleL; rw [if_pos (by omega)]
  rw [e0]
  subst h0
  go_enter Tryz.func76, Tryz.ntmps76
  go_wp2_with fail
  refine HI.out.mono ?_
  rintro en w2 ⟨⟨g, rfl, _⟩, hg2⟩
  have B2 := B1.out.keptN hg2
  obtain ⟨⟨x, cx⟩, ⟨y, cy⟩, z1, z2⟩ := B2.cells
  have HB := hid_intro B2
  have HG := hid_intro (grown_trans G1.out hg2)
  clear hg2 B2
  go_wp2
  obtain ⟨r1, r2, r3⟩ := ret_row (n := 0) (r := ⟨[], []⟩) (fn := Tryz.f76) (p := 2) (a := none) (m := 0) (c := 0) (sa := none) (sm := 0) (sc := 0) rfl HB.out ⟨SlT.nil _ _ _ _, SlT.nil _ _ _ _⟩ HG.out
  refine ret_end r1 r2 r3 ?_ ?_ <;> rfl
 ·have n0 : ¬ ((n : Int) = 0) := by omega
  have HS := hid_intro (fun (W : World) (g : Nat) (h : SlT W 167 4 (IiT W) (some ⟨g, 0, none⟩) n n (its ps)) => size_any (some ⟨g, 0, none⟩) n n (its ps) W h.il (by rw [its_len, hlen]) hn HK.out)
  by_cases hf : size (its ps) ≤ 4092
  ·have e0 : settleL ps = ⟨[⟨0, ps⟩], []⟩ := by unfold settleL; rw [if_neg (by omega), if_pos hf]
   rw [e0]
   go_enter Tryz.func76, Tryz.ntmps76
   go_wp2_with fail
   refine HI.out.mono ?_
   rintro en w2 ⟨⟨g, rfl, hit⟩, hg2⟩
   have HT := hid_intro hit
   have G2 := hid_intro hg2
   clear hit hg2
   go_wp2_with fail
   refine (HS.out w2 g HT.out).mono ?_
   rintro en w3 ⟨rfl, hg3⟩
   have G3 := hid_intro (grown_trans G2.out hg3)
   clear hg3
   go_wp2_with fail
   refine (cfits_any _ w3).mono ?_
   rintro en w4 ⟨rfl, rfl⟩
   have NL := hid_intro (node_leaf 0 (P1.out.kept (FrT.of G3.out)))
   have GL := hid_intro (World.grownBy_alloc w4 (.cells #[.int .i64 0, .slice a n c] 120) none)
   go_wp2_with fail
   refine (alone_row (n := 0) NL.out (World.grownBy.refl _ _)).mono ?_
   rintro en w5 ⟨⟨a5, m5, c5, sa5, sm5, sc5, rfl, hr5⟩, hg5⟩
   have G5 := hid_intro (grown_trans G3.out (grown_trans GL.out hg5))
   have B5 := B1.out.keptN G5.out
   obtain ⟨⟨x, cx⟩, ⟨y, cy⟩, z1, z2⟩ := B5.cells
   have HB := hid_intro B5
   have HR := hid_intro hr5
   clear B5 hr5 hg5
   go_wp2
   obtain ⟨r1, r2, r3⟩ := ret_row (fn := Tryz.f76) (p := 2) rfl HB.out HR.out (grown_trans G1.out G5.out)
   refine ret_end r1 r2 r3 ?_ ?_ <;> rfl
  ·obtain ⟨hc1, hc2⟩ := hc (by omega)
   have e0 : settleL ps = ⟨[⟨0, ps.take (cutL (its ps))⟩, ⟨0, ps.drop (cutL (its ps))⟩], [sepT (keyT ps (cutL (its ps) - 1)) (keyT ps (cutL (its ps)))]⟩ := by unfold settleL; rw [if_neg (by omega), if_neg hf]
   rw [e0]
   have HC := hid_intro (fun (W : World) (g : Nat) (h : SlT W 167 4 (IiT W) (some ⟨g, 0, none⟩) n n (its ps)) => cutLeaf_any (some ⟨g, 0, none⟩) n n (its ps) W h.il (by rw [its_len, hlen]) hn (Nat.le_refl _) (by omega) HK.out)
   obtain ⟨s1, s2, s3⟩ := srt_cut hs hc1 hc2
   obtain ⟨p, p1, p2, p3⟩ := keyT_mem (ps := ps) (i := cutL (its ps) - 1) (by omega)
   obtain ⟨q, q1, q2, q3⟩ := keyT_mem hc2
   have hvp := hv p p3
   have hvq := hv q q3
   have hbest := cutL_best (its ps)
   rw [its_len, hlen] at hbest
   have HU := hid_intro (fun (r : Nat) (h : Best (fun i => size ((its ps).take i)) (fun i => size ((its ps).drop i)) (n - 1) r) => h.uniq hbest)
   generalize cutL (its ps) = k at *
   rw [← p2, ← q2] at s3
   have S3 := hid_intro s3
   have HE := hid_intro (show [sepT (keyT ps (k - 1)) (keyT ps k)] = [sepT p.key q.key] by rw [p2, q2])
   rw [HE.out]
   have hk : k < n := by omega
   clear hbest e0 s1 s2 s3 hc
   go_enter Tryz.func76, Tryz.ntmps76
   go_wp2_with fail
   refine HI.out.mono ?_
   rintro en w2 ⟨⟨g, rfl, hit⟩, hg2⟩
   have HT := hid_intro hit
   have G2 := hid_intro hg2
   clear hit hg2
   go_wp2_with fail
   refine (HS.out w2 g HT.out).mono ?_
   rintro en w3 ⟨rfl, hg3⟩
   have T3 : Hid (SlT w3 167 4 (IiT w3) (some ⟨g, 0, none⟩) n n (its ps)) := HT.out.mono (by decide) (FrT.of hg3) (fun _ _ h => h.kept (FrT.of hg3))
   have G3 := hid_intro (grown_trans G2.out hg3)
   clear hg3
   go_wp2_with fail
   refine (cfits_any _ w3).mono ?_
   rintro en w4 ⟨rfl, rfl⟩
   go_wp2_with fail
   refine (HC.out w4 g T3.out).mono ?_
   rintro en w5 ⟨⟨r, rfl, hb⟩, hg5⟩
   have hr := HU.out r hb
   subst hr
   have G5 := hid_intro (grown_trans G3.out hg5)
   clear hb hg5 HU
   have P5 := P1.out.kept (FrT.of G5.out)
   obtain ⟨b, off, ka, kn, kc, va, vn, vc, ca, cn, cc, rfl, c0, _, _, hp⟩ := P5.pair p1
   obtain ⟨b', off', ka', kn', kc', va', vn', vc', ca', cn', cc', e', d0, _, _, hq⟩ := P5.pair q1
   simp only [Option.some.injEq, Addr.mk.injEq] at e'
   obtain ⟨rfl, rfl, _⟩ := e'
   have lk := hvp.k2
   have lq := hvq.k2
   have lkn := hp.k.b.len
   have lqn := hq.k.b.len
   obtain ⟨j, hj⟩ : ∃ j, r - 1 = j := ⟨_, rfl⟩
   rw [hj] at c0
   have hk0 : (0 : Int) ≤ (j : Int) ∧ (j : Int) < (n : Int) := by omega
   have hk1 : (0 : Int) ≤ ((r : Nat) : Int) ∧ ((r : Nat) : Int) < (n : Int) := by omega
   have ek : ((r : Nat) : Int) - 1 = (j : Int) := by omega
   have wk : IntKind.i64.wrap (j : Int) = (j : Int) := by rw [IntKind.wrap_i64]; omega
   have SQ := hid_intro (fun (W : World) (h : W.heap = w5.heap) => sep_yes ka ka' kn kn' kc kc' p.key q.key W (hp.k.b.heap h) (hq.k.b.heap h) hvp.kb hvq.kb (by omega) (by omega) hq.k.l1 S3.out)
   have H5 := hid_intro P5
   clear hp hq P5 HI HS HC p1 p2 q1 q2 hj HE
   go_upto_region 7 with fail
   go_cut [5] from 25 to 40 (fun s5 wx => ∃ g cap, s5 = .slice (some ⟨g, 0, none⟩) (com p.key q.key + 1) cap ∧ BtyT wx (some ⟨g, 0, none⟩) (com p.key q.key + 1) cap (sepT p.key q.key) ∧ w5.grownBy wx none)
   case first =>
    go_region_with (go_at_call 98; refine (SQ.out w5.drew rfl).mono ?_; rintro en w6 ⟨g6, cap6, rfl, ho6, hg6⟩)
    all_goals (go_wp2_with fail; go_meet; exact ⟨g6, cap6, rfl, BtyT.of_owns ho6, grown_trans ((Qt.refl _).drew.grown none) hg6⟩)
   case rest =>
    obtain ⟨g6, cap6, rfl, hb6, hg6⟩ := hcut
    have G6 := hid_intro (grown_trans G5.out hg6)
    have P6 := H5.out.kept (FrT.of hg6)
    have Q6 := hid_intro (two_leaves P6 hb6 (Nat.le_of_lt hk))
    have hcap := P6.cap
    have g4 : ¬ ((c : Int) < (r : Int)) := by omega
    have g5 : (r : Int) ≤ (c : Int) := by omega
    have g6' : (r : Int) ≤ (n : Int) := by omega
    have g7 : (0 : Int) ≤ (r : Int) := by omega
    have g8 : ¬ c = r := by omega
    have g9 : ((n : Int) - (r : Int)) = ((n - r : Nat) : Int) := by omega
    have g10 : ((c : Int) - (r : Int)) = ((c - r : Nat) : Int) := by omega
    have B6 := hid_intro B1.out
    clear hb6 hg6 P6 SQ B1
    go_upto_region 8 with fail
    go_region_held3 (fun _ => True) (trivial) (first
     | (go_at_call 99; with_reducible refine Q6.out.1.mono ?_; rintro en w9 ⟨⟨a9, m9, c9, sa9, sm9, sc9, rfl, hr9⟩, hg9⟩; obtain ⟨⟨x, cx⟩, ⟨y, cy⟩, z1, z2⟩ := (B6.out.keptN (grown_trans G6.out hg9)).cells)
     | (go_at_call 99; with_reducible refine Q6.out.2.mono ?_; rintro en w9 ⟨⟨a9, m9, c9, sa9, sm9, sc9, rfl, hr9⟩, hg9⟩; obtain ⟨⟨x, cx⟩, ⟨y, cy⟩, z1, z2⟩ := (B6.out.keptN (grown_trans G6.out hg9)).cells))
    all_goals
     go_wp2
     obtain ⟨r1, r2, r3⟩ := ret_row (fn := Tryz.f76) (p := 2) rfl (B6.out.keptN (grown_trans G6.out hg9)) hr9 (grown_trans G1.out (grown_trans G6.out hg9))
     refine ret_end r1 r2 r3 ?_ ?_ <;> rfl
theorem ElsT.keptN {w w' : World} {q : Option Addr} {e : TypeId} {k : Nat} {Ls : List (List (List Value))} (h : ElsT w q e k Ls) (he : ScT e = false) (hg : w.grownBy w' none) : ElsT w' q e k Ls := by
 refine ⟨fun j hj => ?_⟩
 obtain ⟨B, o, a, n, c, h1, h2, h3⟩ := h.row j hj
 exact ⟨B, o, a, n, c, h1, hg.cell h2 (by simp), h3.kept he (FrT.of hg)⟩
theorem cat2_tp {T : Type} (J : World → List Value → T → Prop) (hJ : ∀ w w', w.grownBy w' none → ∀ e x, J w e x → J w' e x) {w : World} (a1 : Option Addr) (n1 c1 : Nat) (L1 : List T) (a2 : Option Addr) (n2 c2 : Nat) (L2 : List T) (h1 : SlT w 108 3 (J w) a1 n1 c1 L1) (h2 : SlT w 108 3 (J w) a2 n2 c2 L2) (ht : (L1 ++ L2).length ≤ 100000) :
  Calls Tryz.prog 77 #[.slice (some ⟨w.heap.size, 0, none⟩) 2 2] (w.alloc (.cells #[.slice a1 n1 c1, .slice a2 n2 c2] 109)).drew fun en w' => (∃ a N c, en = .returned (.slice a N c) ∧ SlT w' 108 3 (J w') a N c (L1 ++ L2)) ∧ w.grownBy w' none := by
 obtain ⟨e1, x1, y1⟩ := h1.ex
 obtain ⟨e2, x2, y2⟩ := h2.ex
 have ga := World.grownBy_alloc w (.cells #[.slice a1 n1 c1, .slice a2 n2 c2] 109) none
 have gd : (w.alloc (.cells #[.slice a1 n1 c1, .slice a2 n2 c2] 109)).grownBy (w.alloc (.cells #[.slice a1 n1 c1, .slice a2 n2 c2] 109)).drew none := (Qt.refl _).drew.grown none
 have l0 := ElsT.lit2 w 109 108 (by decide) 3 a1 a2 n1 c1 n2 c2 e1 e2 x1 x2
 have l1 : ElsT (w.alloc (.cells #[.slice a1 n1 c1, .slice a2 n2 c2] 109)).drew (some ⟨w.heap.size, 0, none⟩) 108 3 [e1, e2] := l0.keptN (by decide) gd
 have hy := (y1.app y2)
 have hl := hy.len
 have e : [e1, e2].flatten = e1 ++ e2 := by simp
 refine (concat_tp _ 2 2 [e1, e2] _ l1 rfl (by omega) (by rw [e, hl]; exact ht)).mono ?_
 rintro en w' ⟨⟨a, c, rfl, h9⟩, hg⟩
 rw [e] at h9
 rw [hl] at h9
 have g := grown_trans ga (grown_trans gd hg)
 exact ⟨⟨a, _, c, by rw [e, hl], _, h9, hy.mono (fun _ _ h => hJ _ _ g _ _ h)⟩, g⟩
theorem cat3_tp {T : Type} (J : World → List Value → T → Prop) (hJ : ∀ w w', w.grownBy w' none → ∀ e x, J w e x → J w' e x) {w : World} (a1 : Option Addr) (n1 c1 : Nat) (L1 : List T) (a2 : Option Addr) (n2 c2 : Nat) (L2 : List T) (a3 : Option Addr) (n3 c3 : Nat) (L3 : List T) (h1 : SlT w 108 3 (J w) a1 n1 c1 L1) (h2 : SlT w 108 3 (J w) a2 n2 c2 L2) (h3 : SlT w 108 3 (J w) a3 n3 c3 L3) (ht : (L1 ++ (L2 ++ L3)).length ≤ 100000) :
  Calls Tryz.prog 77 #[.slice (some ⟨w.heap.size, 0, none⟩) 3 3] (w.alloc (.cells #[.slice a1 n1 c1, .slice a2 n2 c2, .slice a3 n3 c3] 109)).drew fun en w' => (∃ a N c, en = .returned (.slice a N c) ∧ SlT w' 108 3 (J w') a N c (L1 ++ (L2 ++ L3))) ∧ w.grownBy w' none := by
 obtain ⟨e1, x1, y1⟩ := h1.ex
 obtain ⟨e2, x2, y2⟩ := h2.ex
 obtain ⟨e3, x3, y3⟩ := h3.ex
 have ga := World.grownBy_alloc w (.cells #[.slice a1 n1 c1, .slice a2 n2 c2, .slice a3 n3 c3] 109) none
 have gd : (w.alloc (.cells #[.slice a1 n1 c1, .slice a2 n2 c2, .slice a3 n3 c3] 109)).grownBy (w.alloc (.cells #[.slice a1 n1 c1, .slice a2 n2 c2, .slice a3 n3 c3] 109)).drew none := (Qt.refl _).drew.grown none
 have l0 := ElsT.lit3 w 109 108 (by decide) 3 a1 a2 a3 n1 c1 n2 c2 n3 c3 e1 e2 e3 x1 x2 x3
 have l1 : ElsT (w.alloc (.cells #[.slice a1 n1 c1, .slice a2 n2 c2, .slice a3 n3 c3] 109)).drew (some ⟨w.heap.size, 0, none⟩) 108 3 [e1, e2, e3] := l0.keptN (by decide) gd
 have hy := (y1.app (y2.app y3))
 have hl := hy.len
 have e : [e1, e2, e3].flatten = e1 ++ (e2 ++ e3) := by simp
 refine (concat_tp _ 3 3 [e1, e2, e3] _ l1 rfl (by omega) (by rw [e, hl]; exact ht)).mono ?_
 rintro en w' ⟨⟨a, c, rfl, h9⟩, hg⟩
 rw [e] at h9
 rw [hl] at h9
 have g := grown_trans ga (grown_trans gd hg)
 exact ⟨⟨a, _, c, by rw [e, hl], _, h9, hy.mono (fun _ _ h => hJ _ _ g _ _ h)⟩, g⟩
theorem ip_keptN : ∀ w w', w.grownBy w' none → ∀ e x, IpT w e x → IpT w' e x := fun _ _ hg _ _ h => h.kept (FrT.of hg)
theorem ib_keptN : ∀ w w', w.grownBy w' none → ∀ e x, IbT w e x → IbT w' e x := fun _ _ hg _ _ h => h.kept (FrT.of hg)
theorem in_keptN (n : Nat) : ∀ w w', w.grownBy w' none → ∀ e x, InT n w e x → InT n w' e x := fun _ _ hg _ _ h => h.kept (FrT.of hg)
def ChT (n : Nat) (R : Option (RwT (NdT n))) (en : Ending) (w' : World) : Prop := match R with
 | none => en = .panicked [{ v := .iface 117 (.agg #[]), recovered := false }]
 | some r => ∃ a m c sa sm sc, en = .returned (.agg #[.slice a m c, .slice sa sm sc]) ∧ RowT n w' a m c sa sm sc r
theorem ret_endC {fn : Func} {p : Tmp} {n : Nat} {r : RwT (NdT n)} {w w6 : World} {ac : Act} {a : Option Addr} {m c : Nat} {sa : Option Addr} {sm sc : Nat} (h1 : ∀ tmps : Array Value, tmps.getD p undef = .pointer (some ⟨w.heap.size, 0, none⟩) → (results fn tmps).run Tryz.prog w6 = .ok (.agg #[.slice a m c, .slice sa sm sc]) w6) (h2 : RowT n w6 a m c sa sm sc r) (h3 : w.grownBy w6 none) (hp : ac.tmps.getD p undef = .pointer (some ⟨w.heap.size, 0, none⟩)) (hd : ac.defers = []) :
  bodyPost Tryz.prog fn (fun en w' => ChT n (some r) en w' ∧ w.grownBy w' none) Exit.ret ac w6 := ret_end h1 h2 h3 hp hd
structure LokT (L : List PrT) : Prop where
 s : Srt L
 v : ∀ p ∈ L, Vp p
 f : size (its L) ≤ 4092
theorem LokT.of {x : NdT 0} (h : OkT 0 x) : LokT (LfT.ps x) := ⟨h.2.1, h.2.2.2, h.2.2.1⟩
theorem LokT.nil : LokT [] := ⟨List.Pairwise.nil, fun p hp => by simp at hp, by decide⟩
theorem LokT.len {L : List PrT} (h : LokT L) : L.length ≤ 2045 := by
 have := size_least (its L)
 rw [its_len] at this
 have := h.f
 omega
theorem upd_len {L : List PrT} {key : List Int} {now : List PrT} (h1 : now.length ≤ 1) : (L.take (findT L key) ++ (now ++ L.drop (endT L key))).length ≤ L.length + 1 := by
 have := find_end L key
 have := find_le L key
 simp only [List.length_append, List.length_take, List.length_drop]
 omega
theorem settle_upd {L : List PrT} {key : List Int} {now : List PrT} (hL : LokT L) (hn : NowT key now) (a : Option Addr) (n c : Nat) (w : World) (hl : PsT w a n c (L.take (findT L key) ++ (now ++ L.drop (endT L key)))) :
  Calls Tryz.prog 76 #[.slice a n c] w fun en w' => (∃ a m c sa sm sc, en = .returned (.agg #[.slice a m c, .slice sa sm sc]) ∧ RowT 0 w' a m c sa sm sc (settleL (L.take (findT L key) ++ (now ++ L.drop (endT L key))))) ∧ w.grownBy w' none := by
 have hlen := hl.len
 have hle := upd_len (key := key) (now := now) (L := L) hn.one
 have h9 := hL.len
 rw [upd_leaf hL.s] at *
 have hv : ∀ p ∈ updT L key now, Vp p := fun p hp => by
  rcases upd_mem hp with h | h
  ·exact hn.vp p h
  ·exact hL.v p h
 have hk := ok_settleL (upd_srt hL.s hn.key hn.one) hv (upd_cut hL.s hL.f hL.v (fun p hp => ⟨hn.key p hp, hn.vp p hp⟩) hn.one)
 exact settledLeaf_any a n c _ w hl (by omega) (upd_srt hL.s hn.key hn.one) hv hk.2.2
set_option maxHeartbeats 4000000 in
set_option maxRecDepth 100000 in
theorem lchanged_some (b : Nat) (x : LfT) (ka : Option Addr) (kn kc : Nat) (key : List Int) (na : Option Addr) (nn nc : Nat) (now : List PrT) (w : World) (hx : NodeT 0 w (.iface 118 (.pointer (some ⟨b, 0, none⟩))) x) (hL : LokT x.ps) (hk : Byt w ka kn kc key) (bt : Bt key) (hnow : PsT w na nn nc now) (hn : NowT key now) (hne : x.ps ≠ []) :
  Calls Tryz.prog 68 #[.pointer (some ⟨b, 0, none⟩), .slice ka kn kc, .slice na nn nc] w fun en w' => ChT 0 (changedT 0 x key now) en w' ∧ w.grownBy w' none := by
 obtain ⟨b', a, m, c, e, hb, hps⟩ := hx
 simp only [Value.iface.injEq, Value.pointer.injEq, Option.some.injEq, Addr.mk.injEq, true_and, and_true] at e
 subst e
 have hlen := hps.len
 have hle := hL.len
 have hc0 := cell_heap (i := 1) hb rfl
 obtain ⟨g, off, rfl⟩ : ∃ g off, a = some ⟨g, off, none⟩ := by
  obtain ⟨es, h1, _⟩ := hps.ex
  exact h1.where (by have := List.length_pos_iff.2 hne; omega)
 have G1 := hid_intro (World.grownBy_alloc w (.cells #[.slice none 0 0, .slice none 0 0] 77) none)
 have B1 := hid_intro (BxT.new w (.slice none 0 0) (.slice none 0 0))
 have P1 := hid_intro (hps.kept (FrT.of G1.out))
 have N1 := hid_intro (hnow.kept (FrT.of G1.out))
 have c1 := G1.out.cell hc0 (by simp)
 have LF := hid_intro (lfind_any b _ m c ka kn kc x.ps key _ c1 P1.out (by omega) hL.s (hk.keptN G1.out) bt (fun p hp => (hL.v p hp).kb))
 have hfe := find_end x.ps key
 have hel := find_le x.ps key
 have hul := upd_len (key := key) (now := now) (L := x.ps) hn.one
 have HE : Hid (endT x.ps key = if hasT x.ps key then findT x.ps key + 1 else findT x.ps key) := rfl
 have HC : Hid (changedT 0 x key now = if sameT x.ps now key then none else some (settleL (x.ps.take (findT x.ps key) ++ (now ++ x.ps.drop (endT x.ps key))))) := rfl
 have HSM : Hid (sameT x.ps now key = decide (((x.ps.take (endT x.ps key)).drop (findT x.ps key)).map PrT.val = now.map PrT.val)) := rfl
 have SU := hid_intro (fun (a : Option Addr) (n c : Nat) (w : World) => settle_upd hL hn a n c w)
 have hnl := hnow.len
 have hn1 := hn.one
 have VA := hid_intro (fun p (hp : p ∈ (x.ps.take (endT x.ps key)).drop (findT x.ps key)) => (hL.v p (List.mem_of_mem_take (List.mem_of_mem_drop hp))).vb)
 have VN := hid_intro (fun p hp => (hn.vp p hp).vb)
 have hcap := hps.cap
 rw [HC.out]
 have hbl := cell_lt hc0
 have T2 : hasT x.ps key = true ∧ endT x.ps key = findT x.ps key + 1 ∨ hasT x.ps key = false ∧ endT x.ps key = findT x.ps key := by
  have := HE.out
  cases hh : hasT x.ps key
  ·rw [hh] at this
   exact .inr ⟨rfl, this⟩
  ·rw [hh] at this
   exact .inl ⟨rfl, this⟩
 generalize findT x.ps key = f at *
 generalize hasT x.ps key = hh at *
 generalize endT x.ps key = t at *
 clear hb hps hnow hk hL hn hc0 HE HC
 rcases T2 with ⟨rfl, rfl⟩ | ⟨rfl, ht⟩
 ·have hcf : ¬ c = f := by omega
  by_cases hct : c = f + 1
  ·subst hct
   have hm : m = f + 1 := by omega
   subst hm
   go_enter Tryz.func68, Tryz.ntmps68
   go_wp2_with fail
   refine LF.out.mono ?_
   rintro en w2 ⟨rfl, hg2⟩
   have G2 := hid_intro hg2
   have c2 := hg2.cell c1 (by simp)
   have P2 := hid_intro (P1.out.kept (FrT.of hg2))
   have N2 := hid_intro (N1.out.kept (FrT.of hg2))
   have D1 := hid_intro (show PsT w2 (some ⟨g, off + f * 3, none⟩) 1 (1) ((x.ps.take (f + 1)).drop f) from by have := SlT.drop (SlT.take P2.out (Nat.le_refl _)) (i := f) (by omega); exact (show SlT w2 108 3 (IpT w2) (some ⟨g, off + f * 3, none⟩) 1 (1) _ from by simpa using this))
   clear hg2 LF c1
   go_wp2_with fail
   refine (equalFunc_any _ _ _ _ _ _ ((x.ps.take (f + 1)).drop f) now w2 D1.out N2.out (by omega) (by omega) VA.out VN.out).mono ?_
   rintro en w3 ⟨rfl, hg3⟩
   rw [← HSM.out]
   have G3 := hid_intro (grown_trans G2.out hg3)
   have c3 := hg3.cell c2 (by simp)
   have P3 := hid_intro (P2.out.kept (FrT.of hg3))
   have N3 := hid_intro (N2.out.kept (FrT.of hg3))
   clear hg3 c2 D1 P2 N2 VA VN
   cases hs : sameT x.ps now key with
   | true =>
    clear HSM SU
    go_wp2
    exact ⟨rfl, rfl, grown_trans G1.out G3.out⟩
   | false =>
    have E1 : Hid (PsT w3 (some ⟨g, off, none⟩) f (f + 1) (x.ps.take f)) := SlT.take P3.out (by omega)
    have E3 : Hid (PsT w3 (some ⟨g, off, none⟩) 0 (0) (x.ps.drop (f + 1))) := SlT.end P3.out (by omega) _ _ (by omega) (fun e => by cases e) (fun x hx => by cases hx; exact ⟨_, _, rfl⟩)
    have CT := hid_intro (cat3_tp IpT ip_keptN _ _ _ _ _ _ _ _ _ _ _ _ E1.out N3.out E3.out (by omega))
    clear HSM
    have v1 : (0 : Int) ≤ (f : Int) := by omega
    have v2 : (f : Int) ≤ ((f + 1 : Nat) : Int) := by omega
    have v3 : ¬ (((f + 1 : Nat) : Int) < (f : Int)) := by omega
    have v8 : (f : Int) ≤ (f : Int) + 1 := by omega
    have v9 : (0 : Int) ≤ (f : Int) + 1 := by omega
    have v4 : ((f + 1 : Nat) : Int) ≤ ((f + 1 : Nat) : Int) := by omega
    have v5 : ((f + 1 : Nat) : Int) ≤ ((f + 1 : Nat) : Int) := by omega
    have v6 : (0 : Int) ≤ ((f + 1 : Nat) : Int) := by omega
    have v7 : (f : Int) ≤ ((f + 1 : Nat) : Int) := by omega
    have hbn : ¬ b = w.heap.size := by omega
    have hbn2 : ¬ w.heap.size = b := by omega
    skip
    go_upto_region 7 with fail
    go_region_held3 (fun w' => w'.cell? ⟨b, 1, none⟩ = some (.slice (some ⟨g, off, none⟩) (f + 1) (f + 1))) (first | exact c3 | exact c5 | exact c6 | go_keep) (first
     | (go_at_call 77; (with_reducible refine CT.out.mono ?_); rintro en w5 ⟨⟨a5, n5, cc5, rfl, hp5⟩, hg5⟩; have c5 := hg5.cell c3 (by simp); have hq5 : PsT w5 a5 n5 cc5 (x.ps.take f ++ (now ++ x.ps.drop (f + 1))) := hp5)
     | (go_at_call 76; (with_reducible refine (SU.out _ _ _ _ hq5).mono ?_); rintro en w6 ⟨⟨a6, m6, cc6, sa6, sm6, sc6, rfl, hr6⟩, hg6⟩; have c6 := hg6.cell c5 (by simp); obtain ⟨⟨x, cx⟩, ⟨y, cy⟩, z1, z2⟩ := (B1.out.keptN (grown_trans G3.out (grown_trans hg5 hg6))).cells))
    all_goals go_wp2
    all_goals
     obtain ⟨r1, r2, r3⟩ := ret_row (fn := Tryz.f68) (p := 6) rfl (B1.out.keptN (grown_trans G3.out (grown_trans hg5 hg6))) hr6 (grown_trans G1.out (grown_trans G3.out (grown_trans hg5 hg6)))
     refine ret_endC r1 r2 r3 ?_ ?_ <;> rfl
  ·have u1 : (f : Int) + 1 ≤ (m : Int) := by omega
   have u2 : (f : Int) + 1 ≤ (c : Int) := by omega
   have u3 : (0 : Int) ≤ (f : Int) + 1 := by omega
   go_enter Tryz.func68, Tryz.ntmps68
   go_wp2_with fail
   refine LF.out.mono ?_
   rintro en w2 ⟨rfl, hg2⟩
   have G2 := hid_intro hg2
   have c2 := hg2.cell c1 (by simp)
   have P2 := hid_intro (P1.out.kept (FrT.of hg2))
   have N2 := hid_intro (N1.out.kept (FrT.of hg2))
   have D1 := hid_intro (show PsT w2 (some ⟨g, off + f * 3, none⟩) 1 (c - f) ((x.ps.take (f + 1)).drop f) from by have := SlT.drop (SlT.take P2.out (i := f + 1) (by omega)) (i := f) (by omega); exact (show SlT w2 108 3 (IpT w2) (some ⟨g, off + f * 3, none⟩) 1 (c - f) _ from by simpa using this))
   clear hg2 LF c1
   go_wp2_with fail
   refine (equalFunc_any _ _ _ _ _ _ ((x.ps.take (f + 1)).drop f) now w2 D1.out N2.out (by omega) (by omega) VA.out VN.out).mono ?_
   rintro en w3 ⟨rfl, hg3⟩
   rw [← HSM.out]
   have G3 := hid_intro (grown_trans G2.out hg3)
   have c3 := hg3.cell c2 (by simp)
   have P3 := hid_intro (P2.out.kept (FrT.of hg3))
   have N3 := hid_intro (N2.out.kept (FrT.of hg3))
   clear hg3 c2 D1 P2 N2 VA VN
   cases hs : sameT x.ps now key with
   | true =>
    clear HSM SU
    go_wp2
    exact ⟨rfl, rfl, grown_trans G1.out G3.out⟩
   | false =>
    have E1 : Hid (PsT w3 (some ⟨g, off, none⟩) f (c) (x.ps.take f)) := SlT.take P3.out (by omega)
    have E3 : Hid (PsT w3 (some ⟨g, off + (f + 1) * 3, none⟩) (m - (f + 1)) (c - (f + 1)) (x.ps.drop (f + 1))) := SlT.drop P3.out (by omega)
    have CT := hid_intro (cat3_tp IpT ip_keptN _ _ _ _ _ _ _ _ _ _ _ _ E1.out N3.out E3.out (by omega))
    clear HSM
    have v1 : (0 : Int) ≤ (f : Int) := by omega
    have v2 : (f : Int) ≤ ((c : Nat) : Int) := by omega
    have v3 : ¬ (((c : Nat) : Int) < (f : Int)) := by omega
    have v8 : (f : Int) ≤ (f : Int) + 1 := by omega
    have v9 : (0 : Int) ≤ (f : Int) + 1 := by omega
    have v4 : ((f + 1 : Nat) : Int) ≤ ((m : Nat) : Int) := by omega
    have v5 : ((f + 1 : Nat) : Int) ≤ ((c : Nat) : Int) := by omega
    have v6 : (0 : Int) ≤ ((f + 1 : Nat) : Int) := by omega
    have v7 : (f : Int) ≤ ((m : Nat) : Int) := by omega
    have hbn : ¬ b = w.heap.size := by omega
    have hbn2 : ¬ w.heap.size = b := by omega
    skip
    go_upto_region 7 with fail
    go_region_held3 (fun w' => w'.cell? ⟨b, 1, none⟩ = some (.slice (some ⟨g, off, none⟩) (m) (c))) (first | exact c3 | exact c5 | exact c6 | go_keep) (first
     | (go_at_call 77; (with_reducible refine CT.out.mono ?_); rintro en w5 ⟨⟨a5, n5, cc5, rfl, hp5⟩, hg5⟩; have c5 := hg5.cell c3 (by simp); have hq5 : PsT w5 a5 n5 cc5 (x.ps.take f ++ (now ++ x.ps.drop (f + 1))) := hp5)
     | (go_at_call 76; (with_reducible refine (SU.out _ _ _ _ hq5).mono ?_); rintro en w6 ⟨⟨a6, m6, cc6, sa6, sm6, sc6, rfl, hr6⟩, hg6⟩; have c6 := hg6.cell c5 (by simp); obtain ⟨⟨x, cx⟩, ⟨y, cy⟩, z1, z2⟩ := (B1.out.keptN (grown_trans G3.out (grown_trans hg5 hg6))).cells))
    all_goals go_wp2
    all_goals
     obtain ⟨r1, r2, r3⟩ := ret_row (fn := Tryz.f68) (p := 6) rfl (B1.out.keptN (grown_trans G3.out (grown_trans hg5 hg6))) hr6 (grown_trans G1.out (grown_trans G3.out (grown_trans hg5 hg6)))
     refine ret_endC r1 r2 r3 ?_ ?_ <;> rfl
 ·have ht2 := ht.symm
  subst ht2
  by_cases hct : f = c
  ·subst hct
   have hm : f = m := by omega
   subst hm
   go_enter Tryz.func68, Tryz.ntmps68
   go_wp2_with fail
   refine LF.out.mono ?_
   rintro en w2 ⟨rfl, hg2⟩
   have G2 := hid_intro hg2
   have c2 := hg2.cell c1 (by simp)
   have P2 := hid_intro (P1.out.kept (FrT.of hg2))
   have N2 := hid_intro (N1.out.kept (FrT.of hg2))
   have D1 := hid_intro (show PsT w2 (some ⟨g, off, none⟩) 0 (0) ((x.ps.take (f)).drop f) from by have := SlT.end (SlT.take P2.out (Nat.le_refl _)) (Nat.le_refl _) (some ⟨g, off, none⟩) 0 (by omega) (fun e => by cases e) (fun x hx => by cases hx; exact ⟨_, _, rfl⟩); exact this)
   clear hg2 LF c1
   go_wp2_with fail
   refine (equalFunc_any _ _ _ _ _ _ ((x.ps.take (f)).drop f) now w2 D1.out N2.out (by omega) (by omega) VA.out VN.out).mono ?_
   rintro en w3 ⟨rfl, hg3⟩
   rw [← HSM.out]
   have G3 := hid_intro (grown_trans G2.out hg3)
   have c3 := hg3.cell c2 (by simp)
   have P3 := hid_intro (P2.out.kept (FrT.of hg3))
   have N3 := hid_intro (N2.out.kept (FrT.of hg3))
   clear hg3 c2 D1 P2 N2 VA VN
   cases hs : sameT x.ps now key with
   | true =>
    clear HSM SU
    go_wp2
    exact ⟨rfl, rfl, grown_trans G1.out G3.out⟩
   | false =>
    have E1 : Hid (PsT w3 (some ⟨g, off, none⟩) f (f) (x.ps.take f)) := SlT.take P3.out (by omega)
    have E3 : Hid (PsT w3 (some ⟨g, off, none⟩) 0 (0) (x.ps.drop (f))) := SlT.end P3.out (by omega) _ _ (by omega) (fun e => by cases e) (fun x hx => by cases hx; exact ⟨_, _, rfl⟩)
    have CT := hid_intro (cat3_tp IpT ip_keptN _ _ _ _ _ _ _ _ _ _ _ _ E1.out N3.out E3.out (by omega))
    clear HSM
    have v1 : (0 : Int) ≤ (f : Int) := by omega
    have v2 : (f : Int) ≤ ((f : Nat) : Int) := by omega
    have v3 : ¬ (((f : Nat) : Int) < (f : Int)) := by omega
    have v8 : (f : Int) ≤ (f : Int) + 1 := by omega
    have v9 : (0 : Int) ≤ (f : Int) + 1 := by omega
    have v4 : ((f : Nat) : Int) ≤ ((f : Nat) : Int) := by omega
    have v5 : ((f : Nat) : Int) ≤ ((f : Nat) : Int) := by omega
    have v6 : (0 : Int) ≤ ((f : Nat) : Int) := by omega
    have v7 : (f : Int) ≤ ((f : Nat) : Int) := by omega
    have hbn : ¬ b = w.heap.size := by omega
    have hbn2 : ¬ w.heap.size = b := by omega
    skip
    go_upto_region 7 with fail
    go_region_held3 (fun w' => w'.cell? ⟨b, 1, none⟩ = some (.slice (some ⟨g, off, none⟩) (f) (f))) (first | exact c3 | exact c5 | exact c6 | go_keep) (first
     | (go_at_call 77; (with_reducible refine CT.out.mono ?_); rintro en w5 ⟨⟨a5, n5, cc5, rfl, hp5⟩, hg5⟩; have c5 := hg5.cell c3 (by simp); have hq5 : PsT w5 a5 n5 cc5 (x.ps.take f ++ (now ++ x.ps.drop (f))) := hp5)
     | (go_at_call 76; (with_reducible refine (SU.out _ _ _ _ hq5).mono ?_); rintro en w6 ⟨⟨a6, m6, cc6, sa6, sm6, sc6, rfl, hr6⟩, hg6⟩; have c6 := hg6.cell c5 (by simp); obtain ⟨⟨x, cx⟩, ⟨y, cy⟩, z1, z2⟩ := (B1.out.keptN (grown_trans G3.out (grown_trans hg5 hg6))).cells))
    all_goals go_wp2
    all_goals
     obtain ⟨r1, r2, r3⟩ := ret_row (fn := Tryz.f68) (p := 6) rfl (B1.out.keptN (grown_trans G3.out (grown_trans hg5 hg6))) hr6 (grown_trans G1.out (grown_trans G3.out (grown_trans hg5 hg6)))
     refine ret_endC r1 r2 r3 ?_ ?_ <;> rfl
  ·have hcf : ¬ c = f := by omega
   go_enter Tryz.func68, Tryz.ntmps68
   go_wp2_with fail
   refine LF.out.mono ?_
   rintro en w2 ⟨rfl, hg2⟩
   have G2 := hid_intro hg2
   have c2 := hg2.cell c1 (by simp)
   have P2 := hid_intro (P1.out.kept (FrT.of hg2))
   have N2 := hid_intro (N1.out.kept (FrT.of hg2))
   have D1 := hid_intro (show PsT w2 (some ⟨g, off + f * 3, none⟩) 0 (c - f) ((x.ps.take (f)).drop f) from by have := SlT.drop (SlT.take P2.out (i := f) (by omega)) (i := f) (by omega); exact (show SlT w2 108 3 (IpT w2) (some ⟨g, off + f * 3, none⟩) 0 (c - f) _ from by simpa using this))
   clear hg2 LF c1
   go_wp2_with fail
   refine (equalFunc_any _ _ _ _ _ _ ((x.ps.take (f)).drop f) now w2 D1.out N2.out (by omega) (by omega) VA.out VN.out).mono ?_
   rintro en w3 ⟨rfl, hg3⟩
   rw [← HSM.out]
   have G3 := hid_intro (grown_trans G2.out hg3)
   have c3 := hg3.cell c2 (by simp)
   have P3 := hid_intro (P2.out.kept (FrT.of hg3))
   have N3 := hid_intro (N2.out.kept (FrT.of hg3))
   clear hg3 c2 D1 P2 N2 VA VN
   cases hs : sameT x.ps now key with
   | true =>
    clear HSM SU
    go_wp2
    exact ⟨rfl, rfl, grown_trans G1.out G3.out⟩
   | false =>
    have E1 : Hid (PsT w3 (some ⟨g, off, none⟩) f (c) (x.ps.take f)) := SlT.take P3.out (by omega)
    have E3 : Hid (PsT w3 (some ⟨g, off + f * 3, none⟩) (m - f) (c - f) (x.ps.drop (f))) := SlT.drop P3.out (by omega)
    have CT := hid_intro (cat3_tp IpT ip_keptN _ _ _ _ _ _ _ _ _ _ _ _ E1.out N3.out E3.out (by omega))
    clear HSM
    have v1 : (0 : Int) ≤ (f : Int) := by omega
    have v2 : (f : Int) ≤ ((c : Nat) : Int) := by omega
    have v3 : ¬ (((c : Nat) : Int) < (f : Int)) := by omega
    have v8 : (f : Int) ≤ (f : Int) + 1 := by omega
    have v9 : (0 : Int) ≤ (f : Int) + 1 := by omega
    have v4 : ((f : Nat) : Int) ≤ ((m : Nat) : Int) := by omega
    have v5 : ((f : Nat) : Int) ≤ ((c : Nat) : Int) := by omega
    have v6 : (0 : Int) ≤ ((f : Nat) : Int) := by omega
    have v7 : (f : Int) ≤ ((m : Nat) : Int) := by omega
    have hbn : ¬ b = w.heap.size := by omega
    have hbn2 : ¬ w.heap.size = b := by omega
    skip
    go_upto_region 7 with fail
    go_region_held3 (fun w' => w'.cell? ⟨b, 1, none⟩ = some (.slice (some ⟨g, off, none⟩) (m) (c))) (first | exact c3 | exact c5 | exact c6 | go_keep) (first
     | (go_at_call 77; (with_reducible refine CT.out.mono ?_); rintro en w5 ⟨⟨a5, n5, cc5, rfl, hp5⟩, hg5⟩; have c5 := hg5.cell c3 (by simp); have hq5 : PsT w5 a5 n5 cc5 (x.ps.take f ++ (now ++ x.ps.drop (f))) := hp5)
     | (go_at_call 76; (with_reducible refine (SU.out _ _ _ _ hq5).mono ?_); rintro en w6 ⟨⟨a6, m6, cc6, sa6, sm6, sc6, rfl, hr6⟩, hg6⟩; have c6 := hg6.cell c5 (by simp); obtain ⟨⟨x, cx⟩, ⟨y, cy⟩, z1, z2⟩ := (B1.out.keptN (grown_trans G3.out (grown_trans hg5 hg6))).cells))
    all_goals go_wp2
    all_goals
     obtain ⟨r1, r2, r3⟩ := ret_row (fn := Tryz.f68) (p := 6) rfl (B1.out.keptN (grown_trans G3.out (grown_trans hg5 hg6))) hr6 (grown_trans G1.out (grown_trans G3.out (grown_trans hg5 hg6)))
     refine ret_endC r1 r2 r3 ?_ ?_ <;> rfl
theorem assertL (v : Value) (w : World) : (Instr.typeAssert (.iface 118 v) 82 118 false).run Tryz.prog w = .ok v w := by kernel_rfl
theorem assertB (v : Value) (w : World) : (Instr.typeAssert (.iface 134 v) 82 134 false).run Tryz.prog w = .ok v w := by kernel_rfl
theorem assertBy (v : Value) (w : World) : (Instr.typeAssert (.iface 134 v) 82 134 true).run Tryz.prog w = .ok (.tuple #[v, .bool true]) w := by kernel_rfl
theorem assertBn (v : Value) (w : World) : (Instr.typeAssert (.iface 118 v) 82 134 true).run Tryz.prog w = .ok (.tuple #[.pointer none, .bool false]) w := by kernel_rfl
theorem NodeT.leaf {w : World} {v : Value} {x : NdT 0} (h : NodeT 0 w v x) : ∃ b a m c, v = .iface 118 (.pointer (some ⟨b, 0, none⟩)) ∧ w.heap[b]? = some (.cells #[.int .i64 (LfT.no x), .slice a m c] 120 (0, 0)) ∧ PsT w a m c (LfT.ps x) := h
set_option maxHeartbeats 4000000 in
set_option maxRecDepth 100000 in
theorem lget_any (b : Nat) (x : LfT) (ka : Option Addr) (kn kc : Nat) (key : List Int) (w : World) (hx : NodeT 0 w (.iface 118 (.pointer (some ⟨b, 0, none⟩))) x) (hL : LokT x.ps) (hk : Byt w ka kn kc key) (bt : Bt key) :
  Calls Tryz.prog 146 #[.pointer (some ⟨b, 0, none⟩), .slice ka kn kc] w fun en w' => (∃ ao n c, en = .returned (.tuple #[.slice ao n c, .bool (getT 0 x key).isSome]) ∧ BtyT w' ao n c ((getT 0 x key).getD [])) ∧ w.grownBy w' none := by
 obtain ⟨b', a, m, c, e, hb, hps⟩ := hx
 simp only [Value.iface.injEq, Value.pointer.injEq, Option.some.injEq, Addr.mk.injEq, true_and, and_true] at e
 subst e
 have hlen := hps.len
 have hle := hL.len
 have hc0 := cell_heap (i := 1) hb rfl
 have LF := hid_intro (lfind_any b _ m c ka kn kc x.ps key _ hc0 hps (by omega) hL.s hk bt (fun p hp => (hL.v p hp).kb))
 have HG : Hid (getT 0 x key = if hasT x.ps key then some (x.ps.getD (findT x.ps key) pr0).val else none) := rfl
 cases hh : hasT x.ps key with
 | false =>
  rw [HG.out, hh]
  rw [hh] at LF
  clear hb hps hk
  go_enter Tryz.func146, Tryz.ntmps146
  go_wp2_with fail
  refine LF.out.mono ?_
  rintro en w2 ⟨rfl, hg2⟩
  have G2 := hid_intro hg2
  clear hg2 LF
  go_wp2
  go_ret2
  exact ⟨⟨_, _, _, rfl, BtyT.nil _⟩, G2.out⟩
 | true =>
  have hp : ∃ p, x.ps[findT x.ps key]? = some p := by
   unfold hasT at hh
   cases e : x.ps[findT x.ps key]? with
   | none => rw [e] at hh; simp at hh
   | some p => exact ⟨p, rfl⟩
  obtain ⟨p, hp⟩ := hp
  have hlt := (List.getElem?_eq_some_iff.1 hp).1
  have hgd : x.ps.getD (findT x.ps key) pr0 = p := by simp [List.getD, hp]
  rw [HG.out, hh, hgd]
  rw [hh] at LF
  generalize findT x.ps key = f at *
  obtain ⟨g, off, ka2, kn2, kc2, va, vn, vc, ca, cn, cc, rfl, _, c1, _, hip⟩ := hps.pair hp
  have hi1 : (0 : Int) ≤ (f : Int) ∧ (f : Int) < (m : Int) := by omega
  have HI := hid_intro hip
  clear hb hps hk hip
  go_enter Tryz.func146, Tryz.ntmps146
  go_wp2_with fail
  refine LF.out.mono ?_
  rintro en w2 ⟨rfl, hg2⟩
  have G2 := hid_intro hg2
  have c2 := hg2.cell hc0 (by simp)
  have d1 := hg2.cell c1 (by simp)
  clear hg2 LF c1 hc0
  go_wp2
  go_ret2
  exact ⟨⟨_, _, _, rfl, HI.out.v.kept (FrT.of G2.out)⟩, G2.out⟩
theorem its_keys {L : List PrT} (h : ∀ p ∈ L, Vp p) : ∀ x ∈ its L, x.key.length ≤ 140737488351232 := by
 intro x hx
 obtain ⟨p, hp, rfl⟩ := List.mem_map.1 hx
 have := (h p hp).k2
 show p.key.length ≤ _
 omega
set_option maxHeartbeats 4000000 in
set_option maxRecDepth 100000 in
theorem ljoins_any (b : Nat) (v : Value) (x y : LfT) (so : Option Addr) (sn sc : Nat) (s : List Int) (w : World) (hx : NodeT 0 w (.iface 118 (.pointer (some ⟨b, 0, none⟩))) x) (hy : NodeT 0 w v y) (hL : LokT x.ps) (hM : LokT y.ps) :
  Calls Tryz.prog 148 #[.pointer (some ⟨b, 0, none⟩), .slice so sn sc, v] w fun en w' => en = .returned (.bool (joinsT 0 x s y)) ∧ w.grownBy w' none := by
 obtain ⟨b', a, m, c, e, hb, hps⟩ := hx
 simp only [Value.iface.injEq, Value.pointer.injEq, Option.some.injEq, Addr.mk.injEq, true_and, and_true] at e
 subst e
 obtain ⟨d, a2, m2, c2, rfl, hd, hqs⟩ := hy
 have hl1 := hps.len
 have hl2 := hqs.len
 have hle := hL.len
 have hle2 := hM.len
 have k1 := cell_heap (i := 1) hb rfl
 have k2 := cell_heap (i := 1) hd rfl
 have g0 : w.grownBy w.drew none := (Qt.refl w).drew.grown none
 have G0 := hid_intro g0
 have IA := hid_intro (fun (W : World) (h : w.grownBy W none) => itemsOf_any a m c x.ps W (hps.kept (FrT.of h)) (by omega))
 have IBB := hid_intro (fun (W : World) (h : w.grownBy W none) => itemsOf_any a2 m2 c2 y.ps W (hqs.kept (FrT.of h)) (by omega))
 have HJ : Hid (joinsT 0 x s y = decide (size (its x.ps ++ its y.ps) ≤ 3000)) := by
  show decide (size (its (x.ps ++ y.ps)) ≤ 3000) = _
  rw [its_app]
 have KX : Hid (∀ z ∈ its x.ps ++ its y.ps, z.key.length ≤ 140737488351232) := by
  intro z hz
  rcases List.mem_append.1 hz with h | h
  ·exact its_keys hL.v z h
  ·exact its_keys hM.v z h
 have JL := hid_intro (fun (W : World) (g h : Nat) (h1 : SlT W 167 4 (IiT W) (some ⟨g, 0, none⟩) m m (its x.ps)) (h2 : SlT W 167 4 (IiT W) (some ⟨h, 0, none⟩) m2 m2 (its y.ps)) => joinLeaves_any (some ⟨g, 0, none⟩) m m (its x.ps) (some ⟨h, 0, none⟩) m2 m2 (its y.ps) W h1.il (by rw [its_len, hl1]) (fun e => by cases e) h2.il (by rw [its_len, hl2]) (fun e => by cases e) (by omega) KX.out)
 rw [HJ.out]
 have hta := assertL
 clear hb hd hps hqs g0
 go_enter Tryz.func148, Tryz.ntmps148
 go_wp2_with fail
 go_region_held3 (fun w' => w'.cell? ⟨b, 1, none⟩ = some (.slice a m c) ∧ w'.cell? ⟨d, 1, none⟩ = some (.slice a2 m2 c2)) (first | exact ⟨k1, k2⟩ | exact S1 | exact S2 | exact S3 | go_keep) (first
  | (go_at_call 175; (with_reducible refine (JL.out _ _ _ T1 T2).mono ?_); rintro en w6 ⟨rfl, hg6⟩; have S3 := And.intro (hg6.cell S2.1 (by simp)) (hg6.cell S2.2 (by simp)))
  | (go_at_call 94; (with_reducible refine (IA.out _ G0.out).mono ?_); rintro en w4 ⟨⟨g4, rfl, h4⟩, hg4⟩; have GA := grown_trans G0.out hg4; have S1 := And.intro (GA.cell k1 (by simp)) (GA.cell k2 (by simp)))
  | (go_at_call 94; (with_reducible refine (IBB.out _ GA).mono ?_); rintro en w5 ⟨⟨g5, rfl, T2⟩, hg5⟩; have T1 := h4.mono (by decide) (FrT.of hg5) (fun _ _ h => IiT.kept h (FrT.of hg5)); have GB := grown_trans GA hg5; have S2 := And.intro (GB.cell k1 (by simp)) (GB.cell k2 (by simp)))
  | (go_at_call 94; (with_reducible refine (IBB.out _ G0.out).mono ?_); rintro en w4 ⟨⟨g5, rfl, h5⟩, hg4⟩; have GA := grown_trans G0.out hg4; have S1 := And.intro (GA.cell k1 (by simp)) (GA.cell k2 (by simp)))
  | (go_at_call 94; (with_reducible refine (IA.out _ GA).mono ?_); rintro en w5 ⟨⟨g4, rfl, T1⟩, hg5⟩; have T2 := h5.mono (by decide) (FrT.of hg5) (fun _ _ h => IiT.kept h (FrT.of hg5)); have GB := grown_trans GA hg5; have S2 := And.intro (GB.cell k1 (by simp)) (GB.cell k2 (by simp))))
 all_goals go_wp2
 all_goals (go_ret; exact ⟨rfl, grown_trans GB hg6⟩)
set_option maxHeartbeats 4000000 in
set_option maxRecDepth 100000 in
theorem ljoined_any (b : Nat) (v : Value) (x y : LfT) (so : Option Addr) (sn sc : Nat) (s : List Int) (w : World) (hx : NodeT 0 w (.iface 118 (.pointer (some ⟨b, 0, none⟩))) x) (hy : NodeT 0 w v y) (hL : LokT x.ps) (hM : LokT y.ps) :
  Calls Tryz.prog 147 #[.pointer (some ⟨b, 0, none⟩), .slice so sn sc, v] w fun en w' => (∃ u, en = .returned u ∧ NodeT 0 w' u (joinedT 0 x s y)) ∧ w.grownBy w' none := by
 obtain ⟨b', a, m, c, e, hb, hps⟩ := hx
 simp only [Value.iface.injEq, Value.pointer.injEq, Option.some.injEq, Addr.mk.injEq, true_and, and_true] at e
 subst e
 obtain ⟨d, a2, m2, c2, rfl, hd, hqs⟩ := hy
 have hle := hL.len
 have hle2 := hM.len
 have k1 := cell_heap (i := 1) hb rfl
 have k2 := cell_heap (i := 1) hd rfl
 have CT := hid_intro (cat2_tp IpT ip_keptN _ _ _ _ _ _ _ _ hps hqs (by rw [List.length_append]; omega))
 have hta := assertL
 have hb1 := cell_lt k1
 have hd1 := cell_lt k2
 have hj : joinedT 0 x s y = (⟨0, x.ps ++ y.ps⟩ : LfT) := rfl
 rw [hj]
 clear hb hd hps hqs
 go_enter Tryz.func147, Tryz.ntmps147
 go_wp2_with fail
 go_region_held3 (fun w' => w'.cell? ⟨b, 1, none⟩ = some (.slice a m c) ∧ w'.cell? ⟨d, 1, none⟩ = some (.slice a2 m2 c2)) (first | exact ⟨k1, k2⟩ | exact S1 | exact S2 | go_keep) (first
  | (go_at_call 77; (with_reducible refine CT.out.mono ?_); rintro en w5 ⟨⟨a5, n5, cc5, rfl, hp5⟩, hg5⟩; have S1 := And.intro (hg5.cell k1 (by simp)) (hg5.cell k2 (by simp)); have hq5 : PsT w5 a5 n5 cc5 (x.ps ++ y.ps) := hp5; have GL := World.grownBy_alloc w5 (.cells #[.int .i64 0, .slice a5 n5 cc5] 120) none; have S2 := And.intro (GL.cell S1.1 (by simp)) (GL.cell S1.2 (by simp))))
 all_goals go_wp2
 all_goals (go_ret; exact ⟨⟨_, rfl, node_leaf 0 hq5⟩, grown_trans hg5 GL⟩)
def tyN : Nat → Nat
 | 0 => 118
 | _ + 1 => 134
theorem NodeT.at {n : Nat} {w : World} {u : Value} {x : NdT n} (h : NodeT n w u x) : ∃ b, u = .iface (tyN n) (.pointer (some ⟨b, 0, none⟩)) := by
 cases n with
 | zero =>
  obtain ⟨b, a, m, c, h1, _⟩ := h
  exact ⟨b, h1⟩
 | succ n =>
  obtain ⟨b, a, m, c, sa, sm, sc, h1, _⟩ := h
  exact ⟨b, h1⟩
theorem mL_joins (v : Value) (w : World) : (method 312 118 v "coppice/tree.joins").run Tryz.prog w = .ok (148, v) w := by kernel_rfl
theorem mB_joins (v : Value) (w : World) : (method 312 134 v "coppice/tree.joins").run Tryz.prog w = .ok (160, v) w := by kernel_rfl
theorem mL_joined (v : Value) (w : World) : (method 312 118 v "coppice/tree.joined").run Tryz.prog w = .ok (147, v) w := by kernel_rfl
theorem mB_joined (v : Value) (w : World) : (method 312 134 v "coppice/tree.joined").run Tryz.prog w = .ok (159, v) w := by kernel_rfl
theorem mL_changed (v : Value) (w : World) : (method 312 118 v "coppice/tree.changed").run Tryz.prog w = .ok (68, v) w := by kernel_rfl
theorem mB_changed (v : Value) (w : World) : (method 312 134 v "coppice/tree.changed").run Tryz.prog w = .ok (155, v) w := by kernel_rfl
theorem mL_get (v : Value) (w : World) : (method 312 118 v "coppice/tree.get").run Tryz.prog w = .ok (146, v) w := by kernel_rfl
theorem mB_get (v : Value) (w : World) : (method 312 134 v "coppice/tree.get").run Tryz.prog w = .ok (158, v) w := by kernel_rfl
theorem mL_level (v : Value) (w : World) : (method 312 118 v "coppice/tree.level").run Tryz.prog w = .ok (149, v) w := by kernel_rfl
theorem mB_level (v : Value) (w : World) : (method 312 134 v "coppice/tree.level").run Tryz.prog w = .ok (161, v) w := by kernel_rfl
theorem mL_tell (v : Value) (w : World) : (method 312 118 v "coppice/tree.tell").run Tryz.prog w = .ok (152, v) w := by kernel_rfl
theorem mB_tell (v : Value) (w : World) : (method 312 134 v "coppice/tree.tell").run Tryz.prog w = .ok (164, v) w := by kernel_rfl
theorem mL_count (v : Value) (w : World) : (method 312 118 v "coppice/tree.count").run Tryz.prog w = .ok (143, v) w := by kernel_rfl
theorem grown_al {w W : World} (h : w.grownBy W none) (o : Obj) : w.grownBy (W.alloc o) none := grown_trans h (World.grownBy_alloc W o none)
theorem grown_dw {w W : World} (h : w.grownBy W none) : w.grownBy W.drew none := grown_trans h ((Qt.refl W).drew.grown none)
theorem keep1 {w W : World} {a : Addr} {v : Value} (h : w.cell? a = some v) (hg : w.grownBy W none) : W.cell? a = some v := hg.cell h (by simp)
theorem heap_at0 (w : World) (cs : Array Value) (t : TypeId) : (w.alloc (.cells cs t)).heap[w.heap.size]? = some (.cells cs t (0, 0)) := heap_alloc_new w _
theorem heap_at1 (w : World) (o : Obj) (cs : Array Value) (t : TypeId) : ((w.alloc o).alloc (.cells cs t)).heap[w.heap.size + 1]? = some (.cells cs t (0, 0)) := by
 have := heap_alloc_new (w.alloc o) (.cells cs t)
 simpa using this
theorem heap_at2 (w : World) (o o' : Obj) (cs : Array Value) (t : TypeId) : (((w.alloc o).alloc o').alloc (.cells cs t)).heap[w.heap.size + 1 + 1]? = some (.cells cs t (0, 0)) := by
 have := heap_alloc_new ((w.alloc o).alloc o') (.cells cs t)
 simpa using this
theorem heap_dw {w : World} {k : Nat} {x : Obj} (h : w.heap[k]? = some x) : w.drew.heap[k]? = some x := h
theorem els3_at {W : World} {q : Nat} {t y : TypeId} {k : Nat} {a b d : Option Addr} {n c m e r f : Nat} {A B D : List (List Value)} (hq : W.heap[q]? = some (.cells #[.slice a n c, .slice b m e, .slice d r f] t (0, 0))) (h1 : EsT W y a n c k A) (h2 : EsT W y b m e k B) (h3 : EsT W y d r f k D) : ElsT W (some ⟨q, 0, none⟩) y k [A, B, D] := by
 refine ⟨fun j hj => ?_⟩
 match j, hj with
 | 0, _ => exact ⟨_, 0, a, n, c, rfl, cell_heap hq rfl, h1⟩
 | 1, _ => exact ⟨_, 0, b, m, e, rfl, cell_heap hq rfl, h2⟩
 | 2, _ => exact ⟨_, 0, d, r, f, rfl, cell_heap hq rfl, h3⟩
 | k + 3, h =>
  have h2 : k + 3 < 3 := h
  omega
theorem els2_at {W : World} {q : Nat} {t y : TypeId} {k : Nat} {a b : Option Addr} {n c m e : Nat} {A B : List (List Value)} (hq : W.heap[q]? = some (.cells #[.slice a n c, .slice b m e] t (0, 0))) (h1 : EsT W y a n c k A) (h2 : EsT W y b m e k B) : ElsT W (some ⟨q, 0, none⟩) y k [A, B] := by
 refine ⟨fun j hj => ?_⟩
 match j, hj with
 | 0, _ => exact ⟨_, 0, a, n, c, rfl, cell_heap hq rfl, h1⟩
 | 1, _ => exact ⟨_, 0, b, m, e, rfl, cell_heap hq rfl, h2⟩
 | k + 2, h =>
  have h2 : k + 2 < 2 := h
  omega
theorem es_one {W : World} {p : Nat} {t : TypeId} {v : Value} (h : W.heap[p]? = some (.cells #[v] t (0, 0))) (hv : v.oneCell' = true) : EsT W t (some ⟨p, 0, none⟩) 1 1 1 [[v]] := by
 refine ⟨rfl, Nat.le_refl _, by omega, (fun e => by cases e), (fun x hx => by cases hx; exact ⟨_, _, rfl⟩), by simp, by simpa using hv, fun i e he => ⟨_, 0, rfl, ⟨_, _, h⟩, fun f u hu => ?_⟩⟩
 match i, he with
 | 0, he =>
  simp only [List.getElem?_cons_zero, Option.some.injEq] at he
  subst he
  match f, hu with
  | 0, hu =>
   simp only [List.getElem?_cons_zero, Option.some.injEq] at hu
   subst hu
   exact cell_heap h rfl
  | f + 1, hu => simp at hu
 | i + 1, he => simp at he
theorem catAt2_tn {T : Type} (J : World → List Value → T → Prop) (hJ : ∀ w w', w.grownBy w' none → ∀ e x, J w e x → J w' e x) {W : World} {q : Nat} {t : TypeId} {a1 : Option Addr} {n1 c1 : Nat} {L1 : List T} {a2 : Option Addr} {n2 c2 : Nat} {L2 : List T} (hq : W.heap[q]? = some (.cells #[.slice a1 n1 c1, .slice a2 n2 c2] t (0, 0))) (h1 : SlT W 82 1 (J W) a1 n1 c1 L1) (h2 : SlT W 82 1 (J W) a2 n2 c2 L2) (ht : (L1 ++ L2).length ≤ 100000) :
  Calls Tryz.prog 172 #[.slice (some ⟨q, 0, none⟩) 2 2] W fun en w' => (∃ a N c, en = .returned (.slice a N c) ∧ SlT w' 82 1 (J w') a N c (L1 ++ L2)) ∧ W.grownBy w' none := by
 obtain ⟨e1, x1, y1⟩ := h1.ex
 obtain ⟨e2, x2, y2⟩ := h2.ex
 have l1 := els2_at hq x1 x2
 have hy := (y1.app y2)
 have hl := hy.len
 have e : [e1, e2].flatten = e1 ++ e2 := by simp
 refine (concat_tn _ 2 2 [e1, e2] _ l1 rfl (by omega) (by rw [e, hl]; exact ht)).mono ?_
 rintro en w' ⟨⟨a, c, rfl, h9⟩, hg⟩
 rw [e] at h9
 rw [hl] at h9
 exact ⟨⟨a, _, c, by rw [e, hl], _, h9, hy.mono (fun _ _ h => hJ _ _ hg _ _ h)⟩, hg⟩
theorem catAt3_tn {T : Type} (J : World → List Value → T → Prop) (hJ : ∀ w w', w.grownBy w' none → ∀ e x, J w e x → J w' e x) {W : World} {q : Nat} {t : TypeId} {a1 : Option Addr} {n1 c1 : Nat} {L1 : List T} {a2 : Option Addr} {n2 c2 : Nat} {L2 : List T} {a3 : Option Addr} {n3 c3 : Nat} {L3 : List T} (hq : W.heap[q]? = some (.cells #[.slice a1 n1 c1, .slice a2 n2 c2, .slice a3 n3 c3] t (0, 0))) (h1 : SlT W 82 1 (J W) a1 n1 c1 L1) (h2 : SlT W 82 1 (J W) a2 n2 c2 L2) (h3 : SlT W 82 1 (J W) a3 n3 c3 L3) (ht : (L1 ++ (L2 ++ L3)).length ≤ 100000) :
  Calls Tryz.prog 172 #[.slice (some ⟨q, 0, none⟩) 3 3] W fun en w' => (∃ a N c, en = .returned (.slice a N c) ∧ SlT w' 82 1 (J w') a N c (L1 ++ (L2 ++ L3))) ∧ W.grownBy w' none := by
 obtain ⟨e1, x1, y1⟩ := h1.ex
 obtain ⟨e2, x2, y2⟩ := h2.ex
 obtain ⟨e3, x3, y3⟩ := h3.ex
 have l1 := els3_at hq x1 x2 x3
 have hy := (y1.app (y2.app y3))
 have hl := hy.len
 have e : [e1, e2, e3].flatten = e1 ++ (e2 ++ e3) := by simp
 refine (concat_tn _ 3 3 [e1, e2, e3] _ l1 rfl (by omega) (by rw [e, hl]; exact ht)).mono ?_
 rintro en w' ⟨⟨a, c, rfl, h9⟩, hg⟩
 rw [e] at h9
 rw [hl] at h9
 exact ⟨⟨a, _, c, by rw [e, hl], _, h9, hy.mono (fun _ _ h => hJ _ _ hg _ _ h)⟩, hg⟩
theorem catAt2_ts {T : Type} (J : World → List Value → T → Prop) (hJ : ∀ w w', w.grownBy w' none → ∀ e x, J w e x → J w' e x) {W : World} {q : Nat} {t : TypeId} {a1 : Option Addr} {n1 c1 : Nat} {L1 : List T} {a2 : Option Addr} {n2 c2 : Nat} {L2 : List T} (hq : W.heap[q]? = some (.cells #[.slice a1 n1 c1, .slice a2 n2 c2] t (0, 0))) (h1 : SlT W 30 1 (J W) a1 n1 c1 L1) (h2 : SlT W 30 1 (J W) a2 n2 c2 L2) (ht : (L1 ++ L2).length ≤ 100000) :
  Calls Tryz.prog 173 #[.slice (some ⟨q, 0, none⟩) 2 2] W fun en w' => (∃ a N c, en = .returned (.slice a N c) ∧ SlT w' 30 1 (J w') a N c (L1 ++ L2)) ∧ W.grownBy w' none := by
 obtain ⟨e1, x1, y1⟩ := h1.ex
 obtain ⟨e2, x2, y2⟩ := h2.ex
 have l1 := els2_at hq x1 x2
 have hy := (y1.app y2)
 have hl := hy.len
 have e : [e1, e2].flatten = e1 ++ e2 := by simp
 refine (concat_ts _ 2 2 [e1, e2] _ l1 rfl (by omega) (by rw [e, hl]; exact ht)).mono ?_
 rintro en w' ⟨⟨a, c, rfl, h9⟩, hg⟩
 rw [e] at h9
 rw [hl] at h9
 exact ⟨⟨a, _, c, by rw [e, hl], _, h9, hy.mono (fun _ _ h => hJ _ _ hg _ _ h)⟩, hg⟩
theorem catAt3_ts {T : Type} (J : World → List Value → T → Prop) (hJ : ∀ w w', w.grownBy w' none → ∀ e x, J w e x → J w' e x) {W : World} {q : Nat} {t : TypeId} {a1 : Option Addr} {n1 c1 : Nat} {L1 : List T} {a2 : Option Addr} {n2 c2 : Nat} {L2 : List T} {a3 : Option Addr} {n3 c3 : Nat} {L3 : List T} (hq : W.heap[q]? = some (.cells #[.slice a1 n1 c1, .slice a2 n2 c2, .slice a3 n3 c3] t (0, 0))) (h1 : SlT W 30 1 (J W) a1 n1 c1 L1) (h2 : SlT W 30 1 (J W) a2 n2 c2 L2) (h3 : SlT W 30 1 (J W) a3 n3 c3 L3) (ht : (L1 ++ (L2 ++ L3)).length ≤ 100000) :
  Calls Tryz.prog 173 #[.slice (some ⟨q, 0, none⟩) 3 3] W fun en w' => (∃ a N c, en = .returned (.slice a N c) ∧ SlT w' 30 1 (J w') a N c (L1 ++ (L2 ++ L3))) ∧ W.grownBy w' none := by
 obtain ⟨e1, x1, y1⟩ := h1.ex
 obtain ⟨e2, x2, y2⟩ := h2.ex
 obtain ⟨e3, x3, y3⟩ := h3.ex
 have l1 := els3_at hq x1 x2 x3
 have hy := (y1.app (y2.app y3))
 have hl := hy.len
 have e : [e1, e2, e3].flatten = e1 ++ (e2 ++ e3) := by simp
 refine (concat_ts _ 3 3 [e1, e2, e3] _ l1 rfl (by omega) (by rw [e, hl]; exact ht)).mono ?_
 rintro en w' ⟨⟨a, c, rfl, h9⟩, hg⟩
 rw [e] at h9
 rw [hl] at h9
 exact ⟨⟨a, _, c, by rw [e, hl], _, h9, hy.mono (fun _ _ h => hJ _ _ hg _ _ h)⟩, hg⟩
theorem NodeT.atL {w : World} {u : Value} {x : NdT 0} (h : NodeT 0 w u x) : ∃ b, u = .iface 118 (.pointer (some ⟨b, 0, none⟩)) := h.at
theorem NodeT.atB {n : Nat} {w : World} {u : Value} {x : NdT (n + 1)} (h : NodeT (n + 1) w u x) : ∃ b, u = .iface 134 (.pointer (some ⟨b, 0, none⟩)) := h.at
theorem ret_rowG {fn : Func} {p : Tmp} {n : Nat} {r : RwT (NdT n)} {w w5 : World} {G : Nat} {a : Option Addr} {m c : Nat} {sa : Option Addr} {sm sc : Nat} (h : fn.results = #[.cell p 77]) (hb : BxT w5 G) (hG : w.heap.size ≤ G) (hr : RowT n w5 a m c sa sm sc r) (hg : w.grownBy w5 none) {ac : Act} (hp : ac.tmps.getD p undef = .pointer (some ⟨G, 0, none⟩)) (hd : ac.defers = []) :
  bodyPost Tryz.prog fn (fun en w' => (∃ a m c sa sm sc, en = .returned (.agg #[.slice a m c, .slice sa sm sc]) ∧ RowT n w' a m c sa sm sc r) ∧ w.grownBy w' none) Exit.ret ac ((w5.setCell ⟨G, 0, none⟩ (.slice a m c)).setCell ⟨G, 1, none⟩ (.slice sa sm sc)) := by
 obtain ⟨k1, k2, k3⟩ := hb.put (.slice a m c) (.slice sa sm sc)
 exact bodyPost_ret (results_row h _ _ _ _ _ hp k1) hd ⟨⟨_, _, _, _, _, _, rfl, hr.kept k2⟩, grown_new hg k3 hG⟩
def fJoined : Nat → Nat
 | 0 => 147
 | _ + 1 => 159
def fJoins : Nat → Nat
 | 0 => 148
 | _ + 1 => 160
def JoinedC (n : Nat) : Prop := ∀ (b : Nat) (v : Value) (x y : NdT n) (so : Option Addr) (sn sc : Nat) (s : List Int) (w : World), NodeT n w (.iface (tyN n) (.pointer (some ⟨b, 0, none⟩))) x → NodeT n w v y → OkT n x → OkT n y → BtyT w so sn sc s → Vs s → joinsT n x s y = true →
 (∀ p ∈ flatT n x, cmpZ p.key s < 0) → (∀ p ∈ flatT n y, cmpZ s p.key ≤ 0) →
 Calls Tryz.prog (fJoined n) #[.pointer (some ⟨b, 0, none⟩), .slice so sn sc, v] w fun en w' => (∃ u, en = .returned u ∧ NodeT n w' u (joinedT n x s y)) ∧ w.grownBy w' none
def JoinsC (n : Nat) : Prop := ∀ (b : Nat) (v : Value) (x y : NdT n) (so : Option Addr) (sn sc : Nat) (s : List Int) (w : World), NodeT n w (.iface (tyN n) (.pointer (some ⟨b, 0, none⟩))) x → NodeT n w v y → OkT n x → OkT n y → BtyT w so sn sc s → Vs s →
 Calls Tryz.prog (fJoins n) #[.pointer (some ⟨b, 0, none⟩), .slice so sn sc, v] w fun en w' => en = .returned (.bool (joinsT n x s y)) ∧ w.grownBy w' none
theorem joinedC0 : JoinedC 0 := fun b v x y so sn sc s w hx hy ox oy _ _ _ _ _ => ljoined_any b v x y so sn sc s w hx hy (LokT.of ox) (LokT.of oy)
theorem joinsC0 : JoinsC 0 := fun b v x y so sn sc s w hx hy ox oy _ _ => ljoins_any b v x y so sn sc s w hx hy (LokT.of ox) (LokT.of oy)
theorem seps_few {L : List (List Int)} (h : bsize L ≤ 4092) : L.length ≤ 370 := by
 have := bsize_least L
 omega
set_option maxHeartbeats 4000000 in
set_option maxRecDepth 100000 in
theorem bjoins_any (n : Nat) : JoinsC (n + 1) := by
 intro b v x y so sn sc s w hx hy ox oy hs hv
 obtain ⟨b', a, m, c, sa, sm, sc1, e, hb, _, hss⟩ := hx
 simp only [tyN, Value.iface.injEq, Value.pointer.injEq, Option.some.injEq, Addr.mk.injEq, true_and, and_true] at e
 subst e
 obtain ⟨d, a2, m2, c2, sa2, sm2, sc2, rfl, hd, _, hss2⟩ := hy
 obtain ⟨_, _, _, x4, x5⟩ := ox
 obtain ⟨_, _, _, y4, y5⟩ := oy
 have l1 := hss.len
 have l2 := hss2.len
 have f1 := seps_few x4
 have f2 := seps_few y4
 have k1 := cell_heap (i := 2) hb rfl
 have k2 := cell_heap (i := 2) hd rfl
 have KX : Hid (∀ z ∈ (BnT.row (T := NdT n) x).ss ++ ([s] ++ (BnT.row (T := NdT n) y).ss), z.length ≤ 140737488351232) := by
  intro z hz
  simp only [List.mem_append, List.mem_cons, List.not_mem_nil, or_false] at hz
  rcases hz with h | rfl | h
  ·have := (x5 z h).k2; omega
  ·have := hv.k2; omega
  ·have := (y5 z h).k2; omega
 have JB := hid_intro (fun (W : World) (h : w.grownBy W none) => joinBranches_any sa sm sc1 (BnT.row (T := NdT n) x).ss so sn sc s sa2 sm2 sc2 (BnT.row (T := NdT n) y).ss W (hss.kept (FrT.of h)).lz l1 hss.cap.2.2 (hs.b.keptN h) hs.l1 hs.l2 (hss2.kept (FrT.of h)).lz l2 hss2.cap.2.2 (by omega) KX.out)
 have HJ : Hid (joinsT (n + 1) x s y = decide (bsize ((BnT.row (T := NdT n) x).ss ++ ([s] ++ (BnT.row (T := NdT n) y).ss)) ≤ 3000)) := rfl
 have G0 := hid_intro ((Qt.refl w).drew.grown none)
 have hta := assertB
 rw [HJ.out]
 show Calls Tryz.prog 160 _ _ _
 clear hb hd hss hss2 hs x5 y5
 go_enter Tryz.func160, Tryz.ntmps160
 go_wp2_with fail
 go_region_held3 (fun w' => w'.cell? ⟨b, 2, none⟩ = some (.slice sa sm sc1) ∧ w'.cell? ⟨d, 2, none⟩ = some (.slice sa2 sm2 sc2)) (first | exact ⟨k1, k2⟩ | exact S1 | go_keep) (first
  | (go_at_call 176; (with_reducible refine (JB.out _ G0.out).mono ?_); rintro en w6 ⟨rfl, hg6⟩; have GG := grown_trans G0.out hg6; have S1 := And.intro (GG.cell k1 (by simp)) (GG.cell k2 (by simp))))
 all_goals go_wp2
 all_goals (go_ret; exact ⟨rfl, GG⟩)
set_option maxHeartbeats 4000000 in
set_option maxRecDepth 100000 in
theorem search_tr (A B : Nat) (n : Nat) (p : Nat → Bool) (w : World) (hn : n ≤ 100000)
  (hp : ∀ (k : Nat) (w1 : World), k < n → w.grownBy w1 none → Calls Tryz.prog 169 #[.int .i64 k, .pointer (some ⟨A, 0, none⟩), .pointer (some ⟨B, 0, none⟩)] w1 fun en w' => en = .returned (.bool (p k)) ∧ w1.grownBy w' none) :
  Calls Tryz.prog 121 #[.int .i64 n, .func (.func 169) #[] #[.pointer (some ⟨A, 0, none⟩), .pointer (some ⟨B, 0, none⟩)]] w fun en w' => (∃ k : Nat, en = .returned (.int .i64 k) ∧ k ≤ n ∧ (0 < k → p (k - 1) = false) ∧ (k < n → p k = true)) ∧ w.grownBy w' none := by
 have HP := hid_intro hp
 clear hp
 go_enter Tryz.func121, Tryz.ntmps121
 go_wp2
 go_loopw [5, 6, 7] (fun si sj _ wr => ∃ i j : Nat, i ≤ j ∧ j ≤ n ∧ si = .int .i64 i ∧ sj = .int .i64 j ∧ (0 < i → p (i - 1) = false) ∧ (j < n → p j = true) ∧ w.grownBy wr none) (fun si sj _ _ => (intOf sj).toNat - (intOf si).toNat)
 case atStart => exact ⟨0, n, Nat.zero_le _, Nat.le_refl _, rfl, rfl, fun h => by omega, fun h => by omega, World.grownBy.refl _ _⟩
 case round =>
  obtain ⟨i, j, hij, hj, rfl, rfl, hlo, hhi, hg⟩ := hrel
  have HLO := hid_intro hlo
  have HHI := hid_intro hhi
  have HG := hid_intro hg
  clear hlo hhi hg
  by_cases hlt : i < j
  ·obtain ⟨m, hm⟩ : ∃ m : Nat, (i + j) / 2 = m := ⟨_, rfl⟩
   have h1 : i ≤ m ∧ m < j := by omega
   have e1 : ((i : Int) + (j : Int)) / 2 = (m : Int) := by omega
   have e2 : ((i : Int) + (j : Int)) % 18446744073709551616 = (i : Int) + (j : Int) := by omega
   go_wp2_with fail
   refine (HP.out m _ (by omega) HG.out).mono ?_
   rintro en w2 ⟨rfl, hg2⟩
   have HG2 := hid_intro (grown_trans HG.out hg2)
   clear hg2 HG
   cases hb : p m with
   | false =>
    have HB : Hid (0 < m + 1 → p (m + 1 - 1) = false) := fun _ => hb
    clear hb
    go_wp2
    go_roundw
    case rel => exact ⟨m + 1, j, by omega, hj, by go_num, rfl, HB.out, HHI.out, HG2.out⟩
    case measure => simp [intOf]; omega
   | true =>
    have HB : Hid (m < n → p m = true) := fun _ => hb
    clear hb
    go_wp2
    go_roundw
    case rel => exact ⟨i, m, by omega, by omega, rfl, rfl, HLO.out, HB.out, HG2.out⟩
    case measure => simp [intOf]; omega
  ·have hin : i = j := by omega
   subst hin
   go_wp2
   go_ret
   exact ⟨⟨i, rfl, hj, HLO.out, HHI.out⟩, HG.out⟩
theorem place_cons (x : List Int) (L : List (List Int)) (key : List Int) : placeT (x :: L) key = if cmpZ x key ≤ 0 then placeT L key + 1 else 0 := by
 unfold placeT
 rw [List.takeWhile_cons]
 by_cases h : cmpZ x key ≤ 0 <;> simp [h]
theorem place_at {key : List Int} : ∀ {L : List (List Int)} {k : Nat}, L.Pairwise (fun a b => cmpZ a b < 0) → k ≤ L.length → (0 < k → cmpZ (L.getD (k - 1) []) key ≤ 0) → (k < L.length → 0 < cmpZ (L.getD k []) key) → placeT L key = k
 | [], k, _, hk, _, _ => by simp [placeT] at *; omega
 | x :: L, 0, _, _, _, h2 => by
  have := h2 (by simp)
  rw [place_cons, if_neg (by simpa using this)]
 | x :: L, k + 1, hs, hk, h1, h2 => by
  have hp := List.pairwise_cons.1 hs
  simp only [List.length_cons] at hk h2
  have h3 := h1 (by omega)
  rw [show k + 1 - 1 = k by omega] at h3
  have hx : cmpZ x key ≤ 0 := by
   cases k with
   | zero => simpa using h3
   | succ k =>
    have e : (x :: L).getD (k + 1) [] = L.getD k [] := by simp [List.getD]
    rw [e] at h3
    have hm : L.getD k [] ∈ L := by
     rw [show L.getD k [] = L[k]'(by omega) by simp [List.getD, List.getElem?_eq_getElem (show k < L.length by omega)]]
     exact List.getElem_mem _
    have := lt_trans10 (hp.1 _ hm) h3
    omega
  rw [place_cons, if_pos hx]
  congr 1
  refine place_at hp.2 (by omega) (fun h0 => ?_) (fun h0 => ?_)
  ·cases k with
   | zero => omega
   | succ k =>
    have e : (x :: L).getD (k + 1) [] = L.getD k [] := by simp [List.getD]
    rw [e] at h3
    simpa using h3
  ·have := h2 (by omega)
   have e : (x :: L).getD (k + 1) [] = L.getD k [] := by simp [List.getD]
   rw [e] at this
   exact this
theorem seps_rise {T : Type} {F : T → List PrT} : ∀ (ns : List T) (ss : List (List Int)), (ss.map Sum.inr).Sublist (wordT F ns ss)
 | [], ss => List.Sublist.refl _
 | x :: xs, [] => by simp
 | x :: xs, s :: ss => by
  rw [wordT, List.map_cons]
  exact List.Sublist.trans ((seps_rise xs ss).cons_cons _) (List.sublist_append_right _ _)
theorem rise_of {T : Type} {F : T → List PrT} {ns : List T} {ss : List (List Int)} (h : SepT F ns ss) : ss.Pairwise fun a b => cmpZ a b < 0 := by
 have := h.ord.sublist (seps_rise ns ss)
 rw [List.pairwise_map] at this
 exact this.imp (fun k => rk_ss.1 k)
set_option maxHeartbeats 4000000 in
set_option maxRecDepth 100000 in
theorem place1_any (b A B : Nat) (sa : Option Addr) (sm sc : Nat) (ka : Option Addr) (kn kc : Nat) (L : List (List Int)) (key : List Int) (k : Nat) (w : World) (hA : w.cell? ⟨A, 0, none⟩ = some (.pointer (some ⟨b, 0, none⟩))) (hB : w.cell? ⟨B, 0, none⟩ = some (.slice ka kn kc)) (hc : w.cell? ⟨b, 2, none⟩ = some (.slice sa sm sc)) (hl : SsT w sa sm sc L) (hk : k < sm)
  (hb : Byt w ka kn kc key) (bt : Bt key) (bl : ∀ s ∈ L, Bt s) :
  Calls Tryz.prog 169 #[.int .i64 k, .pointer (some ⟨A, 0, none⟩), .pointer (some ⟨B, 0, none⟩)] w fun en w' => en = .returned (.bool (decide (0 < cmpZ (L.getD k []) key))) ∧ w.grownBy w' none := by
 have hlen := hl.len
 have hx : L[k]? = some (L.getD k []) := by rw [List.getElem?_eq_getElem (by omega)]; simp [List.getD, List.getElem?_eq_getElem (show k < L.length by omega)]
 obtain ⟨g, off, qa, qn, qc, rfl, c0, hp⟩ := hl.str hx
 have HC := hid_intro (fun (W : World) (h : W.heap = w.heap) => compare_any qa ka qn kn qc kc (L.getD k []) key W (hp.b.heap h) (hb.heap h) (bl _ (List.mem_of_getElem? hx)) bt)
 have hk2 : (0 : Int) ≤ (k : Int) ∧ (k : Int) < (sm : Int) := by omega
 generalize L.getD k [] = s at *
 clear hb hp hl bl hx
 go_enter Tryz.func169, Tryz.ntmps169
 go_wp2
 go_region_with (go_at_call 92; refine (HC.out w.drew rfl).mono ?_; rintro en w2 ⟨rfl, rfl⟩)
 all_goals (go_wp2; go_ret; exact ⟨rfl, (Qt.refl _).drew.grown none⟩)
set_option maxHeartbeats 4000000 in
set_option maxRecDepth 100000 in
theorem place_any (b : Nat) (sa : Option Addr) (sm sc : Nat) (ka : Option Addr) (kn kc : Nat) (L : List (List Int)) (key : List Int) (w : World) (hc : w.cell? ⟨b, 2, none⟩ = some (.slice sa sm sc)) (hl : SsT w sa sm sc L) (hm : sm ≤ 5000) (hs : L.Pairwise fun a b => cmpZ a b < 0)
  (hb : Byt w ka kn kc key) (bt : Bt key) (bl : ∀ s ∈ L, Bt s) :
  Calls Tryz.prog 165 #[.pointer (some ⟨b, 0, none⟩), .slice ka kn kc] w fun en w' => en = .returned (.int .i64 ((placeT L key : Nat) : Int)) ∧ w.grownBy w' none := by
 have hlen := hl.len
 have hmf : ∀ (fn : Fn) (first cap : Array Value) (w : World), (Instr.makeFunc fn first cap).run Tryz.prog w = .ok (.func fn first cap) w := fun _ _ _ _ => rfl
 have G1 := hid_intro (World.grownBy_alloc w (.cells #[.pointer (some ⟨b, 0, none⟩)] 134) none)
 have G2 := hid_intro (grown_trans G1.out (World.grownBy_alloc (w.alloc (.cells #[.pointer (some ⟨b, 0, none⟩)] 134)) (.cells #[.slice ka kn kc] 30) none))
 have HP : Hid (∀ (k : Nat) (w1 : World), k < sm → ((w.alloc (.cells #[.pointer (some ⟨b, 0, none⟩)] 134)).alloc (.cells #[.slice ka kn kc] 30)).grownBy w1 none → Calls Tryz.prog 169 #[.int .i64 k, .pointer (some ⟨w.heap.size, 0, none⟩), .pointer (some ⟨w.heap.size + 1, 0, none⟩)] w1 fun en w' => en = .returned (.bool (decide (0 < cmpZ (L.getD k []) key))) ∧ w1.grownBy w' none) := by
  intro k w1 hk hg
  have hg2 := grown_trans G2.out hg
  have c1 : ((w.alloc (.cells #[.pointer (some ⟨b, 0, none⟩)] 134)).alloc (.cells #[.slice ka kn kc] 30)).cell? ⟨w.heap.size + 1, 0, none⟩ = some (.slice ka kn kc) := cell_heap (heap_at1 w _ _ _) rfl
  have c2 : ((w.alloc (.cells #[.pointer (some ⟨b, 0, none⟩)] 134)).alloc (.cells #[.slice ka kn kc] 30)).cell? ⟨w.heap.size, 0, none⟩ = some (.pointer (some ⟨b, 0, none⟩)) := cell_heap (heap_old (heap_at0 w _ _)) rfl
  exact place1_any b _ _ sa sm sc ka kn kc L key k w1 (hg.cell c2 (by simp)) (hg.cell c1 (by simp)) (hg2.cell hc (by simp)) (hl.kept (FrT.of hg2)) hk (hb.keptN hg2) bt bl
 have hbl := cell_lt hc
 have HS := hid_intro hs
 clear hl hb hs bl
 go_enter Tryz.func165, Tryz.ntmps165
 go_wp2_with fail
 refine (search_tr _ _ sm _ _ (by omega) HP.out).mono ?_
 rintro en w2 ⟨⟨k, rfl, h1, h2, h3⟩, hg⟩
 have hf : placeT L key = k := place_at HS.out (by omega) (fun h => by have := h2 h; simpa using this) (fun h => by have := h3 (by omega); simpa using this)
 have HF := hid_intro hf
 have HG := hid_intro (grown_trans G2.out hg)
 clear hf h2 h3 hg HP
 go_wp2
 go_ret
 rw [HF.out]
 exact ⟨rfl, HG.out⟩
def fGet : Nat → Nat
 | 0 => 146
 | _ + 1 => 158
def GetC (n : Nat) : Prop := ∀ (b : Nat) (x : NdT n) (ka : Option Addr) (kn kc : Nat) (key : List Int) (w : World), NodeT n w (.iface (tyN n) (.pointer (some ⟨b, 0, none⟩))) x → OkT n x → Byt w ka kn kc key → Bt key →
 Calls Tryz.prog (fGet n) #[.pointer (some ⟨b, 0, none⟩), .slice ka kn kc] w fun en w' => (∃ ao n' c, en = .returned (.tuple #[.slice ao n' c, .bool (getT n x key).isSome]) ∧ BtyT w' ao n' c ((getT n x key).getD [])) ∧ w.grownBy w' none
theorem get_at {n : Nat} {x : NdT (n + 1)} {y : NdT n} {key : List Int} (h : (BnT.row (T := NdT n) x).ns[placeT (BnT.row (T := NdT n) x).ss key]? = some y) : getT (n + 1) x key = getT n y key := by rw [getT, h]
theorem getC0 : GetC 0 := fun b x ka kn kc key w hx ox hk bt => lget_any b x ka kn kc key w hx (LokT.of ox) hk bt
set_option maxHeartbeats 8000000 in
set_option maxRecDepth 100000 in
theorem getC_L (hG : GetC 0) : GetC 1 := by
 intro b x ka kn kc key w hx ox hk bt
 obtain ⟨b', a, m, c, sa, sm, sc, e, hb, hns, hss⟩ := hx
 simp only [tyN, Value.iface.injEq, Value.pointer.injEq, Option.some.injEq, Addr.mk.injEq, true_and, and_true] at e
 subst e
 obtain ⟨x1, x2, x3, x4, x5⟩ := ox
 obtain ⟨y, hy⟩ := at_place x3 x1 key
 have ls := hss.len
 have ln := hns.len
 have f1 := seps_few x4
 have k1 := cell_heap (i := 1) hb rfl
 have k2 := cell_heap (i := 2) hb rfl
 have G0 := hid_intro ((Qt.refl w).drew.grown none)
 have PL := hid_intro (fun (W : World) (h : w.grownBy W none) => place_any b sa sm sc ka kn kc (BnT.row (T := NdT 0) x).ss key W (h.cell k2 (by simp)) (hss.kept (FrT.of h)) (by omega) (rise_of x3) (hk.keptN h) bt (fun s hs => (x5 s hs).kb))
 obtain ⟨g, off, u, rfl, c1, hu⟩ := NsT.node (n := 0) hns hy.at_
 obtain ⟨b1, rfl⟩ := hu.atL
 have hlt := hy.lt
 have KG : Hid (∀ (W : World), w.grownBy W none → Calls Tryz.prog 146 #[.pointer (some ⟨b1, 0, none⟩), .slice ka kn kc] W fun en w' => (∃ ao n' c, en = .returned (.tuple #[.slice ao n' c, .bool (getT 0 y key).isSome]) ∧ BtyT w' ao n' c ((getT 0 y key).getD [])) ∧ W.grownBy w' none) := fun W h => hG b1 y ka kn kc key W (NodeT.kept _ hu (FrT.of h)) (x2 y (List.mem_of_getElem? hy.at_)) (hk.keptN h) bt
 have he : getT 1 x key = getT 0 y key := get_at hy.at_
 have HE := hid_intro he
 clear he
 rw [HE.out]
 generalize placeT (BnT.row (T := NdT 0) x).ss key = i at *
 have v1 : (0 : Int) ≤ (i : Int) ∧ (i : Int) < (m : Int) := by omega
 have hme := mL_get
 show Calls Tryz.prog 158 _ _ _
 clear hb hns hss hk hu x2 x3 x5 hy
 go_enter Tryz.func158, Tryz.ntmps158
 go_wp2_with fail
 go_region_held3 (fun w' => w'.cell? ⟨b, 1, none⟩ = some (.slice (some ⟨g, off, none⟩) m c) ∧ w'.cell? ⟨g, off + i, none⟩ = some (.iface 118 (.pointer (some ⟨b1, 0, none⟩)))) (first | exact ⟨k1, c1⟩ | exact S1 | exact S2 | go_keep) (first
  | (go_at_call 165; (with_reducible refine (PL.out _ G0.out).mono ?_); rintro en w4 ⟨rfl, hg4⟩; have GA := grown_trans G0.out hg4; have S1 := And.intro (GA.cell k1 (by simp)) (GA.cell c1 (by simp)))
  | (go_at_call 146; (with_reducible refine (KG.out _ GA).mono ?_); rintro en w5 ⟨⟨ao, n', c', rfl, hv⟩, hg5⟩; have GB := grown_trans GA hg5; have S2 := And.intro (GB.cell k1 (by simp)) (GB.cell c1 (by simp))))
 all_goals go_wp2
 all_goals (go_ret2; exact ⟨⟨_, _, _, rfl, hv⟩, GB⟩)
set_option maxHeartbeats 8000000 in
set_option maxRecDepth 100000 in
theorem getC_B {n : Nat} (hG : GetC (n + 1)) : GetC (n + 1 + 1) := by
 intro b x ka kn kc key w hx ox hk bt
 obtain ⟨b', a, m, c, sa, sm, sc, e, hb, hns, hss⟩ := hx
 simp only [tyN, Value.iface.injEq, Value.pointer.injEq, Option.some.injEq, Addr.mk.injEq, true_and, and_true] at e
 subst e
 obtain ⟨x1, x2, x3, x4, x5⟩ := ox
 obtain ⟨y, hy⟩ := at_place x3 x1 key
 have ls := hss.len
 have ln := hns.len
 have f1 := seps_few x4
 have k1 := cell_heap (i := 1) hb rfl
 have k2 := cell_heap (i := 2) hb rfl
 have G0 := hid_intro ((Qt.refl w).drew.grown none)
 have PL := hid_intro (fun (W : World) (h : w.grownBy W none) => place_any b sa sm sc ka kn kc (BnT.row (T := NdT (n + 1)) x).ss key W (h.cell k2 (by simp)) (hss.kept (FrT.of h)) (by omega) (rise_of x3) (hk.keptN h) bt (fun s hs => (x5 s hs).kb))
 obtain ⟨g, off, u, rfl, c1, hu⟩ := NsT.node (n := (n + 1)) hns hy.at_
 obtain ⟨b1, rfl⟩ := hu.atB
 have hlt := hy.lt
 have KG : Hid (∀ (W : World), w.grownBy W none → Calls Tryz.prog 158 #[.pointer (some ⟨b1, 0, none⟩), .slice ka kn kc] W fun en w' => (∃ ao n' c, en = .returned (.tuple #[.slice ao n' c, .bool (getT (n + 1) y key).isSome]) ∧ BtyT w' ao n' c ((getT (n + 1) y key).getD [])) ∧ W.grownBy w' none) := fun W h => hG b1 y ka kn kc key W (NodeT.kept _ hu (FrT.of h)) (x2 y (List.mem_of_getElem? hy.at_)) (hk.keptN h) bt
 have he : getT (n + 1 + 1) x key = getT (n + 1) y key := get_at hy.at_
 have HE := hid_intro he
 clear he
 rw [HE.out]
 generalize placeT (BnT.row (T := NdT (n + 1)) x).ss key = i at *
 have v1 : (0 : Int) ≤ (i : Int) ∧ (i : Int) < (m : Int) := by omega
 have hme := mB_get
 show Calls Tryz.prog 158 _ _ _
 clear hb hns hss hk hu x2 x3 x5 hy
 go_enter Tryz.func158, Tryz.ntmps158
 go_wp2_with fail
 go_region_held3 (fun w' => w'.cell? ⟨b, 1, none⟩ = some (.slice (some ⟨g, off, none⟩) m c) ∧ w'.cell? ⟨g, off + i, none⟩ = some (.iface 134 (.pointer (some ⟨b1, 0, none⟩)))) (first | exact ⟨k1, c1⟩ | exact S1 | exact S2 | go_keep) (first
  | (go_at_call 165; (with_reducible refine (PL.out _ G0.out).mono ?_); rintro en w4 ⟨rfl, hg4⟩; have GA := grown_trans G0.out hg4; have S1 := And.intro (GA.cell k1 (by simp)) (GA.cell c1 (by simp)))
  | (go_at_call 158; (with_reducible refine (KG.out _ GA).mono ?_); rintro en w5 ⟨⟨ao, n', c', rfl, hv⟩, hg5⟩; have GB := grown_trans GA hg5; have S2 := And.intro (GB.cell k1 (by simp)) (GB.cell c1 (by simp))))
 all_goals go_wp2
 all_goals (go_ret2; exact ⟨⟨_, _, _, rfl, hv⟩, GB⟩)
theorem getC : ∀ n, GetC n
 | 0 => getC0
 | 1 => getC_L getC0
 | n + 1 + 1 => getC_B (getC (n + 1))
theorem keep2 {W : World} {G b i : Nat} {u v x : Value} (h : W.cell? ⟨b, i, none⟩ = some x) (hne : b ≠ G) : ((W.setCell ⟨G, 0, none⟩ u).setCell ⟨G, 1, none⟩ v).cell? ⟨b, i, none⟩ = some x := by
 rw [← h]
 refine World.cell?_of_block ?_
 rw [heap_setCell_other _ ⟨G, 1, none⟩ b v (fun e => hne e), heap_setCell_other _ ⟨G, 0, none⟩ b u (fun e => hne e)]
theorem node_at {n : Nat} {W : World} {p : Nat} {a : Option Addr} {m c : Nat} {sa : Option Addr} {sm sc : Nat} {r : RwT (NdT n)} {no : Int} (h : W.heap[p]? = some (.cells #[.int .i64 no, .slice a m c, .slice sa sm sc] 136 (0, 0))) (hr : RowT n W a m c sa sm sc r) : NodeT (n + 1) W (.iface 134 (.pointer (some ⟨p, 0, none⟩))) (⟨no, r⟩ : BnT (NdT n)) := ⟨_, a, m, c, sa, sm, sc, rfl, h, hr.ns, hr.ss⟩
set_option maxHeartbeats 16000000 in
set_option maxRecDepth 100000 in
theorem settledBranch_any {n : Nat} (r : RwT (NdT n)) (hok : RokT n r) (hc : 4092 < bsize r.ss → 2 ≤ cutB r.ss ∧ cutB r.ss < r.ss.length) (a : Option Addr) (m c : Nat) (sa : Option Addr) (sm sc : Nat) (w : World) (hr : RowT n w a m c sa sm sc r) (hm : m ≤ 5000) :
  Calls Tryz.prog 166 #[.agg #[.slice a m c, .slice sa sm sc]] w fun en w' => (∃ a m c sa sm sc, en = .returned (.agg #[.slice a m c, .slice sa sm sc]) ∧ RowT (n + 1) w' a m c sa sm sc (settleB r)) ∧ w.grownBy w' none := by
 have ln := hr.ns.len
 have ls := hr.ss.len
 have hsl := hok.sep.len
 have caps := hr.ss.cap
 have capn := hr.ns.cap
 have G1 := hid_intro (grown_al (grown_al (World.grownBy.refl w none) (.cells #[.slice a m c, .slice sa sm sc] 77)) (.cells #[.slice none 0 0, .slice none 0 0] 77))
 have X1 : Hid (((w.alloc (.cells #[.slice a m c, .slice sa sm sc] 77)).alloc (.cells #[.slice none 0 0, .slice none 0 0] 77)).heap[w.heap.size]? = some (.cells #[.slice a m c, .slice sa sm sc] 77 (0, 0))) := heap_old (heap_at0 w _ _)
 have B1 : Hid (BxT ((w.alloc (.cells #[.slice a m c, .slice sa sm sc] 77)).alloc (.cells #[.slice none 0 0, .slice none 0 0] 77)) (w.heap.size + 1)) := ⟨_, _, heap_at1 w _ _ _⟩
 have R1 := hid_intro (hr.kept (FrT.of G1.out))
 have e0 := cell_heap (i := 0) X1.out rfl
 have e1 := cell_heap (i := 1) X1.out rfl
 have KK : Hid (∀ x ∈ r.ss, x.length ≤ 140737488351232) := fun x hx => by
  have := (hok.vs x hx).k2
  omega
 have HZ := hid_intro (fun (W : World) (h : RowT n W a m c sa sm sc r) => bsize_any sa sm sc r.ss W h.ss.lz ls (by omega) caps.1 caps.2.1 KK.out)
 by_cases h0 : m = 0
 ·have es : settleB r = ⟨[], []⟩ := by unfold settleB; rw [if_pos (by omega)]
  rw [es]
  subst h0
  obtain ⟨⟨x, cx⟩, ⟨y, cy⟩, z1, z2⟩ := B1.out.cells
  clear hr HZ hc
  go_enter Tryz.func166, Tryz.ntmps166
  go_wp2
  exact bodyPost_ret (results_row rfl _ _ (w.heap.size + 1) (.slice none 0 0) (.slice none 0 0) rfl (heap_at1 w _ _ _)) rfl ⟨⟨_, _, _, _, _, _, rfl, ⟨SlT.nil _ _ _ _, SlT.nil _ _ _ _⟩⟩, G1.out⟩
 ·have n0 : ¬ ((m : Int) = 0) := by omega
  by_cases hf : bsize r.ss ≤ 4092
  ·have es : settleB r = ⟨[⟨0, r⟩], []⟩ := by unfold settleB; rw [if_neg (by omega), if_pos hf]
   rw [es]
   clear hr hc
   go_enter Tryz.func166, Tryz.ntmps166
   go_wp2_with fail
   generalize (w.alloc (.cells #[.slice a m c, .slice sa sm sc] 77)).alloc (.cells #[.slice none 0 0, .slice none 0 0] 77) = w1 at *
   refine (HZ.out w1 R1.out).mono ?_
   rintro en w3 ⟨rfl, hg3⟩
   have G3 := hid_intro hg3
   have d0 := hg3.cell e0 (by simp)
   have d1 := hg3.cell e1 (by simp)
   have hlt := cell_lt d0
   clear hg3 e0 e1
   go_wp2_with fail
   refine (cfits_any _ w3).mono ?_
   rintro en w4 ⟨rfl, rfl⟩
   rw [decide_eq_true hf]
   have NL := hid_intro (node_branch 0 (R1.out.kept (FrT.of G3.out)))
   have GL := hid_intro (World.grownBy_alloc w4 (.cells #[.int .i64 0, .slice a m c, .slice sa sm sc] 136) none)
   go_wp2_with fail
   refine (alone_row (n := n + 1) NL.out (World.grownBy.refl _ _)).mono ?_
   rintro en w5 ⟨⟨a5, m5, c5, sa5, sm5, sc5, rfl, hr5⟩, hg5⟩
   have G5 := hid_intro (grown_trans G3.out (grown_trans GL.out hg5))
   have B5 := B1.out.keptN G5.out
   obtain ⟨⟨x, cx⟩, ⟨y, cy⟩, z1, z2⟩ := B5.cells
   have HB := hid_intro B5
   have HR := hid_intro hr5
   clear B5 hr5 hg5
   go_wp2
   refine ret_rowG (p := 2) rfl HB.out (by omega) HR.out (grown_trans G1.out G5.out) ?_ ?_ <;> rfl
  ·obtain ⟨hc1, hc2⟩ := hc (by omega)
   have es : settleB r = ⟨[⟨0, ⟨r.ns.take (cutB r.ss), r.ss.take (cutB r.ss - 1)⟩⟩, ⟨0, ⟨r.ns.drop (cutB r.ss), r.ss.drop (cutB r.ss)⟩⟩], [r.ss.getD (cutB r.ss - 1) []]⟩ := by unfold settleB; rw [if_neg (by omega), if_neg hf]
   rw [es]
   have HC := hid_intro (fun (W : World) (h : RowT n W a m c sa sm sc r) => cutBranch_any sa sm sc r.ss W h.ss.lz ls (by omega) caps.1 caps.2.1 KK.out)
   have hbest := cutB_best r.ss
   rw [ls] at hbest
   have HU := hid_intro (fun (k : Nat) (h : Best (fun i => bsize (r.ss.take (i - 1))) (fun i => bsize (r.ss.drop i)) sm k) => h.uniq hbest)
   generalize cutB r.ss = k at *
   have hsk : r.ss[k - 1]? = some (r.ss.getD (k - 1) []) := by
    rw [List.getElem?_eq_getElem (by omega)]
    simp [List.getD, List.getElem?_eq_getElem (show k - 1 < r.ss.length by omega)]
   generalize r.ss.getD (k - 1) [] = s at *
   obtain ⟨b, off, rfl⟩ : ∃ b off, a = some ⟨b, off, none⟩ := by
    obtain ⟨es, h1, _⟩ := hr.ns.ex
    exact h1.where (by omega)
   obtain ⟨sg, soff, so, sn, sc', rfl, c3w, hsw⟩ := hr.ss.str hsk
   have hsg := cell_lt c3w
   have CW := hid_intro (grown_trans (World.grownBy.refl w none) G1.out)
   have hs1 : Hid (((w.alloc (.cells #[.slice (some ⟨b, off, none⟩) m c, .slice (some ⟨sg, soff, none⟩) sm sc] 77)).alloc (.cells #[.slice none 0 0, .slice none 0 0] 77)).heap.size = w.heap.size + 1 + 1) := by simp [Hid]
   clear hbest es hc
   go_enter Tryz.func166, Tryz.ntmps166
   go_wp2_with fail
   generalize (w.alloc (.cells #[.slice (some ⟨b, off, none⟩) m c, .slice (some ⟨sg, soff, none⟩) sm sc] 77)).alloc (.cells #[.slice none 0 0, .slice none 0 0] 77) = w1 at *
   refine (HZ.out w1 R1.out).mono ?_
   rintro en w3 ⟨rfl, hg3⟩
   have G3 := hid_intro hg3
   have d0 := hg3.cell e0 (by simp)
   have d1 := hg3.cell e1 (by simp)
   clear hg3 e0 e1
   go_wp2_with fail
   refine (cfits_any _ w3).mono ?_
   rintro en w4 ⟨rfl, rfl⟩
   rw [decide_eq_false hf]
   go_wp2_with fail
   refine (HC.out w4 (R1.out.kept (FrT.of G3.out))).mono ?_
   rintro en w5 ⟨⟨k9, rfl, hb9⟩, hg5⟩
   have hk9 := HU.out k9 hb9
   subst hk9
   have G5 := hid_intro (grown_trans G3.out hg5)
   have c0 := hg5.cell d0 (by simp)
   have c1 := hg5.cell d1 (by simp)
   have R5 := R1.out.kept (FrT.of G5.out)
   have c3 := (grown_trans CW.out G5.out).cell c3w (by simp)
   have hs := hsw.kept (FrT.of (grown_trans CW.out G5.out))
   have RT := hid_intro R5
   have SS := hid_intro hs
   obtain ⟨j, hj⟩ : ∃ j, k9 - 1 = j := ⟨_, rfl⟩
   rw [hj] at c3
   have v1 : ((k9 : Nat) : Int) - 1 = (j : Int) := by omega
   have v2 : IntKind.i64.wrap (j : Int) = (j : Int) := by rw [IntKind.wrap_i64]; omega
   have v3 : (0 : Int) ≤ (j : Int) ∧ (j : Int) < (sm : Int) := by omega
   have v4 : (0 : Int) ≤ (k9 : Int) := by omega
   have v5 : (k9 : Int) ≤ (m : Int) := by omega
   have v6 : (k9 : Int) ≤ (c : Int) := by omega
   have v7 : (k9 : Int) ≤ (sm : Int) := by omega
   have v8 : (k9 : Int) ≤ (sc : Int) := by omega
   have v9 : (j : Int) ≤ (sc : Int) := by omega
   have va : ¬ c = k9 := by omega
   have vb : ¬ sc = k9 := by omega
   have vc : (0 : Int) ≤ (j : Int) := by omega
   have hs5 := hid_intro G5.out.size
   clear hb9 hg5 HU HZ HC d0 d1 hsk R5 hs hr hsw c3w
   go_upto_region 6 with fail
   go_cut [4] from 25 to 35 (fun s4 wx => s4 = .pointer (some ⟨w5.heap.size, 0, none⟩) ∧ wx = (w5.alloc (.cells #[.slice (some ⟨b, off, none⟩) k9 c, .slice (some ⟨sg, soff, none⟩) j sc] 77)).drew)
   case first =>
    go_region_held3 (fun w' => w'.cell? ⟨w.heap.size, 0, none⟩ = some (.slice (some ⟨b, off, none⟩) m c) ∧ w'.cell? ⟨w.heap.size, 1, none⟩ = some (.slice (some ⟨sg, soff, none⟩) sm sc)) (first | exact ⟨c0, c1⟩ | go_keep) (fail)
    all_goals (go_wp2_with fail; go_meet; exact ⟨rfl, rfl⟩)
   case rest =>
    obtain ⟨rfl, rfl⟩ := hcut
    have hs6 : Hid ((w5.alloc (.cells #[.slice (some ⟨b, off, none⟩) k9 c, .slice (some ⟨sg, soff, none⟩) j sc] 77)).drew.heap.size = w5.heap.size + 1) := by simp [Hid]
    have GA := hid_intro (grown_dw (grown_al (World.grownBy.refl w5 none) (.cells #[.slice (some ⟨b, off, none⟩) k9 c, .slice (some ⟨sg, soff, none⟩) j sc] 77)))
    have HA : Hid ((w5.alloc (.cells #[.slice (some ⟨b, off, none⟩) k9 c, .slice (some ⟨sg, soff, none⟩) j sc] 77)).drew.heap[w5.heap.size]? = some (.cells #[.slice (some ⟨b, off, none⟩) k9 c, .slice (some ⟨sg, soff, none⟩) j sc] 77 (0, 0))) := heap_dw (heap_at0 w5 _ _)
    have c0a := GA.out.cell c0 (by simp)
    have c1a := GA.out.cell c1 (by simp)
    have c3a := GA.out.cell c3 (by simp)
    generalize (w5.alloc (.cells #[.slice (some ⟨b, off, none⟩) k9 c, .slice (some ⟨sg, soff, none⟩) j sc] 77)).drew = w6 at *
    go_upto_region 7 with fail
    go_cut [5] from 35 to 44 (fun s5 wx => s5 = .pointer (some ⟨w6.heap.size, 0, none⟩) ∧ wx = (w6.alloc (.cells #[.slice (some ⟨b, off + k9, none⟩) (m - k9) (c - k9), .slice (some ⟨sg, soff + k9, none⟩) (sm - k9) (sc - k9)] 77)).drew)
    case first =>
     go_region_held3 (fun w' => w'.cell? ⟨w.heap.size, 0, none⟩ = some (.slice (some ⟨b, off, none⟩) m c) ∧ w'.cell? ⟨w.heap.size, 1, none⟩ = some (.slice (some ⟨sg, soff, none⟩) sm sc)) (first | exact ⟨c0a, c1a⟩ | go_keep) (fail)
     all_goals (go_wp2_with fail; go_meet; exact ⟨rfl, rfl⟩)
    case rest =>
     obtain ⟨rfl, rfl⟩ := hcut
     have GB := hid_intro (grown_dw (grown_al (World.grownBy.refl w6 none) (.cells #[.slice (some ⟨b, off + k9, none⟩) (m - k9) (c - k9), .slice (some ⟨sg, soff + k9, none⟩) (sm - k9) (sc - k9)] 77)))
     have HB2 := heap_dw (heap_at0 w6 #[.slice (some ⟨b, off + k9, none⟩) (m - k9) (c - k9), .slice (some ⟨sg, soff + k9, none⟩) (sm - k9) (sc - k9)] 77)
     have f0 := cell_heap (i := 0) (heap_kept HA.out GB.out) rfl
     have f1 := cell_heap (i := 1) (heap_kept HA.out GB.out) rfl
     have f2 := cell_heap (i := 0) HB2 rfl
     have f3 := cell_heap (i := 1) HB2 rfl
     have f4 := GB.out.cell c1a (by simp)
     have f5 := GB.out.cell c3a (by simp)
     have G7 := hid_intro (grown_trans GA.out GB.out)
     have TT := hid_intro (And.intro f0 (And.intro f1 (And.intro f2 (And.intro f3 (And.intro f4 f5)))))
     generalize (w6.alloc (.cells #[.slice (some ⟨b, off + k9, none⟩) (m - k9) (c - k9), .slice (some ⟨sg, soff + k9, none⟩) (sm - k9) (sc - k9)] 77)).drew = w7 at *
     have L1 : Hid (RowT n w7 (some ⟨b, off, none⟩) k9 c (some ⟨sg, soff, none⟩) j sc ⟨r.ns.take k9, r.ss.take (k9 - 1)⟩) := by
      have h := RT.out.kept (FrT.of G7.out)
      rw [← hj]
      exact ⟨SlT.take h.ns (by omega), SlT.take h.ss (by omega)⟩
     have L2 : Hid (RowT n w7 (some ⟨b, off + k9, none⟩) (m - k9) (c - k9) (some ⟨sg, soff + k9, none⟩) (sm - k9) (sc - k9) ⟨r.ns.drop k9, r.ss.drop k9⟩) := by
      have h := RT.out.kept (FrT.of G7.out)
      have h1 := SlT.drop h.ns (i := k9) (by omega)
      have h2 := SlT.drop h.ss (i := k9) (by omega)
      rw [Nat.mul_one] at h1 h2
      exact ⟨h1, h2⟩
     have BO : Hid (∀ (W : World) (p q : Nat), w7.grownBy W none → W.heap[p]? = some (.cells #[.int .i64 0, .slice (some ⟨b, off, none⟩) k9 c, .slice (some ⟨sg, soff, none⟩) j sc] 136 (0, 0)) → W.heap[q]? = some (.cells #[.int .i64 0, .slice (some ⟨b, off + k9, none⟩) (m - k9) (c - k9), .slice (some ⟨sg, soff + k9, none⟩) (sm - k9) (sc - k9)] 136 (0, 0)) → Calls Tryz.prog 99 #[.iface 134 (.pointer (some ⟨p, 0, none⟩)), .slice so sn sc', .iface 134 (.pointer (some ⟨q, 0, none⟩))] W fun en w' => (∃ a m c sa sm sc, en = .returned (.agg #[.slice a m c, .slice sa sm sc]) ∧ RowT (n + 1) w' a m c sa sm sc ⟨[(⟨0, ⟨r.ns.take k9, r.ss.take (k9 - 1)⟩⟩ : BnT (NdT n)), (⟨0, ⟨r.ns.drop k9, r.ss.drop k9⟩⟩ : BnT (NdT n))], [s]⟩) ∧ W.grownBy w' none) := fun W p q hg hp hq =>
      both_row (n := n + 1) (node_at hp (L1.out.kept (FrT.of hg))) (node_at hq (L2.out.kept (FrT.of hg))) ⟨_, _, _, rfl, SS.out.kept (FrT.of (grown_trans G7.out hg))⟩ (World.grownBy.refl _ _)
     clear c0 c1 c3 c0a c1a c3a f0 f1 f2 f3 f4 f5 HB2 L1 L2 RT SS hj HA GA GB
     go_upto_region 8 with fail
     go_region_held3 (fun w' => w'.cell? ⟨w5.heap.size, 0, none⟩ = some (.slice (some ⟨b, off, none⟩) k9 c) ∧ w'.cell? ⟨w5.heap.size, 1, none⟩ = some (.slice (some ⟨sg, soff, none⟩) j sc) ∧ w'.cell? ⟨w6.heap.size, 0, none⟩ = some (.slice (some ⟨b, off + k9, none⟩) (m - k9) (c - k9)) ∧ w'.cell? ⟨w6.heap.size, 1, none⟩ = some (.slice (some ⟨sg, soff + k9, none⟩) (sm - k9) (sc - k9)) ∧ w'.cell? ⟨w.heap.size, 1, none⟩ = some (.slice (some ⟨sg, soff, none⟩) sm sc) ∧ w'.cell? ⟨sg, soff + j, none⟩ = some (.slice so sn sc')) (first | (with_reducible exact T9) | ((with_reducible refine And.intro (keep1 TT.out.1 ?_) (And.intro (keep1 TT.out.2.1 ?_) (And.intro (keep1 TT.out.2.2.1 ?_) (And.intro (keep1 TT.out.2.2.2.1 ?_) (And.intro (keep1 TT.out.2.2.2.2.1 ?_) (keep1 TT.out.2.2.2.2.2 ?_)))))) <;> (repeat' first | (with_reducible exact World.grownBy.refl _ _) | (with_reducible exact H9) | (with_reducible apply grown_dw) | (with_reducible apply grown_al)); done) | (refine And.intro (keep2 T9.1 ?_) (And.intro (keep2 T9.2.1 ?_) (And.intro (keep2 T9.2.2.1 ?_) (And.intro (keep2 T9.2.2.2.1 ?_) (And.intro (keep2 T9.2.2.2.2.1 ?_) (keep2 T9.2.2.2.2.2 ?_))))) <;> (have q1 := hs1.out; have q5 := hs5.out; have q6 := hs6.out; omega)) | go_keep) (first
      | (go_at_call 99; (with_reducible refine (BO.out _ _ _ ?_ ?_ ?_).mono ?_); (· (repeat' first | (with_reducible exact World.grownBy.refl _ _) | (with_reducible apply grown_dw) | (with_reducible apply grown_al))); (· (repeat' first | (with_reducible exact heap_at0 _ _ _) | (with_reducible exact heap_at1 _ _ _ _) | (with_reducible apply heap_dw) | (with_reducible apply heap_old))); (· (repeat' first | (with_reducible exact heap_at0 _ _ _) | (with_reducible exact heap_at1 _ _ _ _) | (with_reducible apply heap_dw) | (with_reducible apply heap_old))); rintro en w9 ⟨⟨a9, m9, c9, sa9, sm9, sc9, rfl, RR⟩, hg9⟩; have H9 : w7.grownBy w9 none := grown_trans (by (repeat' first | (with_reducible exact World.grownBy.refl _ _) | (with_reducible apply grown_dw) | (with_reducible apply grown_al))) hg9; have T9 := And.intro (H9.cell TT.out.1 (by simp)) (And.intro (H9.cell TT.out.2.1 (by simp)) (And.intro (H9.cell TT.out.2.2.1 (by simp)) (And.intro (H9.cell TT.out.2.2.2.1 (by simp)) (And.intro (H9.cell TT.out.2.2.2.2.1 (by simp)) (H9.cell TT.out.2.2.2.2.2 (by simp)))))); have B9 := B1.out.keptN (grown_trans G5.out (grown_trans G7.out H9)); obtain ⟨⟨x1, cx⟩, ⟨y1, cy⟩, z1, z2⟩ := B9.cells))
     all_goals go_wp2
     all_goals (refine ret_rowG (p := 2) rfl B9 (by omega) RR (grown_trans G1.out (grown_trans G5.out (grown_trans G7.out H9))) ?_ ?_ <;> rfl)
def TidyD (n : Nat) : Prop := ∀ (r : RwT (NdT n)) (fr tq : Int) (i0 cnt : Nat), (if (0 : Int) > fr then (0 : Int) else fr) = (i0 : Int) → cnt = (tq + 1 - (i0 : Int)).toNat → (-100000 ≤ tq ∧ tq ≤ 100000) → (-100000 ≤ fr ∧ fr ≤ 100000) → RokT n r → ∀ (a : Option Addr) (m c : Nat) (sa : Option Addr) (sm sc : Nat) (w : World), RowT n w a m c sa sm sc r → m ≤ 5000 →
  Calls Tryz.prog 168 #[.agg #[.slice a m c, .slice sa sm sc], .int .i64 fr, .int .i64 tq] w fun en w' => (∃ a m c sa sm sc, en = .returned (.agg #[.slice a m c, .slice sa sm sc]) ∧ RowT n w' a m c sa sm sc (tidyT (joinsT n) (joinedT n) cnt r i0)) ∧ w.grownBy w' none
def ReplD (n : Nat) : Prop := ∀ (r b : RwT (NdT n)) (i : Nat), r.ns.length = r.ss.length + 1 → i < r.ns.length → ∀ (a : Option Addr) (m c : Nat) (sa : Option Addr) (sm sc : Nat) (ba : Option Addr) (bm bc : Nat) (bsa : Option Addr) (bsm bsc : Nat) (w : World), RowT n w a m c sa sm sc r → RowT n w ba bm bc bsa bsm bsc b → m ≤ 5000 → sm ≤ 5000 → bm ≤ 5000 → bsm ≤ 5000 →
  Calls Tryz.prog 167 #[.agg #[.slice a m c, .slice sa sm sc], .int .i64 i, .agg #[.slice ba bm bc, .slice bsa bsm bsc]] w fun en w' => (∃ a m c sa sm sc, en = .returned (.agg #[.slice a m c, .slice sa sm sc]) ∧ RowT n w' a m c sa sm sc (replT r i b)) ∧ w.grownBy w' none
theorem ret_rowC {fn : Func} {p : Tmp} {n : Nat} {r : RwT (NdT n)} {w w5 : World} {G : Nat} {a : Option Addr} {m c : Nat} {sa : Option Addr} {sm sc : Nat} (h : fn.results = #[.cell p 77]) (hb : BxT w5 G) (hG : w.heap.size ≤ G) (hr : RowT n w5 a m c sa sm sc r) (hg : w.grownBy w5 none) {ac : Act} (hp : ac.tmps.getD p undef = .pointer (some ⟨G, 0, none⟩)) (hd : ac.defers = []) :
  bodyPost Tryz.prog fn (fun en w' => ChT n (some r) en w' ∧ w.grownBy w' none) Exit.ret ac ((w5.setCell ⟨G, 0, none⟩ (.slice a m c)).setCell ⟨G, 1, none⟩ (.slice sa sm sc)) := ret_rowG h hb hG hr hg hp hd
def fChanged : Nat → Nat
 | 0 => 68
 | _ + 1 => 155
def ChangedC (n : Nat) : Prop := ∀ (b : Nat) (x : NdT n) (ka : Option Addr) (kn kc : Nat) (key : List Int) (na : Option Addr) (nn nc : Nat) (now : List PrT) (w : World), NodeT n w (.iface (tyN n) (.pointer (some ⟨b, 0, none⟩))) x → OkT n x → Byt w ka kn kc key → Bt key → PsT w na nn nc now → NowT key now →
 Calls Tryz.prog (fChanged n) #[.pointer (some ⟨b, 0, none⟩), .slice ka kn kc, .slice na nn nc] w fun en w' => ChT n (changedT n x key now) en w' ∧ w.grownBy w' none
theorem changedC0 : ChangedC 0 := fun b x ka kn kc key na nn nc now w hx ox hk bt hn hv => lchanged_some b x ka kn kc key na nn nc now w hx (LokT.of ox) hk bt hn hv ox.1
theorem branch_next {n : Nat} {x : NdT (n + 1)} {key : List Int} {now : List PrT} {k : NdT n} {q : RwT (NdT n)} (ox : OkT (n + 1) x) (hn : NowT key now) (hk : AtT (flatT n) (BnT.row (T := NdT n) x) key k) (hq : changedT n k key now = some q) :
  changedT (n + 1) x key now = some (settleB (tidyT (joinsT n) (joinedT n) (placeT (BnT.row (T := NdT n) x).ss key + q.ns.length - (placeT (BnT.row (T := NdT n) x).ss key - 1)) (replT (BnT.row (T := NdT n) x) (placeT (BnT.row (T := NdT n) x).ss key) q) (placeT (BnT.row (T := NdT n) x).ss key - 1))) ∧
  RokT n (replT (BnT.row (T := NdT n) x) (placeT (BnT.row (T := NdT n) x).ss key) q) ∧ q.ns.length ≤ 2 ∧ q.ss.length ≤ 1 ∧ (replT (BnT.row (T := NdT n) x) (placeT (BnT.row (T := NdT n) x).ss key) q).ns.length ≤ (BnT.row (T := NdT n) x).ns.length + 1 ∧
  ∀ t, t = tidyT (joinsT n) (joinedT n) (placeT (BnT.row (T := NdT n) x).ss key + q.ns.length - (placeT (BnT.row (T := NdT n) x).ss key - 1)) (replT (BnT.row (T := NdT n) x) (placeT (BnT.row (T := NdT n) x).ss key) q) (placeT (BnT.row (T := NdT n) x).ss key - 1) → RokT n t ∧ t.ns.length ≤ (BnT.row (T := NdT n) x).ns.length + 1 ∧ (4092 < bsize t.ss → 2 ≤ cutB t.ss ∧ cutB t.ss < t.ss.length) := by
 obtain ⟨x1, x2, x3, x4, x5⟩ := ox
 have hok := x2 k (List.mem_of_getElem? hk.at_)
 obtain ⟨b1, b2, b3⟩ := changed_all n k key now q hok hn hq
 have hin : ∀ p ∈ q.ns.flatMap (flatT n), p.key = key ∨ p ∈ flatT n k := by
  intro p hp
  rw [b1] at hp
  rcases upd_mem hp with h | h
  ·exact .inl (hn.key p h)
  ·exact .inr h
 have hrr : RokT n (BnT.row (T := NdT n) x) := ⟨x2, x3, x5⟩
 have hR := rok_repl hrr hk b2 hin
 have hsl := b2.sep.len
 have hlt := hk.lt
 have hlen : (replT (BnT.row (T := NdT n) x) (placeT (BnT.row (T := NdT n) x).ss key) q).ns.length ≤ (BnT.row (T := NdT n) x).ns.length + 1 := by
  unfold replT
  split <;> simp only [List.length_append, List.length_take, List.length_drop] <;> omega
 refine ⟨?_, hR, b3, by omega, hlen, fun t ht => ?_⟩
 ·rw [changedT, hk.at_]
  simp only [hq, Option.map_some]
 ·have hT := ok_tidy (ok_joined n) (placeT (BnT.row (T := NdT n) x).ss key + q.ns.length - (placeT (BnT.row (T := NdT n) x).ss key - 1)) _ (placeT (BnT.row (T := NdT n) x).ss key - 1) hR
  have hsub := sub_tidy (J := joinsT n) (D := joinedT n) (placeT (BnT.row (T := NdT n) x).ss key + q.ns.length - (placeT (BnT.row (T := NdT n) x).ss key - 1)) (replT (BnT.row (T := NdT n) x) (placeT (BnT.row (T := NdT n) x).ss key) q) (placeT (BnT.row (T := NdT n) x).ss key - 1)
  rw [← ht] at hT hsub
  have hss : (replT (BnT.row (T := NdT n) x) (placeT (BnT.row (T := NdT n) x).ss key) q).ss.Sublist (BnT.row (T := NdT n) x).ss ∨ ∃ A s B, (replT (BnT.row (T := NdT n) x) (placeT (BnT.row (T := NdT n) x).ss key) q).ss = A ++ ([s] ++ B) ∧ A ++ B = (BnT.row (T := NdT n) x).ss := by
   unfold replT
   split
   ·rename_i h0
    have e0 : q.ss = [] := List.length_eq_zero_iff.1 (by omega)
    refine .inl ?_
    show (_ ++ (q.ss ++ _)).Sublist _
    rw [e0, List.nil_append]
    conv => rhs; rw [← List.take_append_drop (placeT (BnT.row (T := NdT n) x).ss key - 1) (BnT.row (T := NdT n) x).ss]
    refine List.Sublist.append (List.Sublist.refl _) (List.drop_sublist_drop_left _ ?_)
    have := tw_le (BnT.row (T := NdT n) x).ss key
    omega
   ·rename_i h0
    show (_ ++ (q.ss ++ _)).Sublist _ ∨ _
    match hbs : q.ss, hsl with
    | [], _ =>
     refine .inl ?_
     rw [List.nil_append, List.take_append_drop]
     exact List.Sublist.refl _
    | [s], _ => exact .inr ⟨_, s, _, rfl, List.take_append_drop _ _⟩
    | _ :: _ :: _, h =>
     simp only [List.length_cons] at h
     omega
  have htl := hT.sep.len
  have hrl := hR.sep.len
  have hsb := hsub.length_le
  refine ⟨hT, by omega, fun hbig => ?_⟩
  rcases hss with h | ⟨A, s, B, e1, e2⟩
  ·have := bsize_le10 (hsub.trans h)
   omega
  ·have := bcut10 (by rw [e1] at hsub; exact hsub) (fun y hy => (hT.vs y hy).k2) (by rw [e2]; exact x4) hbig
   exact ⟨this.1, this.2.1⟩
theorem branch_stop {n : Nat} {x : NdT (n + 1)} {key : List Int} {now : List PrT} {k : NdT n} (hk : AtT (flatT n) (BnT.row (T := NdT n) x) key k) (hq : changedT n k key now = none) : changedT (n + 1) x key now = none := by
 rw [changedT, hk.at_]
 simp only [hq, Option.map_none]
set_option maxHeartbeats 16000000 in
set_option maxRecDepth 100000 in
theorem changedC_L (hT : TidyD 0) (hRP : ReplD 0) (hC : ChangedC 0) : ChangedC 1 := by
 intro b x ka kn kc key na nn nc now w hx ox hk bt hnow hn
 have HOX := hid_intro ox
 obtain ⟨b', a, m, c, sa, sm, sc, e, hb, hns, hss⟩ := hx
 simp only [tyN, Value.iface.injEq, Value.pointer.injEq, Option.some.injEq, Addr.mk.injEq, true_and, and_true] at e
 subst e
 obtain ⟨x1, x2, x3, x4, x5⟩ := ox
 obtain ⟨y, hy⟩ := at_place x3 x1 key
 have ls := hss.len
 have ln := hns.len
 have f1 := seps_few x4
 have hsl : (BnT.row (T := NdT 0) x).ns.length = (BnT.row (T := NdT 0) x).ss.length + 1 := by
  have := x3.len
  have := List.length_pos_iff.2 x1
  omega
 have k1 := cell_heap (i := 1) hb rfl
 have k2 := cell_heap (i := 2) hb rfl
 have hbl := cell_lt k1
 have HB0 := hid_intro hb
 have G1 := hid_intro (World.grownBy_alloc w (.cells #[.slice none 0 0, .slice none 0 0] 77) none)
 have B1 := hid_intro (BxT.new w (.slice none 0 0) (.slice none 0 0))
 have PL := hid_intro (fun (W : World) (h : w.grownBy W none) => place_any b sa sm sc ka kn kc (BnT.row (T := NdT 0) x).ss key W (h.cell k2 (by simp)) (hss.kept (FrT.of h)) (by omega) (rise_of x3) (hk.keptN h) bt (fun s hs => (x5 s hs).kb))
 obtain ⟨g, off, u, rfl, c1, hu⟩ := NsT.node (n := 0) hns hy.at_
 obtain ⟨b1, rfl⟩ := hu.atL
 have hlt := hy.lt
 have KC : Hid (∀ (W : World), w.grownBy W none → Calls Tryz.prog 68 #[.pointer (some ⟨b1, 0, none⟩), .slice ka kn kc, .slice na nn nc] W fun en w' => ChT 0 (changedT 0 y key now) en w' ∧ W.grownBy w' none) := fun W h => hC b1 y ka kn kc key na nn nc now W (NodeT.kept _ hu (FrT.of h)) (x2 y (List.mem_of_getElem? hy.at_)) (hk.keptN h) bt (hnow.kept (FrT.of h)) hn
 have RX := hid_intro (show RowT 0 w (some ⟨g, off, none⟩) m c sa sm sc (BnT.row (T := NdT 0) x) from ⟨hns, hss⟩)
 have hme := mL_changed
 have HY := hid_intro hy
 have HN := hid_intro hn
 have hix := hy.lt
 show Calls Tryz.prog 155 _ _ _
 cases hq : changedT 0 y key now with
 | none =>
  rw [branch_stop HY.out hq]
  rw [hq] at KC
  generalize placeT (BnT.row (T := NdT 0) x).ss key = i at *
  have v1 : (0 : Int) ≤ (i : Int) ∧ (i : Int) < (m : Int) := by omega
  clear hb hns hss hk hu x2 x3 x5 hy hnow hn hq k2
  go_enter Tryz.func155, Tryz.ntmps155
  go_wp2_with fail
  refine (PL.out _ G1.out).mono ?_
  rintro en w2 ⟨rfl, hg2⟩
  have G2 := hid_intro (grown_trans G1.out hg2)
  have d1 := G2.out.cell k1 (by simp)
  have d2 := G2.out.cell c1 (by simp)
  clear hg2 k1 c1
  go_wp2_with fail
  refine (KC.out _ G2.out).mono ?_
  rintro en w3 ⟨h3, hg3⟩
  have h4 : en = .panicked [{ v := .iface 117 (.agg #[]), recovered := false }] := h3
  subst h4
  exact ⟨rfl, rfl, grown_trans G2.out hg3⟩
 | some q =>
  obtain ⟨q1, q2, q3, q4, q5, q6⟩ := branch_next HOX.out HN.out HY.out hq
  rw [q1]
  rw [hq] at KC
  generalize ht : tidyT (joinsT 0) (joinedT 0) (placeT (BnT.row (T := NdT 0) x).ss key + q.ns.length - (placeT (BnT.row (T := NdT 0) x).ss key - 1)) (replT (BnT.row (T := NdT 0) x) (placeT (BnT.row (T := NdT 0) x).ss key) q) (placeT (BnT.row (T := NdT 0) x).ss key - 1) = t at *
  obtain ⟨t1, t2, t3⟩ := q6 t rfl
  have QT := hid_intro (And.intro t1 (And.intro t2 t3))
  have HT := hid_intro ht
  have Q2 := hid_intro q2
  have HSL := hid_intro hsl
  clear t1 t2 t3 q6 q2 ht q1 hq
  generalize placeT (BnT.row (T := NdT 0) x).ss key = i at *
  have v1 : (0 : Int) ≤ (i : Int) ∧ (i : Int) < (m : Int) := by omega
  clear hb hns hss hk hu x2 x3 x5 hy hnow hn k2
  have GS : Hid (w.heap.size < (w.alloc (.cells #[.slice none 0 0, .slice none 0 0] 77)).heap.size) := by simp [Hid]
  go_enter Tryz.func155, Tryz.ntmps155
  go_wp2_with fail
  refine (PL.out _ G1.out).mono ?_
  rintro en w2 ⟨rfl, hg2⟩
  have GZ := hid_intro hg2
  have G2 := hid_intro (grown_trans G1.out hg2)
  have d1 := G2.out.cell k1 (by simp)
  have d2 := G2.out.cell c1 (by simp)
  clear hg2 c1
  go_wp2_with fail
  refine (KC.out _ G2.out).mono ?_
  rintro en w3 ⟨⟨a3, m3, c3, sa3, sm3, sc3, rfl, hr3⟩, hg3⟩
  have hgz := hid_intro hg3
  have G3 := hid_intro (grown_trans G2.out hg3)
  have l3 := hr3.ns.len
  have l4 := hr3.ss.len
  have GX := hid_intro (World.grownBy_alloc w3 (.cells #[.slice a3 m3 c3, .slice sa3 sm3 sc3] 77) none)
  have X4 := heap_at0 w3 #[.slice a3 m3 c3, .slice sa3 sm3 sc3] 77
  have R3 := hid_intro (hr3.kept (FrT.of GX.out))
  have e0 := cell_heap (i := 0) X4 rfl
  have e1 := cell_heap (i := 1) X4 rfl
  have k2' := cell_heap (i := 2) HB0.out rfl
  have e2 := (grown_trans G3.out GX.out).cell k1 (by simp)
  have e3 := (grown_trans G3.out GX.out).cell k2' (by simp)
  have G4 := hid_intro (grown_trans G3.out GX.out)
  clear hg3 hr3 X4 d1 d2 k2' k1
  go_upto_region 3 with fail
  generalize w3.alloc (.cells #[.slice a3 m3 c3, .slice sa3 sm3 sc3] 77) = w4 at *
  have TT := hid_intro (And.intro e0 (And.intro e1 (And.intro e2 e3)))
  obtain ⟨fr, hfr⟩ : ∃ fr : Int, (i : Int) - 1 = fr := ⟨_, rfl⟩
  obtain ⟨su, hsu⟩ : ∃ su : Int, (i : Int) + (m3 : Int) = su := ⟨_, rfl⟩
  obtain ⟨tq, htq⟩ : ∃ tq : Int, su - 1 = tq := ⟨_, rfl⟩
  have wf : IntKind.i64.wrap fr = fr := by rw [IntKind.wrap_i64]; omega
  have ws : IntKind.i64.wrap su = su := by rw [IntKind.wrap_i64]; omega
  have wt : IntKind.i64.wrap tq = tq := by rw [IntKind.wrap_i64]; omega
  have RP := hid_intro (fun (W : World) (h : w4.grownBy W none) => hRP (BnT.row (T := NdT 0) x) q i HSL.out hix _ m c sa sm sc a3 m3 c3 sa3 sm3 sc3 W (RX.out.kept (FrT.of (grown_trans G4.out h))) (R3.out.kept (FrT.of h)) (by omega) (by omega) (by omega) (by omega))
  have TD := hid_intro (fun (a5 : Option Addr) (m5 c5 : Nat) (sa5 : Option Addr) (sm5 sc5 : Nat) (W : World) (h : RowT 0 W a5 m5 c5 sa5 sm5 sc5 (replT (BnT.row (T := NdT 0) x) i q)) (h5 : m5 ≤ 5000) => hT (replT (BnT.row (T := NdT 0) x) i q) fr tq (i - 1) (i + q.ns.length - (i - 1)) (by split <;> omega) (by omega) (by omega) (by omega) Q2.out a5 m5 c5 sa5 sm5 sc5 W h h5)
  rw [HT.out] at TD
  have ST := hid_intro (fun (a5 : Option Addr) (m5 c5 : Nat) (sa5 : Option Addr) (sm5 sc5 : Nat) (W : World) (h : RowT 0 W a5 m5 c5 sa5 sm5 sc5 t) (h5 : m5 ≤ 5000) => settledBranch_any t QT.out.1 QT.out.2.2 a5 m5 c5 sa5 sm5 sc5 W h h5)
  have B4 := hid_intro (B1.out.keptN (show (w.alloc (.cells #[.slice none 0 0, .slice none 0 0] 77)).grownBy w4 none from grown_trans GZ.out (grown_trans hgz.out GX.out)))
  clear e0 e1 e2 e3
  go_region_held3 (fun w' => w'.cell? ⟨w3.heap.size, 0, none⟩ = some (.slice a3 m3 c3) ∧ w'.cell? ⟨w3.heap.size, 1, none⟩ = some (.slice sa3 sm3 sc3) ∧ w'.cell? ⟨b, 1, none⟩ = some (.slice (some ⟨g, off, none⟩) m c) ∧ w'.cell? ⟨b, 2, none⟩ = some (.slice sa sm sc)) (first | (with_reducible exact T5) | (with_reducible exact T6) | (with_reducible exact T7) | exact TT.out | (refine And.intro (keep2 T7.1 ?_) (And.intro (keep2 T7.2.1 ?_) (And.intro (keep2 T7.2.2.1 ?_) (keep2 T7.2.2.2 ?_))) <;> (have z0 := GZ.out.size; have z3 := hgz.out.size; have z1 := GS.out; omega)) | go_keep) (first
   | (go_at_call 167; (with_reducible refine (RP.out _ ((Qt.refl w4).drew.grown none)).mono ?_); rintro en w5 ⟨⟨a5, m5, c5, sa5, sm5, sc5, rfl, hr5⟩, hg5⟩; have H5 := grown_trans ((Qt.refl w4).drew.grown none) hg5; have l5 := hr5.ns.len; have T5 := And.intro (H5.cell TT.out.1 (by simp)) (And.intro (H5.cell TT.out.2.1 (by simp)) (And.intro (H5.cell TT.out.2.2.1 (by simp)) (H5.cell TT.out.2.2.2 (by simp)))))
   | (go_at_call 168; (with_reducible refine (TD.out _ _ _ _ _ _ _ hr5 (by omega)).mono ?_); rintro en w6 ⟨⟨a6, m6, c6, sa6, sm6, sc6, rfl, hr6⟩, hg6⟩; have H6 := grown_trans H5 hg6; have l6 := hr6.ns.len; have q7 := QT.out.2.1; have T6 := And.intro (H6.cell TT.out.1 (by simp)) (And.intro (H6.cell TT.out.2.1 (by simp)) (And.intro (H6.cell TT.out.2.2.1 (by simp)) (H6.cell TT.out.2.2.2 (by simp)))))
   | (go_at_call 166; (with_reducible refine (ST.out _ _ _ _ _ _ _ hr6 (by omega)).mono ?_); rintro en w7 ⟨⟨a7, m7, c7, sa7, sm7, sc7, rfl, hr7⟩, hg7⟩; have H7 := grown_trans H6 hg7; have T7 := And.intro (H7.cell TT.out.1 (by simp)) (And.intro (H7.cell TT.out.2.1 (by simp)) (And.intro (H7.cell TT.out.2.2.1 (by simp)) (H7.cell TT.out.2.2.2 (by simp)))); have B7 := B4.out.keptN H7; obtain ⟨⟨x1, cx⟩, ⟨y1, cy⟩, z1, z2⟩ := B7.cells))
  all_goals go_wp2
  all_goals
   refine ret_rowC (p := 6) rfl B7 (Nat.le_refl _) hr7 (grown_trans G4.out H7) ?_ ?_ <;> rfl
set_option maxHeartbeats 16000000 in
set_option maxRecDepth 100000 in
theorem changedC_B {n : Nat} (hT : TidyD (n + 1)) (hRP : ReplD (n + 1)) (hC : ChangedC (n + 1)) : ChangedC (n + 1 + 1) := by
 intro b x ka kn kc key na nn nc now w hx ox hk bt hnow hn
 have HOX := hid_intro ox
 obtain ⟨b', a, m, c, sa, sm, sc, e, hb, hns, hss⟩ := hx
 simp only [tyN, Value.iface.injEq, Value.pointer.injEq, Option.some.injEq, Addr.mk.injEq, true_and, and_true] at e
 subst e
 obtain ⟨x1, x2, x3, x4, x5⟩ := ox
 obtain ⟨y, hy⟩ := at_place x3 x1 key
 have ls := hss.len
 have ln := hns.len
 have f1 := seps_few x4
 have hsl : (BnT.row (T := NdT (n + 1)) x).ns.length = (BnT.row (T := NdT (n + 1)) x).ss.length + 1 := by
  have := x3.len
  have := List.length_pos_iff.2 x1
  omega
 have k1 := cell_heap (i := 1) hb rfl
 have k2 := cell_heap (i := 2) hb rfl
 have hbl := cell_lt k1
 have HB0 := hid_intro hb
 have G1 := hid_intro (World.grownBy_alloc w (.cells #[.slice none 0 0, .slice none 0 0] 77) none)
 have B1 := hid_intro (BxT.new w (.slice none 0 0) (.slice none 0 0))
 have PL := hid_intro (fun (W : World) (h : w.grownBy W none) => place_any b sa sm sc ka kn kc (BnT.row (T := NdT (n + 1)) x).ss key W (h.cell k2 (by simp)) (hss.kept (FrT.of h)) (by omega) (rise_of x3) (hk.keptN h) bt (fun s hs => (x5 s hs).kb))
 obtain ⟨g, off, u, rfl, c1, hu⟩ := NsT.node (n := (n + 1)) hns hy.at_
 obtain ⟨b1, rfl⟩ := hu.atB
 have hlt := hy.lt
 have KC : Hid (∀ (W : World), w.grownBy W none → Calls Tryz.prog 155 #[.pointer (some ⟨b1, 0, none⟩), .slice ka kn kc, .slice na nn nc] W fun en w' => ChT (n + 1) (changedT (n + 1) y key now) en w' ∧ W.grownBy w' none) := fun W h => hC b1 y ka kn kc key na nn nc now W (NodeT.kept _ hu (FrT.of h)) (x2 y (List.mem_of_getElem? hy.at_)) (hk.keptN h) bt (hnow.kept (FrT.of h)) hn
 have RX := hid_intro (show RowT (n + 1) w (some ⟨g, off, none⟩) m c sa sm sc (BnT.row (T := NdT (n + 1)) x) from ⟨hns, hss⟩)
 have hme := mB_changed
 have HY := hid_intro hy
 have HN := hid_intro hn
 have hix := hy.lt
 show Calls Tryz.prog 155 _ _ _
 cases hq : changedT (n + 1) y key now with
 | none =>
  rw [branch_stop HY.out hq]
  rw [hq] at KC
  generalize placeT (BnT.row (T := NdT (n + 1)) x).ss key = i at *
  have v1 : (0 : Int) ≤ (i : Int) ∧ (i : Int) < (m : Int) := by omega
  clear hb hns hss hk hu x2 x3 x5 hy hnow hn hq k2
  go_enter Tryz.func155, Tryz.ntmps155
  go_wp2_with fail
  refine (PL.out _ G1.out).mono ?_
  rintro en w2 ⟨rfl, hg2⟩
  have G2 := hid_intro (grown_trans G1.out hg2)
  have d1 := G2.out.cell k1 (by simp)
  have d2 := G2.out.cell c1 (by simp)
  clear hg2 k1 c1
  go_wp2_with fail
  refine (KC.out _ G2.out).mono ?_
  rintro en w3 ⟨h3, hg3⟩
  have h4 : en = .panicked [{ v := .iface 117 (.agg #[]), recovered := false }] := h3
  subst h4
  exact ⟨rfl, rfl, grown_trans G2.out hg3⟩
 | some q =>
  obtain ⟨q1, q2, q3, q4, q5, q6⟩ := branch_next HOX.out HN.out HY.out hq
  rw [q1]
  rw [hq] at KC
  generalize ht : tidyT (joinsT (n + 1)) (joinedT (n + 1)) (placeT (BnT.row (T := NdT (n + 1)) x).ss key + q.ns.length - (placeT (BnT.row (T := NdT (n + 1)) x).ss key - 1)) (replT (BnT.row (T := NdT (n + 1)) x) (placeT (BnT.row (T := NdT (n + 1)) x).ss key) q) (placeT (BnT.row (T := NdT (n + 1)) x).ss key - 1) = t at *
  obtain ⟨t1, t2, t3⟩ := q6 t rfl
  have QT := hid_intro (And.intro t1 (And.intro t2 t3))
  have HT := hid_intro ht
  have Q2 := hid_intro q2
  have HSL := hid_intro hsl
  clear t1 t2 t3 q6 q2 ht q1 hq
  generalize placeT (BnT.row (T := NdT (n + 1)) x).ss key = i at *
  have v1 : (0 : Int) ≤ (i : Int) ∧ (i : Int) < (m : Int) := by omega
  clear hb hns hss hk hu x2 x3 x5 hy hnow hn k2
  have GS : Hid (w.heap.size < (w.alloc (.cells #[.slice none 0 0, .slice none 0 0] 77)).heap.size) := by simp [Hid]
  go_enter Tryz.func155, Tryz.ntmps155
  go_wp2_with fail
  refine (PL.out _ G1.out).mono ?_
  rintro en w2 ⟨rfl, hg2⟩
  have GZ := hid_intro hg2
  have G2 := hid_intro (grown_trans G1.out hg2)
  have d1 := G2.out.cell k1 (by simp)
  have d2 := G2.out.cell c1 (by simp)
  clear hg2 c1
  go_wp2_with fail
  refine (KC.out _ G2.out).mono ?_
  rintro en w3 ⟨⟨a3, m3, c3, sa3, sm3, sc3, rfl, hr3⟩, hg3⟩
  have hgz := hid_intro hg3
  have G3 := hid_intro (grown_trans G2.out hg3)
  have l3 := hr3.ns.len
  have l4 := hr3.ss.len
  have GX := hid_intro (World.grownBy_alloc w3 (.cells #[.slice a3 m3 c3, .slice sa3 sm3 sc3] 77) none)
  have X4 := heap_at0 w3 #[.slice a3 m3 c3, .slice sa3 sm3 sc3] 77
  have R3 := hid_intro (hr3.kept (FrT.of GX.out))
  have e0 := cell_heap (i := 0) X4 rfl
  have e1 := cell_heap (i := 1) X4 rfl
  have k2' := cell_heap (i := 2) HB0.out rfl
  have e2 := (grown_trans G3.out GX.out).cell k1 (by simp)
  have e3 := (grown_trans G3.out GX.out).cell k2' (by simp)
  have G4 := hid_intro (grown_trans G3.out GX.out)
  clear hg3 hr3 X4 d1 d2 k2' k1
  go_upto_region 3 with fail
  generalize w3.alloc (.cells #[.slice a3 m3 c3, .slice sa3 sm3 sc3] 77) = w4 at *
  have TT := hid_intro (And.intro e0 (And.intro e1 (And.intro e2 e3)))
  obtain ⟨fr, hfr⟩ : ∃ fr : Int, (i : Int) - 1 = fr := ⟨_, rfl⟩
  obtain ⟨su, hsu⟩ : ∃ su : Int, (i : Int) + (m3 : Int) = su := ⟨_, rfl⟩
  obtain ⟨tq, htq⟩ : ∃ tq : Int, su - 1 = tq := ⟨_, rfl⟩
  have wf : IntKind.i64.wrap fr = fr := by rw [IntKind.wrap_i64]; omega
  have ws : IntKind.i64.wrap su = su := by rw [IntKind.wrap_i64]; omega
  have wt : IntKind.i64.wrap tq = tq := by rw [IntKind.wrap_i64]; omega
  have RP := hid_intro (fun (W : World) (h : w4.grownBy W none) => hRP (BnT.row (T := NdT (n + 1)) x) q i HSL.out hix _ m c sa sm sc a3 m3 c3 sa3 sm3 sc3 W (RX.out.kept (FrT.of (grown_trans G4.out h))) (R3.out.kept (FrT.of h)) (by omega) (by omega) (by omega) (by omega))
  have TD := hid_intro (fun (a5 : Option Addr) (m5 c5 : Nat) (sa5 : Option Addr) (sm5 sc5 : Nat) (W : World) (h : RowT (n + 1) W a5 m5 c5 sa5 sm5 sc5 (replT (BnT.row (T := NdT (n + 1)) x) i q)) (h5 : m5 ≤ 5000) => hT (replT (BnT.row (T := NdT (n + 1)) x) i q) fr tq (i - 1) (i + q.ns.length - (i - 1)) (by split <;> omega) (by omega) (by omega) (by omega) Q2.out a5 m5 c5 sa5 sm5 sc5 W h h5)
  rw [HT.out] at TD
  have ST := hid_intro (fun (a5 : Option Addr) (m5 c5 : Nat) (sa5 : Option Addr) (sm5 sc5 : Nat) (W : World) (h : RowT (n + 1) W a5 m5 c5 sa5 sm5 sc5 t) (h5 : m5 ≤ 5000) => settledBranch_any t QT.out.1 QT.out.2.2 a5 m5 c5 sa5 sm5 sc5 W h h5)
  have B4 := hid_intro (B1.out.keptN (show (w.alloc (.cells #[.slice none 0 0, .slice none 0 0] 77)).grownBy w4 none from grown_trans GZ.out (grown_trans hgz.out GX.out)))
  clear e0 e1 e2 e3
  go_region_held3 (fun w' => w'.cell? ⟨w3.heap.size, 0, none⟩ = some (.slice a3 m3 c3) ∧ w'.cell? ⟨w3.heap.size, 1, none⟩ = some (.slice sa3 sm3 sc3) ∧ w'.cell? ⟨b, 1, none⟩ = some (.slice (some ⟨g, off, none⟩) m c) ∧ w'.cell? ⟨b, 2, none⟩ = some (.slice sa sm sc)) (first | (with_reducible exact T5) | (with_reducible exact T6) | (with_reducible exact T7) | exact TT.out | (refine And.intro (keep2 T7.1 ?_) (And.intro (keep2 T7.2.1 ?_) (And.intro (keep2 T7.2.2.1 ?_) (keep2 T7.2.2.2 ?_))) <;> (have z0 := GZ.out.size; have z3 := hgz.out.size; have z1 := GS.out; omega)) | go_keep) (first
   | (go_at_call 167; (with_reducible refine (RP.out _ ((Qt.refl w4).drew.grown none)).mono ?_); rintro en w5 ⟨⟨a5, m5, c5, sa5, sm5, sc5, rfl, hr5⟩, hg5⟩; have H5 := grown_trans ((Qt.refl w4).drew.grown none) hg5; have l5 := hr5.ns.len; have T5 := And.intro (H5.cell TT.out.1 (by simp)) (And.intro (H5.cell TT.out.2.1 (by simp)) (And.intro (H5.cell TT.out.2.2.1 (by simp)) (H5.cell TT.out.2.2.2 (by simp)))))
   | (go_at_call 168; (with_reducible refine (TD.out _ _ _ _ _ _ _ hr5 (by omega)).mono ?_); rintro en w6 ⟨⟨a6, m6, c6, sa6, sm6, sc6, rfl, hr6⟩, hg6⟩; have H6 := grown_trans H5 hg6; have l6 := hr6.ns.len; have q7 := QT.out.2.1; have T6 := And.intro (H6.cell TT.out.1 (by simp)) (And.intro (H6.cell TT.out.2.1 (by simp)) (And.intro (H6.cell TT.out.2.2.1 (by simp)) (H6.cell TT.out.2.2.2 (by simp)))))
   | (go_at_call 166; (with_reducible refine (ST.out _ _ _ _ _ _ _ hr6 (by omega)).mono ?_); rintro en w7 ⟨⟨a7, m7, c7, sa7, sm7, sc7, rfl, hr7⟩, hg7⟩; have H7 := grown_trans H6 hg7; have T7 := And.intro (H7.cell TT.out.1 (by simp)) (And.intro (H7.cell TT.out.2.1 (by simp)) (And.intro (H7.cell TT.out.2.2.1 (by simp)) (H7.cell TT.out.2.2.2 (by simp)))); have B7 := B4.out.keptN H7; obtain ⟨⟨x1, cx⟩, ⟨y1, cy⟩, z1, z2⟩ := B7.cells))
  all_goals go_wp2
  all_goals
   refine ret_rowC (p := 6) rfl B7 (Nat.le_refl _) hr7 (grown_trans G4.out H7) ?_ ?_ <;> rfl
theorem tidy_step {T : Type} {J : T → List Int → T → Bool} {D : T → List Int → T → T} {c : Nat} {q : RwT T} {i : Nat} {a b : T} {s : List Int} (h1 : q.ns[i]? = some a) (h2 : q.ss[i]? = some s) (h3 : q.ns[i + 1]? = some b) : tidyT J D (c + 1) q i = if J a s b then tidyT J D c (joinAt q i (D a s b)) i else tidyT J D c q (i + 1) := by
 rw [tidyT, h1, h2, h3]
theorem tidy_stop {T : Type} {J : T → List Int → T → Bool} {D : T → List Int → T → T} {c : Nat} {q : RwT T} {i : Nat} (h : c = 0 ∨ q.ns.length ≤ i + 1) : tidyT J D c q i = q := by
 cases c with
 | zero => rfl
 | succ c =>
  rw [tidyT, show q.ns[i + 1]? = none from List.getElem?_eq_none_iff.2 (by omega)]
  split <;> simp_all
theorem joinAt_len {T : Type} {q : RwT T} {i : Nat} {one : T} (h : i + 1 < q.ns.length) : (joinAt q i one).ns.length + 1 = q.ns.length := by
 simp only [joinAt, List.length_append, List.length_take, List.length_drop, List.length_cons, List.length_nil]
 omega
theorem rok_joinAt {n : Nat} {q : RwT (NdT n)} {i : Nat} {a b : NdT n} {s : List Int} (h : RokT n q) (h1 : q.ns[i]? = some a) (h2 : q.ss[i]? = some s) (h3 : q.ns[i + 1]? = some b) (hj : joinsT n a s b = true) : RokT n (joinAt q i (joinedT n a s b)) := by
 have := ok_tidy (ok_joined n) 1 q i h
 rw [tidy_step h1 h2 h3, if_pos hj] at this
 exact this
structure TbT (n : Nat) (w : World) (R : Nat) (a : Option Addr) (m c : Nat) (sa : Option Addr) (sm sc : Nat) (q : RwT (NdT n)) : Prop where
 box : w.heap[R]? = some (.cells #[.slice a m c, .slice sa sm sc] 77 (0, 0))
 row : RowT n w a m c sa sm sc q
theorem TbT.keptN {n : Nat} {w w' : World} {R : Nat} {a : Option Addr} {m c : Nat} {sa : Option Addr} {sm sc : Nat} {q : RwT (NdT n)} (h : TbT n w R a m c sa sm sc q) (hg : w.grownBy w' none) : TbT n w' R a m c sa sm sc q := ⟨heap_kept h.box hg, h.row.kept (FrT.of hg)⟩
set_option maxHeartbeats 16000000 in
set_option maxRecDepth 100000 in
theorem tidied_L (hJ : JoinsC 0) (hD : ∀ (r : RwT (NdT 0)) (i : Nat) (x y : NdT 0) (s : List Int), r.ns[i]? = some x → r.ss[i]? = some s → r.ns[i + 1]? = some y → RokT 0 r → joinsT 0 x s y = true → ∀ (a : Option Addr) (m c : Nat) (sa : Option Addr) (sm sc : Nat) (w : World), RowT 0 w a m c sa sm sc r → m ≤ 5000 →
   Calls Tryz.prog 174 #[.agg #[.slice a m c, .slice sa sm sc], .int .i64 i] w fun en w' => (∃ a m c sa sm sc, en = .returned (.agg #[.slice a m c, .slice sa sm sc]) ∧ RowT 0 w' a m c sa sm sc (joinAt r i (joinedT 0 x s y))) ∧ w.grownBy w' none)
  (r : RwT (NdT 0)) (fr tq : Int) (i0 cnt : Nat) (hi0 : (if (0 : Int) > fr then (0 : Int) else fr) = (i0 : Int)) (hcnt : cnt = (tq + 1 - (i0 : Int)).toNat) (ht : -100000 ≤ tq ∧ tq ≤ 100000) (hf : -100000 ≤ fr ∧ fr ≤ 100000) (hok : RokT 0 r) (a : Option Addr) (m c : Nat) (sa : Option Addr) (sm sc : Nat) (w : World) (hr : RowT 0 w a m c sa sm sc r) (hm : m ≤ 5000) :
  Calls Tryz.prog 168 #[.agg #[.slice a m c, .slice sa sm sc], .int .i64 fr, .int .i64 tq] w fun en w' => (∃ a m c sa sm sc, en = .returned (.agg #[.slice a m c, .slice sa sm sc]) ∧ RowT 0 w' a m c sa sm sc (tidyT (joinsT 0) (joinedT 0) cnt r i0)) ∧ w.grownBy w' none := by
 have hmax : ∀ (ts : Array TypeId) (t : TypeId) (W : World), (Builtin.max_ ts t #[.int .i64 fr, .int .i64 0]).run Tryz.prog W = .ok (.int .i64 i0) W := fun ts t W => by rw [run_max_int2, hi0]
 have G1 := hid_intro (grown_al (grown_al (World.grownBy.refl w none) (.cells #[.slice a m c, .slice sa sm sc] 77)) (.cells #[.slice none 0 0, .slice none 0 0] 77))
 have X1 : Hid (TbT 0 ((w.alloc (.cells #[.slice a m c, .slice sa sm sc] 77)).alloc (.cells #[.slice none 0 0, .slice none 0 0] 77)) w.heap.size a m c sa sm sc r) := ⟨heap_old (heap_at0 w _ _), hr.kept (FrT.of G1.out)⟩
 have B1 : Hid (BxT ((w.alloc (.cells #[.slice a m c, .slice sa sm sc] 77)).alloc (.cells #[.slice none 0 0, .slice none 0 0] 77)) (w.heap.size + 1)) := ⟨_, _, heap_at1 w _ _ _⟩
 have ln := hr.ns.len
 have HOK := hid_intro hok
 have hb0 : i0 ≤ 100000 := by split at hi0 <;> omega
 have hme := mL_joins
 have HCN := hid_intro hcnt
 clear hr hi0 hok hcnt
 go_enter Tryz.func168, Tryz.ntmps168
 go_wp2
 generalize (w.alloc (.cells #[.slice a m c, .slice sa sm sc] 77)).alloc (.cells #[.slice none 0 0, .slice none 0 0] 77) = w1 at *
 go_loopw [2, 7] (fun s2 s7 wr => ∃ (q : RwT (NdT 0)) (i k : Nat) (t : Int) (a : Option Addr) (m c : Nat) (sa : Option Addr) (sm sc : Nat), s2 = .int .i64 t ∧ s7 = .int .i64 (i : Nat) ∧ k = (t + 1 - (i : Int)).toNat ∧ i ≤ 200000 ∧ -300000 ≤ t ∧ t ≤ 100000 ∧ (t + 1 - (i : Int)).toNat + i ≤ 200000 ∧ m ≤ 5000 ∧ RokT 0 q ∧ TbT 0 wr w.heap.size a m c sa sm sc q ∧ BxT wr (w.heap.size + 1) ∧ w.grownBy wr none ∧ tidyT (joinsT 0) (joinedT 0) k q i = tidyT (joinsT 0) (joinedT 0) cnt r i0 ∧ t ≤ tq ∧ tq - t ≤ 200000) (fun s2 s7 _ => (intOf s2 + 1 - intOf s7).toNat)
 case atStart => exact ⟨r, i0, cnt, tq, a, m, c, sa, sm, sc, rfl, rfl, HCN.out, by omega, by omega, by omega, by omega, hm, HOK.out, X1.out, B1.out, G1.out, rfl, by omega, by omega⟩
 case round =>
  obtain ⟨q, i, k, t, a, m, c, sa, sm, sc, rfl, rfl, hk, hi, ht1, ht2, hki, hm, hok, htb, hbx, hg, heq, hto, htd⟩ := hrel
  have ln := htb.row.ns.len
  have ls := htb.row.ss.len
  have HO := hid_intro hok
  have HT := hid_intro htb
  have HB := hid_intro hbx
  have HG := hid_intro hg
  have HE := hid_intro heq
  have e0 := cell_heap (i := 0) htb.box rfl
  have e1 := cell_heap (i := 1) htb.box rfl
  by_cases c1 : (i : Int) ≤ t
  ·by_cases c2 : i + 1 < m
   ·have hsl := hok.sep.len
    obtain ⟨x, h1⟩ : ∃ x, q.ns[i]? = some x := ⟨_, List.getElem?_eq_getElem (by omega)⟩
    obtain ⟨y, h3⟩ : ∃ y, q.ns[i + 1]? = some y := ⟨_, List.getElem?_eq_getElem (by omega)⟩
    obtain ⟨s, h2⟩ : ∃ s, q.ss[i]? = some s := ⟨_, List.getElem?_eq_getElem (by omega)⟩
    obtain ⟨g, off, u1, rfl, d1, hx⟩ := htb.row.ns.node h1
    obtain ⟨g', off', u2, e, d2, hy⟩ := htb.row.ns.node h3
    simp only [Option.some.injEq, Addr.mk.injEq] at e
    obtain ⟨rfl, rfl, _⟩ := e
    obtain ⟨sg, soff, so, sn, sc', rfl, d3, hs⟩ := htb.row.ss.str h2
    obtain ⟨b1, rfl⟩ := hx.atL
    obtain ⟨b2, rfl⟩ := hy.atL
    have JQ : Hid (∀ (W : World), wr.grownBy W none → Calls Tryz.prog 148 #[.pointer (some ⟨b1, 0, none⟩), .slice so sn sc', .iface 118 (.pointer (some ⟨b2, 0, none⟩))] W fun en w' => en = .returned (.bool (joinsT 0 x s y)) ∧ W.grownBy w' none) := (fun (W : World) (h : wr.grownBy W none) => hJ b1 _ x y so sn sc' s W (NodeT.kept _ hx (FrT.of h)) (NodeT.kept _ hy (FrT.of h)) (hok.ok x (List.mem_of_getElem? h1)) (hok.ok y (List.mem_of_getElem? h3)) (hs.kept (FrT.of h)) (hok.vs s (List.mem_of_getElem? h2)))
    have DQ := hid_intro (hD q i x y s h1 h2 h3 hok)
    obtain ⟨k', hk'⟩ : ∃ k', k = k' + 1 := ⟨k - 1, by omega⟩
    have HS := hid_intro (tidy_step (J := joinsT 0) (D := joinedT 0) (c := k') h1 h2 h3)
    have RJ := hid_intro (fun hj => rok_joinAt hok h1 h2 h3 hj)
    obtain ⟨j, hj1⟩ : ∃ j, i + 1 = j := ⟨_, rfl⟩
    rw [hj1] at d2
    have v1 : (0 : Int) ≤ (i : Int) ∧ (i : Int) < (m : Int) := by omega
    have v2 : (0 : Int) ≤ (j : Int) ∧ (j : Int) < (m : Int) := by omega
    have v3 : (0 : Int) ≤ (i : Int) ∧ (i : Int) < (sm : Int) := by omega
    have ej : (i : Int) + 1 = (j : Int) := by omega
    have wj : IntKind.i64.wrap (j : Int) = (j : Int) := by rw [IntKind.wrap_i64]; omega
    have T1 := hid_intro (And.intro e0 (And.intro e1 (And.intro d1 (And.intro d2 d3))))
    have c2' : (j : Int) < (m : Int) := by omega
    clear hx hy hs hok htb hbx hg heq h1 h2 h3 d1 d2 d3 hsl
    cases hb : joinsT 0 x s y with
    | true =>
     rw [hb] at JQ HS
     have DQ2 := hid_intro (DQ.out hb)
     have RJ2 := hid_intro (RJ.out hb)
     clear DQ RJ
     go_upto_region 3 with fail
     go_region_held3 (fun w' => w'.cell? ⟨w.heap.size, 0, none⟩ = some (.slice (some ⟨g, off, none⟩) m c) ∧ w'.cell? ⟨w.heap.size, 1, none⟩ = some (.slice (some ⟨sg, soff, none⟩) sm sc) ∧ w'.cell? ⟨g, off + i, none⟩ = some (.iface 118 (.pointer (some ⟨b1, 0, none⟩))) ∧ w'.cell? ⟨g, off + j, none⟩ = some (.iface 118 (.pointer (some ⟨b2, 0, none⟩))) ∧ w'.cell? ⟨sg, soff + i, none⟩ = some (.slice so sn sc')) (first | (with_reducible exact T2) | exact T1.out | go_keep) (first
      | (go_at_call 148; (with_reducible refine (JQ.out _ ((Qt.refl wr).drew.grown none)).mono ?_); rintro en w2 ⟨rfl, hg2⟩; have g9 := grown_trans ((Qt.refl wr).drew.grown none) hg2; have T2 := And.intro (g9.cell T1.out.1 (by simp)) (And.intro (g9.cell T1.out.2.1 (by simp)) (And.intro (g9.cell T1.out.2.2.1 (by simp)) (And.intro (g9.cell T1.out.2.2.2.1 (by simp)) (g9.cell T1.out.2.2.2.2 (by simp)))))))
     all_goals go_wp2_with fail
     all_goals
      refine (DQ2.out _ _ _ _ _ _ w2 (HT.out.keptN g9).row hm).mono ?_
      rintro en w5 ⟨⟨a5, m5, c5, sa5, sm5, sc5, rfl, hr5⟩, hg5⟩
      have g5 := grown_trans g9 hg5
      have B5 : BxT w5 w.heap.size := ⟨_, _, heap_kept HT.out.box g5⟩
      obtain ⟨⟨x1, cx⟩, ⟨y1, cy⟩, z1, z2⟩ := B5.cells
      have BB := hid_intro B5
      have RR := hid_intro hr5
      have GG := hid_intro g5
      have ln5 := hr5.ns.len
      have hjl := joinAt_len (q := q) (i := i) (one := joinedT 0 x s y) (by omega)
      have wt : IntKind.i64.wrap (t - 1) = t - 1 := by rw [IntKind.wrap_i64]; omega
      clear B5 hr5 hg5 T2 hg2 g9 g5
     all_goals go_wp2
     all_goals
      obtain ⟨p1, p2, p3⟩ := BB.out.put (.slice a5 m5 c5) (.slice sa5 sm5 sc5)
      have B6 : BxT ((w5.setCell ⟨w.heap.size, 0, none⟩ (.slice a5 m5 c5)).setCell ⟨w.heap.size, 1, none⟩ (.slice sa5 sm5 sc5)) (w.heap.size + 1) := by
       obtain ⟨u, v, hu⟩ := (HB.out.keptN GG.out).row
       exact ⟨u, v, by rw [p3.block _ (Array.getElem?_eq_some_iff.1 hu).1 (by intro e; have := Option.some.inj e; omega)]; exact hu⟩
      refine ⟨⟨joinAt q i (joinedT 0 x s y), i, k', t - 1, _, _, _, _, _, _, rfl, rfl, by omega, by omega, by omega, by omega, by omega, by omega, RJ2.out, ⟨p1, RR.out.kept p2⟩, B6, grown_new (grown_trans HG.out GG.out) p3 (Nat.le_refl _), ?_, by omega, by omega⟩, by simp [intOf]; omega⟩
      rw [← HE.out, hk', HS.out, if_pos (by simp)]
    | false =>
     rw [hb] at JQ HS
     clear DQ RJ
     go_upto_region 3 with fail
     go_region_held3 (fun w' => w'.cell? ⟨w.heap.size, 0, none⟩ = some (.slice (some ⟨g, off, none⟩) m c) ∧ w'.cell? ⟨w.heap.size, 1, none⟩ = some (.slice (some ⟨sg, soff, none⟩) sm sc) ∧ w'.cell? ⟨g, off + i, none⟩ = some (.iface 118 (.pointer (some ⟨b1, 0, none⟩))) ∧ w'.cell? ⟨g, off + j, none⟩ = some (.iface 118 (.pointer (some ⟨b2, 0, none⟩))) ∧ w'.cell? ⟨sg, soff + i, none⟩ = some (.slice so sn sc')) (first | (with_reducible exact T2) | exact T1.out | go_keep) (first
      | (go_at_call 148; (with_reducible refine (JQ.out _ ((Qt.refl wr).drew.grown none)).mono ?_); rintro en w2 ⟨rfl, hg2⟩; have g9 := grown_trans ((Qt.refl wr).drew.grown none) hg2; have T2 := And.intro (g9.cell T1.out.1 (by simp)) (And.intro (g9.cell T1.out.2.1 (by simp)) (And.intro (g9.cell T1.out.2.2.1 (by simp)) (And.intro (g9.cell T1.out.2.2.2.1 (by simp)) (g9.cell T1.out.2.2.2.2 (by simp)))))))
     all_goals go_wp2
     all_goals
      refine ⟨⟨q, j, k', t, _, _, _, _, _, _, rfl, rfl, by omega, by omega, by omega, by omega, by omega, hm, HO.out, HT.out.keptN g9, HB.out.keptN g9, grown_trans HG.out g9, ?_, hto, htd⟩, by simp [intOf]; omega⟩
      rw [← HE.out, hk', HS.out, if_neg (by simp), hj1]
   ·have l2 : ¬ ((i : Int) + 1 < (m : Int)) := by omega
    have HF := hid_intro (HE.out.symm.trans (tidy_stop (.inr (by omega))))
    clear htb hbx hg heq hok
    obtain ⟨⟨x1, cx⟩, ⟨y1, cy⟩, z1, z2⟩ := HB.out.cells
    go_wp2
    rw [HF.out]
    refine ret_rowG (p := 6) rfl HB.out (by omega) HT.out.row HG.out ?_ ?_ <;> rfl
  ·have l1 : decide ((i : Int) ≤ t) = false := decide_eq_false c1
   have HF := hid_intro (HE.out.symm.trans (tidy_stop (.inl (by omega))))
   clear htb hbx hg heq hok
   obtain ⟨⟨x1, cx⟩, ⟨y1, cy⟩, z1, z2⟩ := HB.out.cells
   go_wp2
   rw [HF.out]
   refine ret_rowG (p := 6) rfl HB.out (by omega) HT.out.row HG.out ?_ ?_ <;> rfl
set_option maxHeartbeats 4000000 in
set_option maxRecDepth 100000 in
theorem lchanged_nil (b : Nat) (ka : Option Addr) (kn kc : Nat) (key : List Int) (na : Option Addr) (nn nc : Nat) (now : List PrT) (w : World) (hb : w.heap[b]? = some (.cells #[.int .i64 0, .slice none 0 0] 120 (0, 0))) (hk : Byt w ka kn kc key) (bt : Bt key) (hnow : PsT w na nn nc now) (hn : NowT key now) :
  Calls Tryz.prog 68 #[.pointer (some ⟨b, 0, none⟩), .slice ka kn kc, .slice na nn nc] w fun en w' => ChT 0 (changedT 0 (⟨0, []⟩ : LfT) key now) en w' ∧ w.grownBy w' none := by
 have hps : PsT w none 0 0 [] := SlT.nil _ _ _ _
 have hc0 := cell_heap (i := 1) hb rfl
 have G1 := hid_intro (World.grownBy_alloc w (.cells #[.slice none 0 0, .slice none 0 0] 77) none)
 have B1 := hid_intro (BxT.new w (.slice none 0 0) (.slice none 0 0))
 have N1 := hid_intro (hnow.kept (FrT.of G1.out))
 have c1 := G1.out.cell hc0 (by simp)
 have LF := lfind_any b none 0 0 ka kn kc [] key _ c1 (hps.kept (FrT.of G1.out)) (by omega) List.Pairwise.nil (hk.keptN G1.out) bt (fun p hp => by simp at hp)
 rw [show findT [] key = 0 from rfl, show hasT [] key = false from rfl] at LF
 have LF := hid_intro LF
 have hnl := hnow.len
 have hn1 := hn.one
 have SU : Hid (∀ (a : Option Addr) (n c : Nat) (w : World), PsT w a n c ([] ++ (now ++ [])) → Calls Tryz.prog 76 #[.slice a n c] w fun en w' => (∃ a m c sa sm sc, en = .returned (.agg #[.slice a m c, .slice sa sm sc]) ∧ RowT 0 w' a m c sa sm sc (settleL now)) ∧ w.grownBy w' none) := by
  intro a n c w h
  have e : List.take (findT [] key) ([] : List PrT) ++ (now ++ List.drop (endT [] key) []) = now := by simp
  have := settle_upd (L := []) (key := key) LokT.nil hn a n c w h
  rw [e] at this
  exact this
 have VN := hid_intro (fun p hp => (hn.vp p hp).vb)
 have HC : Hid (changedT 0 (⟨0, []⟩ : LfT) key now = if sameT [] now key then none else some (settleL ([] ++ (now ++ [])))) := rfl
 have HSM : Hid (sameT [] now key = decide (([] : List PrT).map PrT.val = now.map PrT.val)) := rfl
 rw [HC.out]
 have hbl := cell_lt hc0
 clear hb hnow hk hn hc0 HC hps
 go_enter Tryz.func68, Tryz.ntmps68
 go_wp2_with fail
 refine LF.out.mono ?_
 rintro en w2 ⟨rfl, hg2⟩
 have G2 := hid_intro hg2
 have c2 := hg2.cell c1 (by simp)
 have N2 := hid_intro (N1.out.kept (FrT.of hg2))
 clear hg2 LF c1
 go_wp2_with fail
 refine (equalFunc_any none na 0 0 nn nc [] now w2 (SlT.nil _ _ _ _) N2.out (by omega) (by omega) (fun p hp => by simp at hp) VN.out).mono ?_
 rintro en w3 ⟨rfl, hg3⟩
 rw [← HSM.out]
 have G3 := hid_intro (grown_trans G2.out hg3)
 have c3 := hg3.cell c2 (by simp)
 have N3 := hid_intro (N2.out.kept (FrT.of hg3))
 clear hg3 c2 N2 VN
 cases hs : sameT [] now key with
 | true =>
  clear HSM SU
  go_wp2
  exact ⟨rfl, rfl, grown_trans G1.out G3.out⟩
 | false =>
  have CT := hid_intro (cat3_tp IpT ip_keptN none 0 0 [] na nn nc now none 0 0 [] (SlT.nil _ _ _ _) N3.out (SlT.nil _ _ _ _) (by simp; omega))
  have hbn : ¬ b = w.heap.size := by omega
  have hbn2 : ¬ w.heap.size = b := by omega
  clear HSM
  go_upto_region 7 with fail
  go_region_held3 (fun w' => w'.cell? ⟨b, 1, none⟩ = some (.slice none 0 0)) (first | exact c3 | exact c5 | exact c6 | go_keep) (first
   | (go_at_call 77; (with_reducible refine CT.out.mono ?_); rintro en w5 ⟨⟨a5, n5, cc5, rfl, hp5⟩, hg5⟩; have c5 := hg5.cell c3 (by simp); have hq5 : PsT w5 a5 n5 cc5 ([] ++ (now ++ [])) := hp5)
   | (go_at_call 76; (with_reducible refine (SU.out _ _ _ _ hq5).mono ?_); rintro en w6 ⟨⟨a6, m6, cc6, sa6, sm6, sc6, rfl, hr6⟩, hg6⟩; have c6 := hg6.cell c5 (by simp); obtain ⟨⟨x, cx⟩, ⟨y, cy⟩, z1, z2⟩ := (B1.out.keptN (grown_trans G3.out (grown_trans hg5 hg6))).cells))
  all_goals go_wp2
  all_goals
   obtain ⟨r1, r2, r3⟩ := ret_row (fn := Tryz.f68) (p := 6) rfl (B1.out.keptN (grown_trans G3.out (grown_trans hg5 hg6))) hr6 (grown_trans G1.out (grown_trans G3.out (grown_trans hg5 hg6)))
   refine ret_endC r1 r2 r3 ?_ ?_ <;> rfl
theorem info_pair10 : (Tryz.prog.info? 40).map (fun i => (i.zero, i.size, i.bytes)) = some (some (.agg #[.slice none 0 0, .slice none 0 0]), 2, 48) := by kernel_rfl
theorem info_ints10 : (Tryz.prog.info? 52).map (fun i => (i.zero, i.size, i.bytes)) = some (some (.slice none 0 0), 1, 24) := by kernel_rfl
theorem info_anode10 : (Tryz.prog.info? 54).map (fun i => (i.zero, i.size, i.bytes)) = some (some (.agg #[.int .i64 0, .int .i64 0, .slice none 0 0, .slice none 0 0, .slice none 0 0, .slice none 0 0]), 6, 112) := by kernel_rfl
theorem al3_0 (w : World) (X Y Z : Obj) : (((w.alloc X).alloc Y).alloc Z).drew.heap[w.heap.size]? = some X := by
 show (((w.alloc X).alloc Y).alloc Z).heap[w.heap.size]? = some X
 rw [Below.heap_alloc _ _ _ (by simp; omega), Below.heap_alloc _ _ _ (by simp), heap_alloc_new]
theorem al3_1 (w : World) (X Y Z : Obj) : (((w.alloc X).alloc Y).alloc Z).drew.heap[w.heap.size + 1]? = some Y := by
 show (((w.alloc X).alloc Y).alloc Z).heap[w.heap.size + 1]? = some Y
 rw [Below.heap_alloc _ _ _ (by simp)]
 have := heap_alloc_new (w.alloc X) Y
 rw [World.size_alloc] at this
 exact this
theorem al3_2 (w : World) (X Y Z : Obj) : (((w.alloc X).alloc Y).alloc Z).drew.heap[w.heap.size + 1 + 1]? = some Z := by
 show (((w.alloc X).alloc Y).alloc Z).heap[w.heap.size + 1 + 1]? = some Z
 have := heap_alloc_new ((w.alloc X).alloc Y) Z
 rw [World.size_alloc, World.size_alloc] at this
 exact this
theorem al3_g (w : World) (X Y Z : Obj) : w.grownBy (((w.alloc X).alloc Y).alloc Z).drew none := grown_dw (grown_al (grown_al (grown_al (World.grownBy.refl _ _) _) _) _)
def nbx (no : Int) (P C m : Nat) : Array Value := #[.int .i64 no, .int .i64 0, .slice (some ⟨P, 0, none⟩) m m, .slice (some ⟨C, 0, none⟩) m m, .slice none 0 0, .slice none 0 0]
structure TlB (w0 w : World) (N P C m : Nat) (no : Int) : Prop where
 bx : w.heap[N]? = some (.cells (nbx no P C m) 54 (0, 0))
 gr : w0.grownBy w none
 n0 : w0.heap.size ≤ N
 p0 : w0.heap.size ≤ P
 c0 : w0.heap.size ≤ C
theorem FlT.of_heap {w : World} {g n k : Nat} {t : TypeId} {cs : Array Value} (h : w.heap[g]? = some (.cells cs t (0, 0))) (hs : cs.size = n * k) : FlT w g n k t [] := ⟨⟨cs, h, hs, fun i e he => by simp at he⟩, EwfT.nil _⟩
theorem FlT.tg {w : World} {g n k : Nat} {t : TypeId} {es : List (List Value)} (h : FlT w g n k t es) : TgT w g t := by
 obtain ⟨cur, h1, _⟩ := h.row
 exact ⟨_, _, h1⟩
theorem FlT.other {w w' : World} {g n k : Nat} {t : TypeId} {es : List (List Value)} {d : Nat} (h : FlT w g n k t es) (hg : w.grownBy w' (some d)) (hd : d ≠ g) : FlT w' g n k t es := by
 obtain ⟨cur, h1, h2⟩ := h.row
 exact ⟨⟨cur, (hg.block g (Array.getElem?_eq_some_iff.1 h1).1 (by simpa using Ne.symm hd)).trans h1, h2⟩, h.wf⟩
theorem tg_ne {w : World} {a b : Nat} {t u : TypeId} (h : TgT w a t) (k : TgT w b u) (hne : t ≠ u) : a ≠ b := by
 rintro rfl
 obtain ⟨_, _, h1⟩ := h
 obtain ⟨_, _, h2⟩ := k
 rw [h1] at h2
 simp only [Option.some.injEq, Obj.cells.injEq] at h2
 exact hne h2.2.1
theorem TlB.other {w0 w w' : World} {N P C m : Nat} {no : Int} {d : Nat} (h : TlB w0 w N P C m no) (hg : w.grownBy w' (some d)) (hd : w0.heap.size ≤ d) (hN : d ≠ N) : TlB w0 w' N P C m no :=
 ⟨(hg.block N (Array.getElem?_eq_some_iff.1 h.bx).1 (by simpa using Ne.symm hN)).trans h.bx, grown_new h.gr hg hd, h.n0, h.p0, h.c0⟩
theorem TlB.keptN {w0 w w' : World} {N P C m : Nat} {no : Int} (h : TlB w0 w N P C m no) (hg : w.grownBy w' none) : TlB w0 w' N P C m no :=
 ⟨heap_kept h.bx hg, grown_trans h.gr hg, h.n0, h.p0, h.c0⟩
theorem TlB.cell {w0 w : World} {N P C m : Nat} {no : Int} (h : TlB w0 w N P C m no) (i : Nat) : w.cell? ⟨N, i, none⟩ = (nbx no P C m)[i]? := cell_of_row w N i _ _ _ h.bx
structure TlL (w0 w : World) (N P C m : Nat) (no : Int) (ps : List PrT) (kp kq : Nat) (es cs : List (List Value)) : Prop where
 b : TlB w0 w N P C m no
 fp : FlT w P m 2 40 es
 el : es.length = kp
 pv : PvL w es (ps.take kp) w0.heap.size w.heap.size
 fc : FlT w C m 1 52 cs
 cl : cs.length = kq
 ic : ElyT (IcT w w0.heap.size) cs ((ps.take kq).map PrT.chain)
theorem PvL.wide {w : World} : ∀ {es : List (List Value)} {ps : List PrT} {lo hi hi' : Nat}, PvL w es ps lo hi → hi ≤ hi' → PvL w es ps lo hi'
 | [], [], _, _, _, h, k => Nat.le_trans h k
 | _ :: es, _ :: ps, lo, hi, _, h, k => by
  obtain ⟨m, h1, h2, h3, h4⟩ := h
  exact ⟨m, h1, by omega, h3, h4.wide k⟩
 | [], _ :: _, _, _, _, h, _ => h.elim
 | _ :: _, [], _, _, _, h, _ => h.elim
theorem TlL.keptN {w0 w w' : World} {N P C m : Nat} {no : Int} {ps : List PrT} {kp kq : Nat} {es cs : List (List Value)} (h : TlL w0 w N P C m no ps kp kq es cs) (hg : w.grownBy w' none) : TlL w0 w' N P C m no ps kp kq es cs :=
 ⟨h.b.keptN hg, h.fp.keptN hg, h.el, (h.pv.kept (FrT.of hg)).wide hg.size, h.fc.keptN hg, h.cl, h.ic.mono (fun _ _ q => q.kept (FrT.of hg))⟩
theorem TlB.tN {w0 w : World} {N P C m : Nat} {no : Int} (h : TlB w0 w N P C m no) : TgT w N 54 := ⟨_, _, h.bx⟩
theorem EsT.other {w w' : World} {t u : TypeId} {a : Option Addr} {n c k : Nat} {es : List (List Value)} {d : Nat} (h : EsT w t a n c k es) (hg : w.grownBy w' (some d)) (hd : TgT w d u) (hne : t ≠ u) : EsT w' t a n c k es :=
 ⟨h.len, h.cap, h.c2, h.nil, h.pl, h.sz, h.one, fun i e he => by
  obtain ⟨b, off, h1, h2, h3⟩ := h.cell i e he
  have hb : w'.heap[b]? = w.heap[b]? := by
   obtain ⟨cur, z, q⟩ := h2
   exact hg.block b (Array.getElem?_eq_some_iff.1 q).1 (fun e => tg_ne ⟨cur, z, q⟩ hd hne (Option.some.inj e))
  refine ⟨b, off, h1, ?_, fun f v hv => (World.cell?_of_block hb).trans (h3 f v hv)⟩
  obtain ⟨cur, z, q⟩ := h2
  exact ⟨cur, z, hb.trans q⟩⟩
theorem PvL.other {w w' : World} {es : List (List Value)} {ps : List PrT} {lo hi d : Nat} {u : TypeId} (h : PvL w es ps lo hi) (hg : w.grownBy w' (some d)) (hd : TgT w d u) (hne : 5 ≠ u) : PvL w' es ps lo hi :=
 h.same fun g _ _ ht => by
  have hl : g < w.heap.size := by
   obtain ⟨_, _, q⟩ := ht
   exact (Array.getElem?_eq_some_iff.1 q).1
  exact hg.block g hl (fun e => tg_ne ht hd hne (Option.some.inj e))
theorem TlL.pair {w0 w w6 : World} {N P C m : Nat} {no : Int} {ps : List PrT} {k : Nat} {es cs : List (List Value)} {kv vv : Value} {p : PrT} {q : Nat} (h : TlL w0 w N P C m no ps k k es cs) (hk : k < m) (hx : ps[k]? = some p) (hg : w.grownBy w6 none)
  (hkv : w6.ownsRow w.heap.size 5 1 kv p.key.length (p.key.map (Value.int .u8))) (hq : w.heap.size ≤ q) (hq6 : q ≤ w6.heap.size) (hkq : ∀ g, kv.ownBlock = some g → g < q) (hvv : w6.ownsRow q 5 1 vv p.val.length (p.val.map (Value.int .u8))) (h1 : kv.oneCell' = true) (h2 : vv.oneCell' = true) :
  TlL w0 (setL w6 P (k * 2) [kv, vv]) N P C m no ps (k + 1) k (es ++ [[kv, vv]]) cs ∧ w6.grownBy (setL w6 P (k * 2) [kv, vv]) (some P) := by
 have h6 := h.keptN hg
 have tP := h6.fp.tg
 have hs := setL_grown (g := P) [kv, vv] w6 (k * 2)
 have hsz : (setL w6 P (k * 2) [kv, vv]).heap.size = w6.heap.size := by simp [setL]
 have hel := h.el
 have hnx := h6.fp.next (by omega) [kv, vv] rfl (by simp [h1, h2])
 rw [hel] at hnx
 have hpv : PvL w6 (es ++ [[kv, vv]]) (ps.take (k + 1)) w0.heap.size w6.heap.size := by
  rw [takeS hx]
  exact (h.pv.kept (FrT.of hg)).snoc hg.size ⟨kv, vv, q, rfl, hq, hq6, ⟨hkv, hkq⟩, ⟨hvv, fun g e => (own_lt10 hvv e).2.1⟩⟩
 refine ⟨⟨h6.b.other hs h6.b.p0 (tg_ne tP h6.b.tN (by decide)), hnx, by simp [hel], ?_, h6.fc.other hs (tg_ne tP h6.fc.tg (by decide)), h6.cl, h6.ic.mono (fun e c q => ?_)⟩, hs⟩
 ·rw [hsz]
  exact hpv.other hs tP (by decide)
 ·obtain ⟨a, n, c', q1, q2, q3⟩ := q
  exact ⟨a, n, c', q1, EsT.other q2 hs tP (by decide), q3⟩
theorem TlL.chain {w0 w w6 : World} {N P C m : Nat} {no : Int} {ps : List PrT} {k : Nat} {es cs : List (List Value)} {ca : Option Addr} {cn cc : Nat} {p : PrT} (h : TlL w0 w N P C m no ps (k + 1) k es cs) (hk : k < m) (hx : ps[k]? = some p) (hg : w.grownBy w6 none) (hc : NmT w6 ca cn cc p.chain) (hcl9 : ∀ ad, ca = some ad → w0.heap.size ≤ ad.block) :
  TlL w0 (setL w6 C (k * 1) [.slice ca cn cc]) N P C m no ps (k + 1) (k + 1) es (cs ++ [[.slice ca cn cc]]) ∧ w6.grownBy (setL w6 C (k * 1) [.slice ca cn cc]) (some C) := by
 have h6 := h.keptN hg
 have tC := h6.fc.tg
 have hs := setL_grown (g := C) [.slice ca cn cc] w6 (k * 1)
 have hsz : (setL w6 C (k * 1) [.slice ca cn cc]).heap.size = w6.heap.size := by simp [setL]
 have hcl := h.cl
 have hnx := h6.fc.next (by omega) [.slice ca cn cc] rfl (by simp [Value.oneCell'])
 rw [hcl] at hnx
 refine ⟨⟨h6.b.other hs h6.b.c0 (tg_ne tC h6.b.tN (by decide)), h6.fp.other hs (tg_ne tC h6.fp.tg (by decide)), h6.el, ?_, hnx, by simp [hcl], ?_⟩, hs⟩
 ·rw [hsz]
  exact h6.pv.other hs tC (by decide)
 ·rw [takeS hx, List.map_append]
  refine (h6.ic.mono (fun e c q => ?_)).app (ElyT.one ⟨ca, cn, cc, rfl, EsT.other hc hs tC (by decide), fun ad e _ => hcl9 ad e⟩)
  obtain ⟨a, n, c', q1, q2, q3⟩ := q
  exact ⟨a, n, c', q1, EsT.other q2 hs tC (by decide), q3⟩
theorem cell_set1 {W : World} {P i M o : Nat} {v x : Value} (h : W.cell? ⟨M, o, none⟩ = some x) (hn : M ≠ P) : (W.setCell ⟨P, i, none⟩ v).cell? ⟨M, o, none⟩ = some x := (grown_cell W P i v).cell h (by simpa using hn)
theorem cell_set2 {W : World} {P i j M o : Nat} {v u x : Value} (h : W.cell? ⟨M, o, none⟩ = some x) (hn : M ≠ P) : ((W.setCell ⟨P, i, none⟩ v).setCell ⟨P, j, none⟩ u).cell? ⟨M, o, none⟩ = some x := cell_set1 (cell_set1 h hn) hn
set_option maxHeartbeats 16000000 in
set_option maxRecDepth 100000 in
theorem ltell1 {y1 y2 y3 y4 y5 y6 y7 y8 y9 y10 y11 y12 y13 y14 y15 y16 y17 y18 y19 y20 y21 y22 y23 y24 y25 y26 y27 y28 y29 y30 y31 y32 y33 y34 y35 y36 y37 y38 y39 y40 y41 y42 y43 y44 y45 y46 y47 y48 y49 y50 y51 y52 y53 y54 y55 y56 y57 : Value} {b m c : Nat} {a : Option Addr} {no : Int} {ps : List PrT} {wc : World} (k0 : wc.cell? ⟨b, 0, none⟩ = some (.int .i64 no)) (k1 : wc.cell? ⟨b, 1, none⟩ = some (.slice a m c)) (hm : m ≤ 100000) {J : Act → World → Prop} {Q' : Exit → Act → World → Prop}
  (hK : ∀ (v5 v8 v9 v10 v11 v12 v13 v14 v15 v16 v17 v18 v19 v20 v21 v22 v23 v24 : Value) (wx : World), (∃ N P C, v5 = .pointer (some ⟨N, 0, none⟩) ∧ TlL wc wx N P C m no ps 0 0 [] []) → J ⟨#[.pointer (some ⟨b, 0, none⟩), y1, y2, y3, y4, v5, y6, y7, v8, v9, v10, v11, v12, v13, v14, v15, v16, v17, v18, v19, v20, v21, v22, v23, v24, y25, y26, y27, y28, y29, y30, y31, y32, y33, y34, y35, y36, y37, y38, y39, y40, y41, y42, y43, y44, y45, y46, y47, y48, y49, y50, y51, y52, y53, y54, y55, y56, y57], []⟩ wx) :
  Code.wp Tryz.prog (Go.Code.region 1 #[{ dst := some 8, op := Go.Op.move (Go.Operand.tmp 0), type := 118, pos := "leaf.go:101", after := #[], guard := none }, { dst := some 9, op := Go.Op.nilCheck (Go.Operand.tmp 8), type := 0, pos := "leaf.go:101", after := #[{ on := 0, ground := Go.Ground.data }], guard := none }, { dst := some 10, op := Go.Op.fieldAddr 120 (Go.Operand.tmp 9) 0, type := 0, pos := "leaf.go:101", after := #[{ on := 1, ground := Go.Ground.data }], guard := none }, { dst := some 11, op := Go.Op.load 3 (Go.Operand.tmp 10), type := 3, pos := "leaf.go:101", after := #[{ on := 2, ground := Go.Ground.data }], guard := none }, { dst := some 12, op := Go.Op.move (Go.Operand.tmp 0), type := 118, pos := "leaf.go:101", after := #[], guard := none }, { dst := some 13, op := Go.Op.nilCheck (Go.Operand.tmp 12), type := 0, pos := "leaf.go:101", after := #[{ on := 4, ground := Go.Ground.data }], guard := none }, { dst := some 14, op := Go.Op.fieldAddr 120 (Go.Operand.tmp 13) 1, type := 0, pos := "leaf.go:101", after := #[{ on := 5, ground := Go.Ground.data }], guard := none }, { dst := some 15, op := Go.Op.load 109 (Go.Operand.tmp 14), type := 109, pos := "leaf.go:101", after := #[{ on := 6, ground := Go.Ground.data }], guard := none }, { dst := some 16, op := Go.Op.call { callee := Go.Callee.builtin Go.Builtin.len, args := #[Go.Operand.tmp 15], argTypes := #[109] }, type := 3, pos := "leaf.go:101", after := #[{ on := 7, ground := Go.Ground.data }], guard := none }, { dst := some 17, op := Go.Op.makeSlice 27 (Go.Operand.tmp 16) (Go.Operand.tmp 16), type := 27, pos := "leaf.go:101", after := #[{ on := 8, ground := Go.Ground.data }, { on := 8, ground := Go.Ground.data }], guard := none }, { dst := some 18, op := Go.Op.move (Go.Operand.tmp 0), type := 118, pos := "leaf.go:101", after := #[], guard := none }, { dst := some 19, op := Go.Op.nilCheck (Go.Operand.tmp 18), type := 0, pos := "leaf.go:101", after := #[{ on := 10, ground := Go.Ground.data }], guard := none }, { dst := some 20, op := Go.Op.fieldAddr 120 (Go.Operand.tmp 19) 1, type := 0, pos := "leaf.go:101", after := #[{ on := 11, ground := Go.Ground.data }], guard := none }, { dst := some 21, op := Go.Op.load 109 (Go.Operand.tmp 20), type := 109, pos := "leaf.go:101", after := #[{ on := 12, ground := Go.Ground.data }], guard := none }, { dst := some 22, op := Go.Op.call { callee := Go.Callee.builtin Go.Builtin.len, args := #[Go.Operand.tmp 21], argTypes := #[109] }, type := 3, pos := "leaf.go:101", after := #[{ on := 13, ground := Go.Ground.data }], guard := none }, { dst := some 23, op := Go.Op.makeSlice 50 (Go.Operand.tmp 22) (Go.Operand.tmp 22), type := 50, pos := "leaf.go:101", after := #[{ on := 14, ground := Go.Ground.data }, { on := 14, ground := Go.Ground.data }], guard := none }, { dst := some 24, op := Go.Op.build 54 #[(0, Go.Operand.tmp 11), (2, Go.Operand.tmp 17), (3, Go.Operand.tmp 23)], type := 54, pos := "leaf.go:101", after := #[{ on := 3, ground := Go.Ground.data }, { on := 9, ground := Go.Ground.data }, { on := 15, ground := Go.Ground.data }], guard := none }, { dst := some 5, op := Go.Op.alloc 54, type := 0, pos := "leaf.go:101", after := #[], guard := none }, { dst := none, op := Go.Op.store 54 (Go.Operand.tmp 5) (Go.Operand.tmp 24), type := 0, pos := "leaf.go:101", after := #[{ on := 17, ground := Go.Ground.data }, { on := 16, ground := Go.Ground.data }, { on := 0, ground := Go.Ground.phase }, { on := 1, ground := Go.Ground.phase }, { on := 2, ground := Go.Ground.phase }, { on := 3, ground := Go.Ground.phase }, { on := 4, ground := Go.Ground.phase }, { on := 5, ground := Go.Ground.phase }, { on := 6, ground := Go.Ground.phase }, { on := 7, ground := Go.Ground.phase }, { on := 8, ground := Go.Ground.phase }, { on := 9, ground := Go.Ground.phase }, { on := 10, ground := Go.Ground.phase }, { on := 11, ground := Go.Ground.phase }, { on := 12, ground := Go.Ground.phase }, { on := 13, ground := Go.Ground.phase }, { on := 14, ground := Go.Ground.phase }, { on := 15, ground := Go.Ground.phase }, { on := 16, ground := Go.Ground.phase }, { on := 17, ground := Go.Ground.phase }], guard := none }] true) (Exit.then J Q') ⟨#[.pointer (some ⟨b, 0, none⟩), y1, y2, y3, y4, y5, y6, y7, y8, y9, y10, y11, y12, y13, y14, y15, y16, y17, y18, y19, y20, y21, y22, y23, y24, y25, y26, y27, y28, y29, y30, y31, y32, y33, y34, y35, y36, y37, y38, y39, y40, y41, y42, y43, y44, y45, y46, y47, y48, y49, y50, y51, y52, y53, y54, y55, y56, y57], []⟩ wc := by
 have HK := hid_intro hK
 clear hK
 dsimp only
 obtain ⟨ip, hip, hp0, hp1, hp2⟩ := info_parts info_pair10
 obtain ⟨ic, hic, hc0, hc1, hc2⟩ := info_parts info_ints10
 obtain ⟨Mp, hMp⟩ : ∃ Mp, Mp = madeCells (Value.agg #[.slice none 0 0, .slice none 0 0]).cells (m * 2) := ⟨_, rfl⟩
 obtain ⟨Mc, hMc⟩ : ∃ Mc, Mc = madeCells (Value.slice none 0 0).cells (m * 1) := ⟨_, rfl⟩
 have mk1 : ∀ W : World, (Instr.makeSlice 27 (.int .i64 (m : Int)) (.int .i64 (m : Int))).run Tryz.prog W = .ok (.slice (some ⟨W.heap.size, 0, none⟩) m m) (W.alloc (.cells Mp 40)) := fun W => by
  rw [run_make (P := Tryz.prog) W 27 40 ip _ Tryz.underlying27 hip hp0 .i64 .i64 m m (by omega) (Int.le_refl _) (by rw [hp2]; omega) (by omega), hMp, hp1]
  rfl
 have mk2 : ∀ W : World, (Instr.makeSlice 50 (.int .i64 (m : Int)) (.int .i64 (m : Int))).run Tryz.prog W = .ok (.slice (some ⟨W.heap.size, 0, none⟩) m m) (W.alloc (.cells Mc 52)) := fun W => by
  rw [run_make (P := Tryz.prog) W 50 52 ic _ Tryz.underlying50 hic hc0 .i64 .i64 m m (by omega) (Int.le_refl _) (by rw [hc2]; omega) (by omega), hMc, hc1]
  rfl
 have HMp : Hid (Mp.size = m * 2) := by show _ = _; rw [hMp]; exact size_madeCells _ _
 have HMc : Hid (Mc.size = m * 1) := by show _ = _; rw [hMc]; exact size_madeCells _ _
 clear hMp hMc
 have fin : Hid (∀ (wx : World) (P C N' : Nat), wx.heap[N']? = some (.cells (nbx no P C m) 54 (0, 0)) → wx.heap[P]? = some (.cells Mp 40 (0, 0)) → wx.heap[C]? = some (.cells Mc 52 (0, 0)) → wc.grownBy wx none → wc.heap.size ≤ N' → wc.heap.size ≤ P → wc.heap.size ≤ C → TlL wc wx N' P C m no ps 0 0 [] []) := fun wx P C N' h1 h2 h3 hg a1 a2 a3 =>
  ⟨⟨h1, hg, a1, a2, a3⟩, FlT.of_heap h2 HMp.out, rfl, by show PvL wx [] (ps.take 0) _ _; rw [List.take_zero]; exact hg.size, FlT.of_heap h3 HMc.out, rfl, by rw [List.take_zero]; exact ElyT.nil⟩
 refine wp_region_noPanic ?_
 go_region_held3 (fun w' => w'.cell? ⟨b, 0, none⟩ = some (.int .i64 no) ∧ w'.cell? ⟨b, 1, none⟩ = some (.slice a m c)) (first | (with_reducible exact ⟨k0, k1⟩) | ((with_reducible refine And.intro (keep1 k0 ?_) (keep1 k1 ?_)) <;> (repeat' first | (with_reducible exact World.grownBy.refl _ _) | (with_reducible apply grown_dw) | (with_reducible apply grown_al)); done) | go_keep) (fail)
 all_goals
  refine NoPanic.normal ?_
  refine HK.out _ _ _ _ _ _ _ _ _ _ _ _ _ _ _ _ _ _ _ ?_
  refine ⟨_, _, _, rfl, fin.out _ _ _ _ (by first | exact al3_0 _ _ _ _ | exact al3_1 _ _ _ _ | exact al3_2 _ _ _ _) (by first | exact al3_0 _ _ _ _ | exact al3_1 _ _ _ _ | exact al3_2 _ _ _ _) (by first | exact al3_0 _ _ _ _ | exact al3_1 _ _ _ _ | exact al3_2 _ _ _ _) (al3_g _ _ _ _) (by omega) (by omega) (by omega)⟩
set_option maxHeartbeats 16000000 in
set_option maxRecDepth 100000 in
theorem ltell5 {y0 y1 y2 y3 y4 y8 y9 y10 y11 y12 y13 y14 y15 y16 y17 y18 y19 y20 y21 y22 y23 y24 y25 y26 y27 y28 y29 y30 y31 y32 y33 y34 y35 y36 y37 y38 y39 y40 y41 y42 y43 y44 y45 y46 y47 y48 y49 y50 y51 y52 y53 y54 y55 y56 y57 : Value} {w0 wc : World} {N P C m k D : Nat} {no : Int} {ps : List PrT} {es cs : List (List Value)} {p : PrT} {ka va : Option Addr} {kn kc vn vc : Nat} {ca : Option Addr} {cn cc : Nat} (HT : Hid (TlL w0 wc N P C m no ps k k es cs)) (hkm : k < m) (hx : ps[k]? = some p) (HI : Hid (IpxT wc ka kn kc va vn vc ca cn cc p)) (d0 : wc.cell? ⟨D, 0, none⟩ = some (.slice ka kn kc)) (d1 : wc.cell? ⟨D, 1, none⟩ = some (.slice va vn vc)) (hk9 : kn ≤ 1000000) (hv9 : vn ≤ 1000000) (hD : TgT wc D 108) {J : Act → World → Prop} {Q' : Exit → Act → World → Prop}
  (hK : ∀ (v35 v36 v37 v38 v39 v40 v41 v42 v43 v44 v45 : Value) (wx : World), (∃ e, TlL w0 wx N P C m no ps (k + 1) k (es ++ [e]) cs ∧ wc.grownBy wx (some P)) → J ⟨#[y0, y1, y2, y3, y4, .pointer (some ⟨N, 0, none⟩), .int .i64 (k : Int), .pointer (some ⟨D, 0, none⟩), y8, y9, y10, y11, y12, y13, y14, y15, y16, y17, y18, y19, y20, y21, y22, y23, y24, y25, y26, y27, y28, y29, y30, y31, y32, y33, y34, v35, v36, v37, v38, v39, v40, v41, v42, v43, v44, v45, y46, y47, y48, y49, y50, y51, y52, y53, y54, y55, y56, y57], []⟩ wx) :
  Code.wp Tryz.prog (Go.Code.region 5 #[{ dst := some 35, op := Go.Op.fieldAddr 54 (Go.Operand.tmp 5) 2, type := 0, pos := "leaf.go:103", after := #[], guard := none }, { dst := some 36, op := Go.Op.load 27 (Go.Operand.tmp 35), type := 27, pos := "leaf.go:103", after := #[{ on := 0, ground := Go.Ground.data }], guard := none }, { dst := some 37, op := Go.Op.move (Go.Operand.tmp 6), type := 3, pos := "leaf.go:103", after := #[], guard := none }, { dst := some 38, op := Go.Op.fieldAddr 108 (Go.Operand.tmp 7) 0, type := 0, pos := "leaf.go:103", after := #[], guard := none }, { dst := some 39, op := Go.Op.load 30 (Go.Operand.tmp 38), type := 30, pos := "leaf.go:103", after := #[{ on := 3, ground := Go.Ground.data }], guard := none }, { dst := some 40, op := Go.Op.call { callee := Go.Callee.value (Go.Operand.func 38), args := #[Go.Operand.tmp 39], argTypes := #[30] }, type := 30, pos := "leaf.go:103", after := #[{ on := 4, ground := Go.Ground.data }], guard := none }, { dst := some 41, op := Go.Op.fieldAddr 108 (Go.Operand.tmp 7) 1, type := 0, pos := "leaf.go:103", after := #[], guard := none }, { dst := some 42, op := Go.Op.load 30 (Go.Operand.tmp 41), type := 30, pos := "leaf.go:103", after := #[{ on := 6, ground := Go.Ground.data }], guard := none }, { dst := some 43, op := Go.Op.call { callee := Go.Callee.value (Go.Operand.func 38), args := #[Go.Operand.tmp 42], argTypes := #[30] }, type := 30, pos := "leaf.go:103", after := #[{ on := 7, ground := Go.Ground.data }, { on := 5, ground := Go.Ground.chain }], guard := none }, { dst := some 44, op := Go.Op.build 40 #[(0, Go.Operand.tmp 40), (1, Go.Operand.tmp 43)], type := 40, pos := "leaf.go:103", after := #[{ on := 5, ground := Go.Ground.data }, { on := 8, ground := Go.Ground.data }], guard := none }, { dst := some 45, op := Go.Op.indexAddr 27 (Go.Operand.tmp 36) (Go.Operand.tmp 37), type := 0, pos := "leaf.go:103", after := #[{ on := 1, ground := Go.Ground.data }, { on := 2, ground := Go.Ground.data }, { on := 0, ground := Go.Ground.phase }, { on := 1, ground := Go.Ground.phase }, { on := 2, ground := Go.Ground.phase }, { on := 3, ground := Go.Ground.phase }, { on := 4, ground := Go.Ground.phase }, { on := 5, ground := Go.Ground.phase }, { on := 6, ground := Go.Ground.phase }, { on := 7, ground := Go.Ground.phase }, { on := 8, ground := Go.Ground.phase }, { on := 9, ground := Go.Ground.phase }], guard := none }, { dst := none, op := Go.Op.store 40 (Go.Operand.tmp 45) (Go.Operand.tmp 44), type := 0, pos := "leaf.go:103", after := #[{ on := 10, ground := Go.Ground.data }, { on := 9, ground := Go.Ground.data }, { on := 8, ground := Go.Ground.chain }, { on := 0, ground := Go.Ground.phase }, { on := 1, ground := Go.Ground.phase }, { on := 2, ground := Go.Ground.phase }, { on := 3, ground := Go.Ground.phase }, { on := 4, ground := Go.Ground.phase }, { on := 5, ground := Go.Ground.phase }, { on := 6, ground := Go.Ground.phase }, { on := 7, ground := Go.Ground.phase }, { on := 8, ground := Go.Ground.phase }, { on := 9, ground := Go.Ground.phase }], guard := none }] true) (Exit.then J Q') ⟨#[y0, y1, y2, y3, y4, .pointer (some ⟨N, 0, none⟩), .int .i64 (k : Int), .pointer (some ⟨D, 0, none⟩), y8, y9, y10, y11, y12, y13, y14, y15, y16, y17, y18, y19, y20, y21, y22, y23, y24, y25, y26, y27, y28, y29, y30, y31, y32, y33, y34, y35, y36, y37, y38, y39, y40, y41, y42, y43, y44, y45, y46, y47, y48, y49, y50, y51, y52, y53, y54, y55, y56, y57], []⟩ wc := by
 have HK := hid_intro hK
 clear hK
 dsimp only
 have c2 := HT.out.b.cell 2
 have hl1 := HI.out.k.b.len
 have hl2 := HI.out.v.b.len
 have hfp := HT.out.fp
 have nN : N ≠ P := tg_ne HT.out.b.tN HT.out.fp.tg (by decide)
 have nD : D ≠ P := tg_ne hD HT.out.fp.tg (by decide)
 have hel := HT.out.el
 have i0 : (0 : Int) ≤ (k : Int) := by omega
 have i1 : (k : Int) < (m : Int) := by omega
 have g2 : wc.cell? ⟨N, 2, none⟩ = some (.slice (some ⟨P, 0, none⟩) m m) := c2
 clear c2
 refine wp_region_noPanic ?_
 go_region_held3 (fun w' => w'.cell? ⟨N, 2, none⟩ = some (.slice (some ⟨P, 0, none⟩) m m) ∧ w'.cell? ⟨D, 0, none⟩ = some (.slice ka kn kc) ∧ w'.cell? ⟨D, 1, none⟩ = some (.slice va vn vc)) (first | exact ⟨g2, d0, d1⟩ | exact T5.out | exact T6.out | exact ⟨cell_set2 T6.out.1 nN, cell_set2 T6.out.2.1 nD, cell_set2 T6.out.2.2 nD⟩ | go_keep)
  (first
   | (go_at_call_of 38 (Value.slice ka kn kc); refine (clone_own ka kn kc p.key _ (HI.out.k.b.keptN ((Qt.refl wc).drew.grown none)) (by omega)).mono ?_; rintro en w5 ⟨a5, c5, rfl, ho5, hg5⟩; have G5 := hid_intro (grown_trans ((Qt.refl wc).drew.grown none) hg5); have O5 := hid_intro ho5; have T5 := hid_intro (show w5.cell? ⟨N, 2, none⟩ = some (.slice (some ⟨P, 0, none⟩) m m) ∧ w5.cell? ⟨D, 0, none⟩ = some (.slice ka kn kc) ∧ w5.cell? ⟨D, 1, none⟩ = some (.slice va vn vc) from ⟨G5.out.cell g2 (by simp), G5.out.cell d0 (by simp), G5.out.cell d1 (by simp)⟩); clear hg5 ho5)
   | (go_at_call_of 38 (Value.slice va vn vc); refine (clone_own va vn vc p.val _ (HI.out.v.b.keptN G5.out) (by omega)).mono ?_; rintro en w6 ⟨a6, c6, rfl, ho6, hg6⟩; have G6 := hid_intro (grown_trans G5.out hg6); have O6 := hid_intro ho6; have O56 := hid_intro (own_keptF O5.out (by decide) (FrT.of hg6)); have T6 := hid_intro (show w6.cell? ⟨N, 2, none⟩ = some (.slice (some ⟨P, 0, none⟩) m m) ∧ w6.cell? ⟨D, 0, none⟩ = some (.slice ka kn kc) ∧ w6.cell? ⟨D, 1, none⟩ = some (.slice va vn vc) from ⟨G6.out.cell g2 (by simp), G6.out.cell d0 (by simp), G6.out.cell d1 (by simp)⟩); obtain ⟨⟨q0, f0⟩, z0⟩ := (hfp.keptN G6.out).cell (j := k * 2) (by omega); obtain ⟨⟨q1, f1⟩, z1⟩ := (hfp.keptN G6.out).cell (j := k * 2 + 1) (by omega); have S6 := hid_intro hg6.size; clear hg6 ho6))
 all_goals
  refine NoPanic.normal ?_
  go_wp2_with fail
  have hz := G5.out.size
  have hkq : ∀ g, (Value.slice a5 kn c5).ownBlock = some g → g < w5.heap.size := fun g e => (own_lt10 O5.out e).2.1
  have RS := HT.out.pair hkm hx G6.out (kv := .slice a5 kn c5) (vv := .slice a6 vn c6) (by rw [hl1]; exact O56.out) hz S6.out hkq (by rw [hl2]; exact O6.out) rfl rfl
  refine HK.out _ _ _ _ _ _ _ _ _ _ _ _ ?_
  exact ⟨_, RS.1, grown_trans (grown_any G6.out) RS.2⟩
set_option maxHeartbeats 16000000 in
set_option maxRecDepth 100000 in
theorem ltell6 {y0 y1 y2 y3 y4 y8 y9 y10 y11 y12 y13 y14 y15 y16 y17 y18 y19 y20 y21 y22 y23 y24 y25 y26 y27 y28 y29 y30 y31 y32 y33 y34 y35 y36 y37 y38 y39 y40 y41 y42 y43 y44 y45 y46 y47 y48 y49 y50 y51 y52 y53 y54 y55 y56 y57 : Value} {w0 wc : World} {N P C m k D : Nat} {no : Int} {ps : List PrT} {es cs : List (List Value)} {p : PrT} {ca : Option Addr} {cn cc : Nat} (HT : Hid (TlL w0 wc N P C m no ps (k + 1) k es cs)) (hkm : k < m) (hx : ps[k]? = some p) (HC : Hid (NmT wc ca cn cc p.chain)) (d2 : wc.cell? ⟨D, 2, none⟩ = some (.slice ca cn cc)) (hc9 : cn ≤ 1000000) (hD : TgT wc D 108) {J : Act → World → Prop} {Q' : Exit → Act → World → Prop}
  (hK : ∀ (v46 v47 v48 v49 v50 v51 v52 : Value) (wx : World), (∃ e, TlL w0 wx N P C m no ps (k + 1) (k + 1) es (cs ++ [e]) ∧ wc.grownBy wx (some C)) → J ⟨#[y0, y1, y2, y3, y4, .pointer (some ⟨N, 0, none⟩), .int .i64 (k : Int), .pointer (some ⟨D, 0, none⟩), y8, y9, y10, y11, y12, y13, y14, y15, y16, y17, y18, y19, y20, y21, y22, y23, y24, y25, y26, y27, y28, y29, y30, y31, y32, y33, y34, y35, y36, y37, y38, y39, y40, y41, y42, y43, y44, y45, v46, v47, v48, v49, v50, v51, v52, y53, y54, y55, y56, y57], []⟩ wx) :
  Code.wp Tryz.prog (Go.Code.region 6 #[{ dst := some 46, op := Go.Op.fieldAddr 54 (Go.Operand.tmp 5) 3, type := 0, pos := "leaf.go:104", after := #[], guard := none }, { dst := some 47, op := Go.Op.load 50 (Go.Operand.tmp 46), type := 50, pos := "leaf.go:104", after := #[{ on := 0, ground := Go.Ground.data }], guard := none }, { dst := some 48, op := Go.Op.move (Go.Operand.tmp 6), type := 3, pos := "leaf.go:104", after := #[], guard := none }, { dst := some 49, op := Go.Op.fieldAddr 108 (Go.Operand.tmp 7) 2, type := 0, pos := "leaf.go:104", after := #[], guard := none }, { dst := some 50, op := Go.Op.load 52 (Go.Operand.tmp 49), type := 52, pos := "leaf.go:104", after := #[{ on := 3, ground := Go.Ground.data }], guard := none }, { dst := some 51, op := Go.Op.call { callee := Go.Callee.value (Go.Operand.func 154), args := #[Go.Operand.tmp 50], argTypes := #[52] }, type := 52, pos := "leaf.go:104", after := #[{ on := 4, ground := Go.Ground.data }], guard := none }, { dst := some 52, op := Go.Op.indexAddr 50 (Go.Operand.tmp 47) (Go.Operand.tmp 48), type := 0, pos := "leaf.go:104", after := #[{ on := 1, ground := Go.Ground.data }, { on := 2, ground := Go.Ground.data }, { on := 0, ground := Go.Ground.phase }, { on := 1, ground := Go.Ground.phase }, { on := 2, ground := Go.Ground.phase }, { on := 3, ground := Go.Ground.phase }, { on := 4, ground := Go.Ground.phase }, { on := 5, ground := Go.Ground.phase }], guard := none }, { dst := none, op := Go.Op.store 52 (Go.Operand.tmp 52) (Go.Operand.tmp 51), type := 0, pos := "leaf.go:104", after := #[{ on := 6, ground := Go.Ground.data }, { on := 5, ground := Go.Ground.data }, { on := 5, ground := Go.Ground.chain }, { on := 0, ground := Go.Ground.phase }, { on := 1, ground := Go.Ground.phase }, { on := 2, ground := Go.Ground.phase }, { on := 3, ground := Go.Ground.phase }, { on := 4, ground := Go.Ground.phase }, { on := 5, ground := Go.Ground.phase }], guard := none }] true) (Exit.then J Q') ⟨#[y0, y1, y2, y3, y4, .pointer (some ⟨N, 0, none⟩), .int .i64 (k : Int), .pointer (some ⟨D, 0, none⟩), y8, y9, y10, y11, y12, y13, y14, y15, y16, y17, y18, y19, y20, y21, y22, y23, y24, y25, y26, y27, y28, y29, y30, y31, y32, y33, y34, y35, y36, y37, y38, y39, y40, y41, y42, y43, y44, y45, y46, y47, y48, y49, y50, y51, y52, y53, y54, y55, y56, y57], []⟩ wc := by
 have HK := hid_intro hK
 clear hK
 dsimp only
 have c3 := HT.out.b.cell 3
 have hln : p.chain.length = cn := by have := HC.out.len; simpa using this
 have hfc := HT.out.fc
 have nN : N ≠ C := tg_ne HT.out.b.tN HT.out.fc.tg (by decide)
 have nD : D ≠ C := tg_ne hD HT.out.fc.tg (by decide)
 have hcl := HT.out.cl
 have i0 : (0 : Int) ≤ (k : Int) := by omega
 have i1 : (k : Int) < (m : Int) := by omega
 have g3 : wc.cell? ⟨N, 3, none⟩ = some (.slice (some ⟨C, 0, none⟩) m m) := c3
 clear c3
 refine wp_region_noPanic ?_
 go_region_held3 (fun w' => w'.cell? ⟨N, 3, none⟩ = some (.slice (some ⟨C, 0, none⟩) m m) ∧ w'.cell? ⟨D, 2, none⟩ = some (.slice ca cn cc)) (first | exact ⟨g3, d2⟩ | exact T6.out | exact ⟨cell_set1 T6.out.1 nN, cell_set1 T6.out.2 nD⟩ | go_keep)
  (first | (go_at_call 154; refine (iclone_any ca cn cc p.chain _ (EsT.kept HC.out (by decide) (FrT.of ((Qt.refl wc).drew.grown none))) (by omega)).mono ?_; rintro en w6 ⟨a6, c6, rfl, ho6, hg6, ha6⟩; have A6 : Hid (∀ ad, a6 = some ad → w0.heap.size ≤ ad.block) := fun ad e => Nat.le_trans HT.out.b.gr.size (ha6 ad e); have G6 := hid_intro (grown_trans ((Qt.refl wc).drew.grown none) hg6); have O6 := hid_intro ho6; have T6 := hid_intro (show w6.cell? ⟨N, 3, none⟩ = some (.slice (some ⟨C, 0, none⟩) m m) ∧ w6.cell? ⟨D, 2, none⟩ = some (.slice ca cn cc) from ⟨G6.out.cell g3 (by simp), G6.out.cell d2 (by simp)⟩); obtain ⟨⟨q0, f0⟩, z0⟩ := (hfc.keptN G6.out).cell (j := k) (by omega); clear hg6 ho6 ha6))
 all_goals
  refine NoPanic.normal ?_
  go_wp2_with fail
  have RS := HT.out.chain hkm hx G6.out O6.out A6.out
  rw [Nat.mul_one] at RS
  refine HK.out _ _ _ _ _ _ _ _ ?_
  exact ⟨_, RS.1, grown_trans (grown_any G6.out) RS.2⟩
def TidyC (n : Nat) : Prop := ∀ (r : RwT (NdT n)) (fr tq : Int) (i0 cnt : Nat), (if (0 : Int) > fr then (0 : Int) else fr) = (i0 : Int) → cnt = (tq + 1 - (i0 : Int)).toNat → (-100000 ≤ tq ∧ tq ≤ 100000) → (-100000 ≤ fr ∧ fr ≤ 100000) → RokT n r → ∀ (a : Option Addr) (m c : Nat) (sa : Option Addr) (sm sc : Nat) (w : World), RowT n w a m c sa sm sc r → m ≤ 5000 →
  Calls Tryz.prog 168 #[.agg #[.slice a m c, .slice sa sm sc], .int .i64 fr, .int .i64 tq] w fun en w' => (∃ a m c sa sm sc, en = .returned (.agg #[.slice a m c, .slice sa sm sc]) ∧ RowT n w' a m c sa sm sc (tidyT (joinsT n) (joinedT n) cnt r i0)) ∧ w.grownBy w' none
def BoxR (n : Nat) (w : World) (r : RwT (NdT n)) (s8 : Value) (wx : World) : Prop := ∃ G a m c sa sm sc, s8 = .pointer (some ⟨G, 0, none⟩) ∧ wx.heap[G]? = some (.cells #[.slice a m c, .slice sa sm sc] 77 (0, 0)) ∧ RowT n wx a m c sa sm sc r ∧ w.grownBy wx none
theorem box_put {n : Nat} {w w6 : World} {A : Nat} {a : Option Addr} {m c : Nat} {sa : Option Addr} {sm sc : Nat} {r : RwT (NdT n)} (hb : BxT w6 A) (h : RowT n w6 a m c sa sm sc r) (hg : w.grownBy w6 none) (hA : w.heap.size ≤ A) : BoxR n w r (.pointer (some ⟨A, 0, none⟩)) ((w6.setCell ⟨A, 0, none⟩ (.slice a m c)).setCell ⟨A, 1, none⟩ (.slice sa sm sc)) := by
 obtain ⟨k1, k2, k3⟩ := hb.put (.slice a m c) (.slice sa sm sc)
 exact ⟨A, a, m, c, sa, sm, sc, rfl, k1, h.kept k2, grown_new hg k3 hA⟩
end Go.Proofs.YtepcgckapoljpaaGreat
