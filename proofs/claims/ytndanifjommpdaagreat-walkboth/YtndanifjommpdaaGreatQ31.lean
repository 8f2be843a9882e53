import Derived.Test.YtndanifjommpdaaGreatQ24
import Derived.Test.YtndanifjommpdaaGreatQ28
import Derived.Deep.QuietTactic
import Derived.Laws.ResultCell
namespace Go.Proofs.YtndanifjommpdaaGreat
open Go.RowKit
theorem size_pair10 : (Tryz.prog.info? 35).map (fun i => i.size) = some 2 := by kernel_rfl
theorem results_pair_tmp {fn : Func} {p u : Tmp} (h : fn.results = #[.cell p 35, .tmp u]) (tmps : Array Value) (w : World) (g : Nat) (x y : Value) (hp : tmps.getD p undef = .pointer (some ⟨g, 0, none⟩)) (hr : w.heap[g]? = some (.cells #[x, y] 35 (0, 0))) :
  (results fn tmps).run Tryz.prog w = .ok (.tuple #[.agg #[x, y], tmps.getD u undef]) w := by
 have hp' : tmps[p]?.getD undef = .pointer (some ⟨g, 0, none⟩) := by simpa using hp
 simp [results, h, hp', asAddr, run_loadVar_row w g 35 35 #[x, y] (0, 0) _ hr Tryz.underlying35 rfl (by rw [size_pair10]; rfl)]
theorem pair_put {w : World} {g : Nat} {x y : Value} (e : w.heap[g]? = some (.cells #[x, y] 35 (0, 0))) (u v : Value) : ((w.setCell ⟨g, 0, none⟩ u).setCell ⟨g, 1, none⟩ v).heap[g]? = some (.cells #[u, v] 35 (0, 0)) ∧ w.grownBy ((w.setCell ⟨g, 0, none⟩ u).setCell ⟨g, 1, none⟩ v) (some g) := by
 have k1 := heap_setCell_same w g 0 _ _ u e
 have k2 := heap_setCell_same _ g 1 _ _ v k1
 refine ⟨?_, grown_trans (grown_cell w g 0 u) (grown_cell _ g 1 v)⟩
 rw [k2]
 rfl
theorem pv_put {w w' : World} {g lo hi : Nat} {cs : Array Value} {es : List Value} {p : PrT} (h : PvT w lo hi es p) (e : w.heap[g]? = some (.cells cs 35 (0, 0))) (hg : w.grownBy w' (some g)) : PvT w' lo hi es p :=
 h.same fun b _ _ ht => hg.block b (by obtain ⟨_, _, q⟩ := ht; exact (Array.getElem?_eq_some_iff.1 q).1) (fun e2 => tg_ne ht (show TgT w g 35 from ⟨_, _, e⟩) (by decide) (Option.some.inj e2))
set_option maxHeartbeats 8000000 in
set_option maxRecDepth 100000 in
theorem nth_ok (t : Option TrT) (p k : Nat) (pr : PrT) (w : World) (ht : TreeT w p t) (hw : WkT t) (hk : (flatO t)[k]? = some pr) :
  Calls Tryz.prog 20 #[.pointer (some ⟨p, 0, none⟩), .int .i64 (k : Nat)] w fun en w' => ∃ kv vv lo hi, en = .returned (.tuple #[.agg #[kv, vv], .int .i64 0]) ∧ PvT w' lo hi [kv, vv] pr ∧ w.heap.size ≤ lo ∧ hi ≤ w'.heap.size ∧ w.grownBy w' none := by
 have hkl := (List.getElem?_eq_some_iff.1 hk).1
 have hff := hw.ff
 have g1 := World.grownBy_alloc w (.cells #[.slice none 0 0, .slice none 0 0] 35) none
 have x1 := heap_at0 w #[.slice none 0 0, .slice none 0 0] 35
 have LC := hid_intro (fun (W : World) (h : w.grownBy W none) => len_any t p W (ht.kept (FrT.of h)) hw.ok (by omega))
 have PC := hid_intro (fun (W : World) (h : w.grownBy W none) => pairs_any t p W (ht.kept (FrT.of h)) hw.ok hw.ch hw.nn hw.hh hw.ff)
 have G1 := hid_intro g1
 have X1 := hid_intro x1
 have HK := hid_intro hk
 have i0 : ¬ ((k : Int) < 0) := by omega
 have i1 : (k : Int) < ((flatO t).length : Int) := by omega
 clear ht hw g1 x1 hk
 obtain ⟨M, hM⟩ : ∃ M, (flatO t).length = M := ⟨_, rfl⟩
 rw [hM] at LC PC i1
 clear hM
 go_enter Tryz.func20, Tryz.ntmps20
 go_wp2_with fail
 refine (LC.out _ G1.out).mono ?_
 rintro en w2 ⟨rfl, hg2⟩
 have G2 := hid_intro (grown_trans G1.out hg2)
 have X2 := hid_intro (heap_kept X1.out hg2)
 clear hg2
 go_wp2_with fail
 refine (PC.out _ G2.out).mono ?_
 rintro en w3 ⟨v, es, rfl, ho, hpv, hg3⟩
 obtain ⟨a, c, rfl, hpw, _⟩ := pw_of ho hpv
 obtain ⟨e, lo', hi', h1, h2, h3, hpt⟩ := hpw.p.at HK.out
 have hpt' := hpt
 obtain ⟨kv, vv, m, rfl, _, _, h6, h7⟩ := hpt'
 obtain ⟨ka, kc, rfl⟩ := own_shape10 h6.1
 obtain ⟨va, vc, rfl⟩ := own_shape10 h7.1
 obtain ⟨b, off, rfl, _, q⟩ := hpw.e.cell k _ h1
 have c0 : w3.cell? ⟨b, off + k * 2, none⟩ = some (.slice ka pr.key.length kc) := q 0 _ rfl
 have c1 : w3.cell? ⟨b, off + k * 2 + 1, none⟩ = some (.slice va pr.val.length vc) := q 1 _ rfl
 have x3 := heap_kept X2.out hg3
 have d0 := cell_heap (i := 0) x3 rfl
 have d1 := cell_heap (i := 1) x3 rfl
 have z0 := frozen_of_row w3 w.heap.size 0 _ _ x3
 have z1 := frozen_of_row w3 w.heap.size 1 _ _ x3
 have HPT := hid_intro hpt
 have X3 := hid_intro x3
 have G3 := hid_intro (grown_trans G2.out hg3)
 have hz2 := G2.out.size
 have j0 : (0 : Int) ≤ (k : Int) := by omega
 clear ho hpv hg3 hpw h1 hpt h6 h7 q x3 LC PC
 generalize pr.key.length = kl at *
 generalize pr.val.length = vl at *
 go_wp2_with fail
 obtain ⟨y1, y2⟩ := pair_put X3.out (.slice ka kl kc) (.slice va vl vc)
 refine bodyPost_ret (results_pair_tmp rfl _ _ w.heap.size _ _ rfl y1) rfl ?_
 exact ⟨_, _, lo', hi', rfl, pv_put HPT.out X3.out y2, by omega, by simp; omega, grown_new G3.out y2 (Nat.le_refl _)⟩
set_option maxHeartbeats 8000000 in
set_option maxRecDepth 100000 in
theorem nth_no (t : Option TrT) (p : Nat) (i : Int) (w : World) (ht : TreeT w p t) (hw : WkT t) (hi : i < 0 ∨ ((flatO t).length : Int) ≤ i) :
  Calls Tryz.prog 20 #[.pointer (some ⟨p, 0, none⟩), .int .i64 i] w fun en w' => en = .returned (.tuple #[.agg #[.slice none 0 0, .slice none 0 0], .int .i64 110]) ∧ w.grownBy w' none := by
 have hff := hw.ff
 have g1 := World.grownBy_alloc w (.cells #[.slice none 0 0, .slice none 0 0] 35) none
 have x1 := heap_at0 w #[.slice none 0 0, .slice none 0 0] 35
 have LC := hid_intro (fun (W : World) (h : w.grownBy W none) => len_any t p W (ht.kept (FrT.of h)) hw.ok (by omega))
 have G1 := hid_intro g1
 have X1 := hid_intro x1
 clear ht hw g1
 obtain ⟨M, hM⟩ : ∃ M, (flatO t).length = M := ⟨_, rfl⟩
 rw [hM] at LC hi
 clear hM
 go_enter Tryz.func20, Tryz.ntmps20
 by_cases h0 : i < 0
 ·have d0 := cell_heap (i := 0) x1 rfl
  have d1 := cell_heap (i := 1) x1 rfl
  have z0 := frozen_of_row _ w.heap.size 0 _ _ x1
  have z1 := frozen_of_row _ w.heap.size 1 _ _ x1
  clear x1
  go_wp2_with fail
  obtain ⟨y1, y2⟩ := pair_put X1.out (.slice none 0 0) (.slice none 0 0)
  refine bodyPost_ret (results_pair_tmp rfl _ _ w.heap.size _ _ rfl (by first | exact y1 | exact X1.out)) rfl ?_
  exact ⟨rfl, by first | exact grown_new G1.out y2 (Nat.le_refl _) | exact G1.out⟩
 ·have i1 : (M : Int) ≤ i := by omega
  clear x1 hi
  go_wp2_with fail
  refine (LC.out _ G1.out).mono ?_
  rintro en w2 ⟨rfl, hg2⟩
  have x2 := heap_kept X1.out hg2
  have X2 := hid_intro x2
  have G2 := hid_intro (grown_trans G1.out hg2)
  have d0 := cell_heap (i := 0) x2 rfl
  have d1 := cell_heap (i := 1) x2 rfl
  have z0 := frozen_of_row w2 w.heap.size 0 _ _ x2
  have z1 := frozen_of_row w2 w.heap.size 1 _ _ x2
  clear hg2 x2
  go_wp2_with fail
  obtain ⟨y1, y2⟩ := pair_put X2.out (.slice none 0 0) (.slice none 0 0)
  refine bodyPost_ret (results_pair_tmp rfl _ _ w.heap.size _ _ rfl (by first | exact y1 | exact X2.out)) rfl ?_
  exact ⟨rfl, by first | exact grown_new G2.out y2 (Nat.le_refl _) | exact G2.out⟩
end Go.Proofs.YtndanifjommpdaaGreat
