import Derived.Test.YtndanifjommpdaaGreatQ31
import Derived.Test.YtndanifjommpdaaGreatQ30
import Derived.Test.YtndanifjommpdaaGreatQ10
import Derived.Test.YtndanifjommpdaaGreatQ8
import Derived.Test.YtndanifjommpdaaGreatQ28
import Derived.Deep.RegionHeld3
import Derived.Deep.QuietTactic
import Derived.Deep.CutBlock
import Derived.Deep.DeepCutAuto
import Derived.Deep.CutRange
import Derived.Laws.AppendOwnNone
import Derived.Test.YtndanifjommpdaaGreatQ26
namespace Go.Proofs.YtndanifjommpdaaGreat
open Go.RowKit Go.Shelf
attribute [local go_sem] Oper.semAt_some
def CeF (w W : World) : Prop := ∀ (b : Nat) (cs : Array Value) (t : TypeId) (z : Nat × Nat), w.heap[b]? = some (.cells cs t z) → W.heap[b]? = some (.cells cs t z)
theorem CeF.refl (w : World) : CeF w w := fun _ _ _ _ h => h
theorem CeF.trans {a b c : World} (h : CeF a b) (k : CeF b c) : CeF a c := fun g cs t z e => k g cs t z (h g cs t z e)
theorem CeF.of {w W : World} (h : w.grownBy W none) : CeF w W := fun b _ _ _ e => (h.block b (Array.getElem?_eq_some_iff.1 e).1 (by simp)).trans e
theorem CeF.turn {W W' : World} {row : Option Nat} (hg : W.grownBy W' row) (hr : ∀ r, row = some r → ∃ o : Obj, W.heap[r]? = some o ∧ o.isCells = false) : CeF W W' := fun b cs t z e => (hg.block b (Array.getElem?_eq_some_iff.1 e).1 (fun e2 => by
 obtain ⟨o, h1, h2⟩ := hr b e2.symm
 rw [e] at h1
 rw [← Option.some.inj h1] at h2
 cases h2)).trans e
theorem gr_turn {w A B : World} {row : Option Nat} (h : w.grownBy A none) (hg : A.grownBy B row) (hr : ∀ r, row = some r → w.heap.size ≤ r) : w.grownBy B none := by
 cases row with
 | none => exact grown_trans h hg
 | some r => exact grown_new h hg (hr r rfl)
theorem gr_set {w W : World} (h : w.grownBy W none) {b : Nat} (i : Nat) (v : Value) (hb : w.heap.size ≤ b) : w.grownBy (W.setCell ⟨b, i, none⟩ v) none := grown_new h (grown_cell W b i v) hb
theorem gr_put {w W : World} (h : w.grownBy W none) {D : Nat} (o : Obj) (hb : w.heap.size ≤ D) : w.grownBy (W.putObj D o) none := gr_turn h (grownBy_putObj' W D o) (fun r e => by cases e; exact hb)
theorem CeF.frt {w W : World} (h : CeF w W) : FrT w W := ⟨fun b t cur z _ e => h b cur t z e⟩
theorem px_cef {n0 m : Nat} {x : PgT} {W W' : World} (k : PxP n0 m x W) (h : CeF W W') : PxP n0 m x W' := by
 obtain ⟨lo, hi, h1, h2, h3⟩ := k
 exact ⟨lo, hi, h1, h2, h3.same fun g _ _ ht => tg_same (by decide) h.frt ht⟩
theorem results_pair_cell {fn : Func} {p u : Tmp} (h : fn.results = #[.cell p 35, .cell u 4]) (tmps : Array Value) (w : World) (g g2 : Nat) (x y v : Value) (hp : tmps.getD p undef = .pointer (some ⟨g, 0, none⟩)) (hr : w.heap[g]? = some (.cells #[x, y] 35 (0, 0))) (hu : tmps.getD u undef = .pointer (some ⟨g2, 0, none⟩)) (hc : w.cell? ⟨g2, 0, none⟩ = some v) :
  (results fn tmps).run Tryz.prog w = .ok (.tuple #[.agg #[x, y], v]) w := by
 have hp' : tmps[p]?.getD undef = .pointer (some ⟨g, 0, none⟩) := by simpa using hp
 have hu' : tmps[u]?.getD undef = .pointer (some ⟨g2, 0, none⟩) := by simpa using hu
 have d0 := cell_heap (i := 0) hr rfl
 have d1 := cell_heap (i := 1) hr rfl
 simp [results, h, hp', hu', asAddr, go_sem, d0, d1, hc]
theorem three_put {W : World} {s : Nat} {x y z : Value} (y1 : W.heap[s]? = some (.cells #[x, y] 35 (0, 0))) (y2 : W.heap[s + 1]? = some (.cells #[z] 4 (0, 0))) (u v : Value) (o : Bool) :
  (((W.setCell ⟨s, 0, none⟩ u).setCell ⟨s, 1, none⟩ v).setCell ⟨s + 1, 0, none⟩ (.bool o)).heap[s]? = some (.cells #[u, v] 35 (0, 0)) ∧ (((W.setCell ⟨s, 0, none⟩ u).setCell ⟨s, 1, none⟩ v).setCell ⟨s + 1, 0, none⟩ (.bool o)).heap[s + 1]? = some (.cells #[.bool o] 4 (0, 0)) ∧
  ∀ b, b ≠ s → b ≠ s + 1 → (((W.setCell ⟨s, 0, none⟩ u).setCell ⟨s, 1, none⟩ v).setCell ⟨s + 1, 0, none⟩ (.bool o)).heap[b]? = W.heap[b]? := by
 obtain ⟨p1, pg⟩ := pair_put y1 u v
 have o2 : ((W.setCell ⟨s, 0, none⟩ u).setCell ⟨s, 1, none⟩ v).heap[s + 1]? = some (.cells #[z] 4 (0, 0)) := (pg.block (s + 1) (Array.getElem?_eq_some_iff.1 y2).1 (fun e => by have := Option.some.inj e; omega)).trans y2
 refine ⟨?_, ?_, fun b h1 h2 => ?_⟩
 ·rw [Below.heap_setCell _ ⟨s + 1, 0, none⟩ _ s (by show s ≠ s + 1; omega)]
  exact p1
 ·rw [heap_setCell_same _ (s + 1) 0 _ _ (.bool o) o2]
  rfl
 ·rw [Below.heap_setCell _ ⟨s + 1, 0, none⟩ _ b (by exact h2), Below.heap_setCell _ ⟨s, 1, none⟩ _ b (by exact h1), Below.heap_setCell _ ⟨s, 0, none⟩ _ b (by exact h1)]
set_option maxHeartbeats 8000000 in
set_option maxRecDepth 100000 in
theorem first_seq {gf : Nat} {lb : Array Value} {S Sp : List PgT → Prop} {N : Nat} {w0 : World} (w : World) (eg : ∀ args w, (callFunc gf args).run Tryz.prog w = .ok (.enter gf args) w) (hseq : SeqW Fence.wide 4 Tryz.prog gf lb encP blkP PxP S Sp N w0) (hb0 : Below w0.heap.size w0 w) :
  Calls Tryz.prog 39 #[.func (.func gf) #[] lb] w fun en w' => w.grownBy w' none ∧ ((S [] ∧ en = .returned (.tuple #[.agg #[.slice none 0 0, .slice none 0 0], .bool false])) ∨ ∃ x n0 m, Sp [x] ∧ en = .returned (.tuple #[.agg #[x.1, x.2.1], .bool true]) ∧ PxP n0 m x w' ∧ w.heap.size ≤ n0) := by
 refine (callsIn_wide (n := 5)).1 ?_
 refine callsIn_of_wp_marks Tryz.func39 rfl trivial ?_ rfl
 simp only [Tryz.ntmps39, List.size_toArray, List.length_cons, List.length_nil, Nat.reduceAdd, Nat.reduceSub, Array.replicate_succ, Array.replicate_zero, List.push_toArray, List.append_toArray, List.nil_append, List.cons_append]
 obtain ⟨W0, hW0⟩ : ∃ W0, (w.alloc (.cells #[.slice none 0 0, .slice none 0 0] 35)).alloc (.cells #[.bool false] 4) = W0 := ⟨_, rfl⟩
 have g0 : w.grownBy W0 none := by rw [← hW0]; exact grown_al (grown_al (World.grownBy.refl _ _) _) _
 have x1 : W0.heap[w.heap.size]? = some (.cells #[.slice none 0 0, .slice none 0 0] 35 (0, 0)) := by rw [← hW0]; exact heap_old (heap_at0 w _ _)
 have x2 : W0.heap[w.heap.size + 1]? = some (.cells #[.bool false] 4 (0, 0)) := by rw [← hW0]; exact heap_at1 w _ _ _
 have hb1 : Below w0.heap.size w0 W0 := by rw [← hW0]; exact hb0.trans ((((Below.refl _ w).alloc (Nat.le_refl _) _).alloc (by simp) _).mono hb0.size)
 have hz0 : W0.heap.size = w.heap.size + 2 := by rw [← hW0]; simp
 gi_wp2
 clear hW0
 generalize hs : w.heap.size = s at *
 refine range_walk (n := 5) rfl (by decide) (gf := gf) (lb := lb) rfl trivial eg hseq px_kept hb1 (fun _ => rfl)
  (fun _ pre W => pre = [] ∧ W.heap[s]? = some (.cells #[.slice none 0 0, .slice none 0 0] 35 (0, 0)) ∧ W.heap[s + 1]? = some (.cells #[.bool false] 4 (0, 0)) ∧ w.grownBy W none)
  (fun cd m pre W => cd = .ret ∧ ∃ x, pre = [x] ∧ W.heap[s]? = some (.cells #[x.1, x.2.1] 35 (0, 0)) ∧ W.heap[s + 1]? = some (.cells #[.bool true] 4 (0, 0)) ∧ w.grownBy W none ∧ PxP (W0.heap.size + 2) m x W)
  (fun m pre A B row h hg hr => ⟨h.1, CeF.turn hg (fun r e => (hr r e).2) _ _ _ _ h.2.1, CeF.turn hg (fun r e => (hr r e).2) _ _ _ _ h.2.2.1, gr_turn h.2.2.2 hg (fun r e => by have := (hr r e).1; omega)⟩)
  (fun cd m pre A B row h hg hr => by
   obtain ⟨h1, x, h2, h3, h4, h5, h6⟩ := h
   exact ⟨h1, x, h2, CeF.turn hg (fun r e => (hr r e).2) _ _ _ _ h3, CeF.turn hg (fun r e => (hr r e).2) _ _ _ _ h4, gr_turn h5 hg (fun r e => by have := (hr r e).1; omega), px_cef h6 (CeF.turn hg (fun r e => (hr r e).2))⟩)
  (fun m W2 hg hm hz => ⟨rfl, CeF.of hg _ _ _ _ x1, CeF.of hg _ _ _ _ x2, grown_trans g0 hg⟩)
  (fun x => { tmps := #[.func (.func gf) #[] lb, undef, .pointer (some ⟨s, 0, none⟩), .pointer (some ⟨s + 1, 0, none⟩), x.1, x.2.1, .func (.func gf) #[] lb, x.1, x.2.1, undef, undef, undef, undef], defers := [] }) ?assign ?body ?done ?stop
 case assign =>
  intro l x W K hK
  simp only [encP]
  gi_wp2
  exact hK
 case body =>
  rintro l m pre ⟨kv, vv, pr⟩ W ⟨rfl, y1, y2, hce⟩ hm hpx _ _
  have d0 := cell_heap (i := 0) y1 rfl
  have d1 := cell_heap (i := 1) y1 rfl
  have d2 := cell_heap (i := 0) y2 rfl
  have z0 := frozen_of_row W s 0 _ _ y1
  have z1 := frozen_of_row W s 1 _ _ y1
  have z2 := frozen_of_row W (s + 1) 0 _ _ y2
  have hpx0 := hpx
  rw [hz0] at hpx0
  obtain ⟨lo, hi, b1, b2, kv', vv', mm, e1, _, _, h6, h7⟩ := hpx
  obtain ⟨ka, kc, e2⟩ := own_shape10 h6.1
  obtain ⟨va, vc, e3⟩ := own_shape10 h7.1
  injection e1 with e4 e5
  injection e5 with e5 _
  have ek : kv = .slice ka pr.key.length kc := e4.trans e2
  have ev : vv = .slice va pr.val.length vc := e5.trans e3
  subst ek ev
  clear h6 h7 e2 e3 e4 e5
  have q := three_put y1 y2 (.slice ka pr.key.length kc) (.slice va pr.val.length vc) true
  gi_wp2
  exact ⟨((KeepsOthers.setCell _ _ _).trans (KeepsOthers.setCell _ _ _)).trans (KeepsOthers.setCell _ _ _), rfl, _, _, _, rfl, q.1, q.2.1, gr_set (gr_set (gr_set hce 0 _ (by omega)) 1 _ (by omega)) 0 _ (by omega), px_kept _ _ _ W _ (fun b h1 _ => q.2.2 b (by omega) (by omega)) hpx0⟩
 case done =>
  rintro D m xs W hD hSx ⟨rfl, y1, y2, hce⟩ hK
  have d0 := cell_heap (i := 0) y1 rfl
  have d1 := cell_heap (i := 1) y1 rfl
  have d2 := cell_heap (i := 0) y2 rfl
  have z0 := frozen_of_row W s 0 _ _ y1
  have z1 := frozen_of_row W s 1 _ _ y1
  have z2 := frozen_of_row W (s + 1) 0 _ _ y2
  have q := three_put y1 y2 (.slice none 0 0) (.slice none 0 0) false
  gi_wp2
  have hK' := (((KeepsOthers.setCell W ⟨s, 0, none⟩ (.slice none 0 0)).trans (KeepsOthers.setCell _ ⟨s, 1, none⟩ (.slice none 0 0))).trans (KeepsOthers.setCell _ ⟨s + 1, 0, none⟩ (.bool false))).same D _ hK rfl
  have ct := CeF.turn (grownBy_putObj' _ D (.deferred none)) (fun r e => by cases e; exact ⟨_, hK', rfl⟩)
  refine ⟨by simp, .inl ⟨_, _, rfl, run_takeDeferred hK', ?_⟩⟩
  refine ⟨_, results_pair_cell rfl _ _ s (s + 1) _ _ _ rfl (ct _ _ _ _ q.1) rfl (cell_heap (ct _ _ _ _ q.2.1) rfl), gr_put (gr_set (gr_set (gr_set hce 0 _ (by omega)) 1 _ (by omega)) 0 _ (by omega)) _ (by omega), .inl ⟨hSx, rfl⟩⟩
 case stop =>
  rintro D m cd pre W hD hSp ⟨rfl, x, rfl, y1, y2, hce, hpx⟩ hK
  have ct := CeF.turn (grownBy_putObj' W D (.deferred none)) (fun r e => by cases e; exact ⟨_, hK, rfl⟩)
  gi_wp2
  refine ⟨by simp, .inl ⟨_, _, rfl, run_takeDeferred hK, ?_⟩⟩
  exact ⟨_, results_pair_cell rfl _ _ s (s + 1) _ _ _ rfl (ct _ _ _ _ y1) rfl (cell_heap (ct _ _ _ _ y2) rfl), gr_put hce _ (by omega), .inr ⟨x, _, m, hSp, rfl, px_cef hpx ct, by omega⟩⟩
end Go.Proofs.YtndanifjommpdaaGreat
namespace Go.Proofs.YtndanifjommpdaaGreat
open Go.RowKit
theorem CeF.cell {w W : World} (h : CeF w W) {a : Addr} {v : Value} (hc : w.cell? a = some v) : W.cell? a = some v := by
 unfold World.cell? at hc ⊢
 cases e : w.heap[a.block]? with
 | none => rw [e] at hc; cases hc
 | some o =>
  rw [e] at hc
  cases o with
  | cells cs t z =>
   rw [h _ _ _ _ e]
   exact hc
  | _ => cases hc
theorem byt_cef {w W : World} (h : CeF w W) {ao : Option Addr} {n c : Nat} {s : List Int} (hb : Byt w ao n c s) : Byt W ao n c s :=
 ⟨hb.len, hb.nil, fun ad e j u hu => h.cell (hb.cells ad e j u hu)⟩
theorem undrewW {x y : World} {r : Option Nat} (h : x.drew.grownBy y r) : x.grownBy y r := ⟨h.os, h.tape, h.output, h.size, h.block⟩
def BpW (w : World) (e : List Value) (p : PrT) : Prop := ∃ ka kc va vc, e = [.slice ka p.key.length kc, .slice va p.val.length vc] ∧ Byt w ka p.key.length kc p.key ∧ Byt w va p.val.length vc p.val
theorem BpW.cef {w W : World} (h : CeF w W) {e : List Value} {p : PrT} (k : BpW w e p) : BpW W e p := by
 obtain ⟨ka, kc, va, vc, h1, h2, h3⟩ := k
 exact ⟨ka, kc, va, vc, h1, byt_cef h h2, byt_cef h h3⟩
theorem pv_bp {w : World} {lo hi : Nat} {e : List Value} {p : PrT} (h : PvT w lo hi e p) : BpW w e p := by
 obtain ⟨kv, vv, mid, rfl, _, _, o1, o2⟩ := h
 obtain ⟨ka, kc, rfl⟩ := own_shape10 o1.1
 obtain ⟨va, vc, rfl⟩ := own_shape10 o2.1
 exact ⟨ka, kc, va, vc, rfl, own_bytT o1.1, own_bytT o2.1⟩
structure PsW (w : World) (es : List (List Value)) (L : List PrT) : Prop where
 len : es.length = L.length
 get : ∀ (i : Nat) (e : List Value) (p : PrT), es[i]? = some e → L[i]? = some p → BpW w e p
theorem PsW.cef {w W : World} (h : CeF w W) {es : List (List Value)} {L : List PrT} (k : PsW w es L) : PsW W es L := ⟨k.len, fun i e p h1 h2 => (k.get i e p h1 h2).cef h⟩
theorem PsW.nil (w : World) : PsW w [] [] := ⟨rfl, fun i e p h _ => by simp at h⟩
theorem PsW.app {w : World} {es fs : List (List Value)} {L M : List PrT} (h : PsW w es L) (k : PsW w fs M) : PsW w (es ++ fs) (L ++ M) := by
 refine ⟨by rw [List.length_append, List.length_append, h.len, k.len], fun i e p h1 h2 => ?_⟩
 have hl := h.len
 by_cases hi : i < es.length
 ·rw [List.getElem?_append_left hi] at h1
  rw [List.getElem?_append_left (by omega)] at h2
  exact h.get i e p h1 h2
 ·rw [List.getElem?_append_right (by omega)] at h1
  rw [List.getElem?_append_right (by omega), ← hl] at h2
  exact k.get _ e p h1 h2
theorem PsW.take {w : World} {es : List (List Value)} {L : List PrT} (h : PsW w es L) (i : Nat) : PsW w (es.take i) (L.take i) := by
 refine ⟨by rw [List.length_take, List.length_take, h.len], fun j e p h1 h2 => ?_⟩
 rw [List.getElem?_take] at h1 h2
 split at h1
 ·rename_i hj
  rw [if_pos hj] at h2
  exact h.get j e p h1 h2
 ·cases h1
theorem PsW.drop {w : World} {es : List (List Value)} {L : List PrT} (h : PsW w es L) (i : Nat) : PsW w (es.drop i) (L.drop i) := by
 refine ⟨by rw [List.length_drop, List.length_drop, h.len], fun j e p h1 h2 => ?_⟩
 rw [List.getElem?_drop] at h1 h2
 exact h.get _ e p h1 h2
theorem PsW.one {w : World} {e : List Value} {p : PrT} (h : BpW w e p) : PsW w [e] [p] := ⟨rfl, fun i e' p' h1 h2 => by
 match i, h1, h2 with
 | 0, h1, h2 => simp at h1 h2; subst h1 h2; exact h
 | i + 1, h1, _ => simp at h1⟩
theorem PsW.sz {w : World} {es : List (List Value)} {L : List PrT} (h : PsW w es L) : ∀ e ∈ es, e.length = 2 := fun e he => by
 obtain ⟨i, hi, rfl⟩ := List.mem_iff_getElem.1 he
 have hl := h.len
 obtain ⟨_, _, _, _, e1, _⟩ := h.get i _ _ (List.getElem?_eq_getElem hi) (List.getElem?_eq_getElem (by omega))
 rw [e1]; rfl
theorem PsW.cells {w : World} {es : List (List Value)} {L : List PrT} (h : PsW w es L) : ∀ e ∈ es, ∀ v ∈ e, v.oneCell' = true := fun e he v hv => by
 obtain ⟨i, hi, rfl⟩ := List.mem_iff_getElem.1 he
 have hl := h.len
 obtain ⟨_, _, _, _, e1, _⟩ := h.get i _ _ (List.getElem?_eq_getElem hi) (List.getElem?_eq_getElem (by omega))
 rw [e1] at hv
 simp only [List.mem_cons, List.not_mem_nil, or_false] at hv
 rcases hv with rfl | rfl <;> rfl
def MpW (w : World) (a : Option Addr) (n c : Nat) (L : List PrT) : Prop := L.length = n ∧ ∃ es, EsT w 35 a n c 2 es ∧ PsW w es L
theorem MpW.cef {w W : World} (h : CeF w W) {a : Option Addr} {n c : Nat} {L : List PrT} (k : MpW w a n c L) : MpW W a n c L := by
 obtain ⟨h0, es, h1, h2⟩ := k
 exact ⟨h0, es, h1.kept (by decide) h.frt, h2.cef h⟩
theorem MpW.of {w : World} {base n : Nat} {v : Value} {es : List (List Value)} {L : List PrT} (h : w.ownsRow base 35 2 v n es.flatten) (k : PsW w es L) (hn : L.length = n) : ∃ a c, v = .slice a n c ∧ MpW w a n c L := by
 obtain ⟨a, c, rfl, he⟩ := EsT.of_owns h (by decide) k.sz k.cells
 exact ⟨a, c, rfl, hn, es, he, k⟩
theorem MpW.nil (w : World) : MpW w none 0 0 [] := ⟨rfl, [], EsT.nul _ _ _, PsW.nil _⟩
theorem MpW.get {w : World} {a : Option Addr} {n c : Nat} {L : List PrT} (h : MpW w a n c L) {i : Nat} {p : PrT} (hp : L[i]? = some p) :
  ∃ b off ka kc va vc, a = some ⟨b, off, none⟩ ∧ w.cell? ⟨b, off + i * 2, none⟩ = some (.slice ka p.key.length kc) ∧ w.cell? ⟨b, off + i * 2 + 1, none⟩ = some (.slice va p.val.length vc) ∧ Byt w ka p.key.length kc p.key ∧ Byt w va p.val.length vc p.val := by
 obtain ⟨h0, es, h1, h2⟩ := h
 have hl := h2.len
 have hi := (List.getElem?_eq_some_iff.1 hp).1
 have he : es[i]? = some (es[i]'(by omega)) := List.getElem?_eq_getElem (by omega)
 obtain ⟨ka, kc, va, vc, e1, e2, e3⟩ := h2.get i _ p he hp
 obtain ⟨b, off, e4, _, e5⟩ := h1.cell i _ he
 rw [e1] at e5
 exact ⟨b, off, ka, kc, va, vc, e4, e5 0 _ rfl, e5 1 _ rfl, e2, e3⟩
theorem size_chg : (Tryz.prog.info? 46).map (fun i => i.size) = some 3 := by kernel_rfl
theorem ret_chg {fn : Func} {p : Tmp} (h : fn.results = #[.cell p 46]) (tmps : Array Value) (w : World) (g : Nat) (x y z : Value) (hp : tmps.getD p undef = .pointer (some ⟨g, 0, none⟩)) (hr : w.heap[g]? = some (.cells #[x, y, z] 46 (0, 0))) :
  (results fn tmps).run Tryz.prog w = .ok (.agg #[x, y, z]) w := by
 have hp' : tmps[p]?.getD undef = .pointer (some ⟨g, 0, none⟩) := by simpa using hp
 simp [results, h, hp', asAddr, run_loadVar_row w g 46 46 #[x, y, z] (0, 0) _ hr Tryz.underlying46 rfl (by rw [size_chg]; rfl)]
theorem chg_put {w : World} {g : Nat} {x y z : Value} (e : w.heap[g]? = some (.cells #[x, y, z] 46 (0, 0))) (u v t : Value) : (((w.setCell ⟨g, 0, none⟩ u).setCell ⟨g, 1, none⟩ v).setCell ⟨g, 2, none⟩ t).heap[g]? = some (.cells #[u, v, t] 46 (0, 0)) ∧ w.grownBy (((w.setCell ⟨g, 0, none⟩ u).setCell ⟨g, 1, none⟩ v).setCell ⟨g, 2, none⟩ t) (some g) := by
 have k1 := heap_setCell_same w g 0 _ _ u e
 have k2 := heap_setCell_same _ g 1 _ _ v k1
 have k3 := heap_setCell_same _ g 2 _ _ t k2
 refine ⟨?_, grown_trans (grown_trans (grown_cell w g 0 u) (grown_cell _ g 1 v)) (grown_cell _ g 2 t)⟩
 rw [k3]
 rfl
def ChgP (w : World) (k v : List Int) (b : Bool) (en : Ending) (w' : World) : Prop := ∃ ao c bo d, en = .returned (.agg #[.slice ao k.length c, .slice bo v.length d, .bool b]) ∧ w.grownBy w' none ∧ Byt w' ao k.length c k ∧ Byt w' bo v.length d v
theorem gc3 {w : World} {U b o : Nat} {v0 v1 v2 v : Value} (hne : b ≠ U) (h : w.cell? ⟨b, o, none⟩ = some v) : (((w.setCell ⟨U, 0, none⟩ v0).setCell ⟨U, 1, none⟩ v1).setCell ⟨U, 2, none⟩ v2).cell? ⟨b, o, none⟩ = some v :=
 cell_set1 (cell_set1 (cell_set1 h hne) hne) hne
set_option maxHeartbeats 4000000 in
set_option maxRecDepth 100000 in
theorem change_any (ao bo : Option Addr) (n c m d : Nat) (k v : List Int) (b : Bool) (w : World) (hk : Byt w ao n c k) (hv : Byt w bo m d v) (hn : n ≤ 100000000) (hm : m ≤ 100000000) :
  Calls Tryz.prog 26 #[.agg #[.slice ao n c, .slice bo m d, .bool b]] w fun en w' => ChgP w k v b en w' := by
 have ga := World.grownBy_alloc w (.cells #[.slice ao n c, .slice bo m d, .bool b] 46) none
 have gb := World.grownBy_alloc (w.alloc (.cells #[.slice ao n c, .slice bo m d, .bool b] 46)) (.cells #[.slice none 0 0, .slice none 0 0, .bool false] 46) none
 have hs1 : (w.alloc (.cells #[.slice ao n c, .slice bo m d, .bool b] 46)).heap.size = w.heap.size + 1 := by simp
 have X1 := hid_intro (heap_kept (heap_alloc_new w (.cells #[.slice ao n c, .slice bo m d, .bool b] 46 (0, 0))) gb)
 have Y1 := hid_intro (heap_alloc_new (w.alloc (.cells #[.slice ao n c, .slice bo m d, .bool b] 46)) (.cells #[.slice none 0 0, .slice none 0 0, .bool false] 46 (0, 0)))
 rw [hs1] at Y1
 have HG := hid_intro (grown_trans ga gb)
 have K1 := hid_intro (hk.keptN (grown_trans ga gb))
 have V1 := hid_intro (hv.keptN (grown_trans ga gb))
 have HKL := hid_intro hk.len
 have HVL := hid_intro hv.len
 have hsz : ((w.alloc (.cells #[.slice ao n c, .slice bo m d, .bool b] 46)).alloc (.cells #[.slice none 0 0, .slice none 0 0, .bool false] 46)).heap.size = w.heap.size + 2 := by simp
 clear ga gb hs1 hk hv
 go_enter Tryz.func26, Tryz.ntmps26
 go_upto_region 1 with fail
 generalize (w.alloc (.cells #[.slice ao n c, .slice bo m d, .bool b] 46)).alloc (.cells #[.slice none 0 0, .slice none 0 0, .bool false] 46) = w1 at *
 obtain ⟨B, hB⟩ : ∃ B, w.heap.size = B := ⟨_, rfl⟩
 have HB := hid_intro hB
 rw [hB] at X1 Y1 hsz ⊢
 obtain ⟨U, hU⟩ : ∃ U, B + 1 = U := ⟨_, rfl⟩
 rw [hU] at Y1 ⊢
 have hBU : B ≠ U := by omega
 have hBU2 : ¬ B = U := by omega
 have HS1 : Hid (w1.heap.size = B + 2) := hsz
 have HU := hid_intro hU
 clear hsz hB hU
 have x0 : w1.cell? ⟨B, 0, none⟩ = some (.slice ao n c) := cell_heap X1.out rfl
 have x1 : w1.cell? ⟨B, 1, none⟩ = some (.slice bo m d) := cell_heap X1.out rfl
 have x2 : w1.cell? ⟨B, 2, none⟩ = some (.bool b) := cell_heap X1.out rfl
 go_region_held3 (fun w' => w'.cell? ⟨B, 0, none⟩ = some (.slice ao n c) ∧ w'.cell? ⟨B, 1, none⟩ = some (.slice bo m d) ∧ w'.cell? ⟨B, 2, none⟩ = some (.bool b)) (first | exact ⟨x0, x1, x2⟩ | exact T2.out | exact T3.out | go_keep | exact ⟨gc3 hBU T3.out.1, gc3 hBU T3.out.2.1, gc3 hBU T3.out.2.2⟩)
  (first
   | (go_at_call_of 29 (Value.slice ao n c); refine (refBytes_any ao n c k w1.drew (K1.out.heap rfl) (by omega)).mono ?_; rintro en w2 ⟨rfl, hown2, hg2, hs2⟩; have O2 := hid_intro hown2; have G2 := hid_intro (undrewW hg2); have T2 := hid_intro (And.intro (G2.out.cell x0 (by simp)) (And.intro (G2.out.cell x1 (by simp)) (G2.out.cell x2 (by simp)))); clear hown2 hg2)
   | (go_at_call_of 29 (Value.slice bo m d); refine (refBytes_any bo m d v w2 (V1.out.keptN G2.out) (by omega)).mono ?_; rintro en w3 ⟨rfl, hown3, hg3, hs3⟩; have O3 := hid_intro hown3; have R3 := hid_intro hg3; have G3 := hid_intro (grown_trans G2.out hg3); have T3 := hid_intro (And.intro (G3.out.cell x0 (by simp)) (And.intro (G3.out.cell x1 (by simp)) (G3.out.cell x2 (by simp)))); have Y3 := hid_intro (heap_kept Y1.out G3.out); have z0 : w3.cell? ⟨U, 0, none⟩ = some (.slice none 0 0) := cell_heap Y3.out rfl; have z1 : w3.cell? ⟨U, 1, none⟩ = some (.slice none 0 0) := cell_heap Y3.out rfl; have z2 : w3.cell? ⟨U, 2, none⟩ = some (.bool false) := cell_heap Y3.out rfl; have f0 : w3.frozen? ⟨U, 0, none⟩ = false := frozen_of_row w3 U 0 _ _ Y3.out; have f1 : w3.frozen? ⟨U, 1, none⟩ = false := frozen_of_row w3 U 1 _ _ Y3.out; have f2 : w3.frozen? ⟨U, 2, none⟩ = false := frozen_of_row w3 U 2 _ _ Y3.out; clear hown3 hg3)
   | fail)
 have hlen1 := HKL.out
 have hlen2 := HVL.out
 subst hlen1
 subst hlen2
 have o2 : w2.ownsRow w1.heap.size 5 1 (.slice (some ⟨w1.heap.size, 0, none⟩) k.length k.length) k.length (k.map (Value.int .u8)) := O2.out
 have hlt : w1.heap.size < w2.heap.size := hs2
 have hsz := HS1.out
 have hu := HU.out
 obtain ⟨y1, y2⟩ := chg_put Y3.out (.slice (some ⟨w1.heap.size, 0, none⟩) k.length k.length) (.slice (some ⟨w2.heap.size, 0, none⟩) v.length v.length) (.bool b)
 have o3 := own_bytT ((o2.kept R3.out (Classical.em _)).kept y2 (.inr (by simp only [Value.ownBlock, ne_eq, Option.some.injEq]; omega)))
 have o4 := own_bytT (O3.out.kept y2 (.inr (by simp only [Value.ownBlock, ne_eq, Option.some.injEq]; omega)))
 have gf := grown_new (grown_trans HG.out G3.out) y2 (by have := HB.out; omega)
 clear hsz hlt hu
 go_wp2
 refine bodyPost_ret (ret_chg rfl _ _ U _ _ _ rfl y1) rfl ?_
 exact ⟨_, _, _, _, rfl, gf, o3, o4⟩
end Go.Proofs.YtndanifjommpdaaGreat
namespace Go.Proofs.YtndanifjommpdaaGreat
open Go.RowKit Go.Shelf
attribute [local go_sem] Oper.semAt_some
def pcs (xs : List PgT) : List Value := xs.flatMap fun x => [x.1, x.2.1]
structure TkT (w : World) (s n0 : Nat) (lim : Int) (m : Nat) (pre : List PgT) (W : World) : Prop where
 bx : ∃ v, W.heap[s + 1]? = some (.cells #[v] 26 (0, 0)) ∧ W.ownsRow m 35 2 v pre.length (pcs pre)
 li : W.heap[s]? = some (.cells #[.int .i64 lim] 3 (0, 0))
 ce : w.grownBy W none
 px : ∀ x ∈ pre, PxP n0 m x W
 le : pre = [] ∨ (pre.length : Int) ≤ lim
 sz : m ≤ W.heap.size
 nm : n0 ≤ m
theorem own_cef {W W' : World} {base n k : Nat} {t : TypeId} {v : Value} {xs : List Value} (h : W.ownsRow base t k v n xs) (hc : CeF W W') : W'.ownsRow base t k v n xs := own_blk h fun i _ ht => by
 obtain ⟨cur, z, e⟩ := ht
 rw [hc _ _ _ _ e, e]
theorem TkT.cef {w : World} {s n0 : Nat} {lim : Int} {m : Nat} {pre : List PgT} {W W' : World} (h : TkT w s n0 lim m pre W) (hc : CeF W W') (hg : w.grownBy W' none) (hs : W.heap.size ≤ W'.heap.size) : TkT w s n0 lim m pre W' := by
 obtain ⟨v, h1, h2⟩ := h.bx
 exact ⟨⟨v, hc _ _ _ _ h1, own_cef h2 hc⟩, hc _ _ _ _ h.li, hg, fun x hx => px_cef (h.px x hx) hc, h.le, Nat.le_trans h.sz hs, h.nm⟩
end Go.Proofs.YtndanifjommpdaaGreat
namespace Go.Proofs.YtndanifjommpdaaGreat
open Go.RowKit Go.Shelf
attribute [local go_sem] Oper.semAt_some
theorem keeps_up {B B' : Nat} {W W' : World} (h : KeepsFrom B W W') (hB : B ≤ B') : KeepsFrom B' W W' := ⟨h.size, fun k o hk ho hc => h.same k o (by omega) ho hc⟩
theorem round_wide {n m l l2 : Nat} {P : Program} {f : FuncId} {tmps : Array Value} {assign body : Code} {w : World} {R : Ending → World → Prop} (h : RoundIn Fence.wide n P l f tmps assign body w R) : RoundIn (Fence.wide.inRound l2) m P l f tmps assign body w R :=
 ⟨h.1, fun c cs _ => h.2 c cs (room_wide _)⟩
theorem PvL.back {w : World} : ∀ {es : List (List Value)} {ps : List PrT} {lo hi : Nat} {e : List Value} {p : PrT}, PvL w (es ++ [e]) (ps ++ [p]) lo hi → es.length = ps.length → ∃ m m', PvL w es ps lo m ∧ m ≤ m' ∧ PvT w m m' e p ∧ m' ≤ hi
 | [], [], lo, hi, e, p, h, _ => by
  obtain ⟨m, h1, h2, h3, _⟩ := h
  exact ⟨lo, m, Nat.le_refl _, h1, h3, h2⟩
 | x :: es, q :: ps, lo, hi, e, p, h, hl => by
  obtain ⟨m, h1, h2, h3, h4⟩ := h
  obtain ⟨a, b, k1, k2, k3, k4⟩ := PvL.back h4 (by simpa using hl)
  exact ⟨a, b, ⟨m, h1, k1.le, h3, k1⟩, k2, k3, k4⟩
 | [], _ :: _, _, _, _, _, _, hl => by simp at hl
 | _ :: _, [], _, _, _, _, _, hl => by simp at hl
structure RkB (n0 m : Nat) (W : World) (a : Option Addr) (N c : Nat) (es : List (List Value)) (ps : List PrT) (k : Nat) : Prop where
 e : EsT W 35 a N c 2 es
 p : ∃ hk, hk ≤ m ∧ PvL W (es.take (N - k)) (ps.take (N - k)) n0 hk
 b : ∀ ad, a = some ad → 0 < N → n0 ≤ ad.block ∧ ad.block < m
theorem RkB.cef {n0 m : Nat} {W W' : World} {a : Option Addr} {N c : Nat} {es : List (List Value)} {ps : List PrT} {k : Nat} (h : RkB n0 m W a N c es ps k) (hg : FrT W W') : RkB n0 m W' a N c es ps k := by
 obtain ⟨hk, q1, q2⟩ := h.p
 exact ⟨h.e.kept (by decide) hg, ⟨hk, q1, q2.kept hg⟩, h.b⟩
theorem RkB.next {n0 m : Nat} {W : World} {a : Option Addr} {N c : Nat} {es : List (List Value)} {ps : List PrT} {k j : Nat} (h : RkB n0 m W a N c es ps k) (hl : ps.length = N) (hj : N - k = j + 1) {p : PrT} (hp : ps[j]? = some p) {kv vv : Value} (he : es[j]? = some [kv, vv]) :
  PxP n0 m (kv, vv, p) W ∧ (∃ b off, a = some ⟨b, off, none⟩) ∧ (∀ g, blkP (kv, vv, p) g → TgT W g 5) ∧ ∀ W1 W', FrT W W1 → KpW n0 m (blkP (kv, vv, p)) W1 W' → RkB n0 m W' a N c es ps (k + 1) := by
 obtain ⟨hk, q1, q2⟩ := h.p
 have hel := h.e.len
 rw [hj, takeS hp, takeS he] at q2
 obtain ⟨mm, m2, m3, m4, m5, m6⟩ := q2.back (by rw [List.length_take, List.length_take]; omega)
 have m5' := m5
 obtain ⟨kv', vv', mid, e1, i1, i2, o1, o2⟩ := m5
 injection e1 with e1 e2
 injection e2 with e2 _
 subst e1 e2
 obtain ⟨b, off, ea, tb, cl⟩ := h.e.cell j _ he
 have hb := h.b _ ea (by omega)
 simp only at hb
 have nbT : ∀ g, blkP (kv, vv, p) g → mm ≤ g ∧ TgT W g 5 := fun g hg => by
  rcases hg with e | e
  ·exact ⟨(own_lt10 o1.1 e).1, (own_lt10 o1.1 e).2.2⟩
  ·have := (own_lt10 o2.1 e).1
   exact ⟨by omega, (own_lt10 o2.1 e).2.2⟩
 refine ⟨⟨mm, m2, m3.le, by omega, m5'⟩, ⟨b, off, ea⟩, fun g hg => (nbT g hg).2, fun W1 W' hf hkp => ?_⟩
 have t1 : TgT W1 b 35 := hf.tg (by decide) tb
 have e1 := h.e.kept (by decide) hf
 refine ⟨⟨e1.len, e1.cap, e1.c2, e1.nil, e1.pl, e1.sz, e1.one, fun i e he' => ?_⟩, ⟨mm, by omega, ?_⟩, h.b⟩
 ·obtain ⟨b', off', x1, x2, x3⟩ := e1.cell i e he'
  rw [ea] at x1
  cases x1
  have hs : W'.heap[b]? = W1.heap[b]? := hkp b hb.1 hb.2 (fun hx => tg_ne x2 (hf.tg (by decide) (nbT b hx).2) (by decide) rfl)
  refine ⟨b, off, ea, ?_, fun f v hv => (World.cell?_of_block hs).trans (x3 f v hv)⟩
  obtain ⟨cur, z, q⟩ := x2
  exact ⟨cur, z, hs.trans q⟩
 ·have hj2 : N - (k + 1) = j := by omega
  rw [hj2]
  refine (m3.kept hf).same fun g a1 a2 _ => hkp g (by omega) (by omega) (fun hx => by have := (nbT g hx).1; omega)
def cnvB (ps : List PrT) (x : BwT) : PgT := (x.2.1, x.2.2, ps.getD x.1 pr0)
structure IkB (n0 m l Y A : Nat) (W : World) (a : Option Addr) (N c : Nat) (es : List (List Value)) (ps : List PrT) (J : Nat → List PgT → World → Prop) (pre : List BwT) : Prop where
 j : J m (pre.map (cnvB ps)) W
 r : RkB n0 m W a N c es ps pre.length
 y : W.heap[Y]? = some (.cells #[.func (.yield l) #[] #[]] 29 (0, 0))
 s : W.heap[A]? = some (.cells #[.slice a N c] 26 (0, 0))
 q : (pre.map (cnvB ps)).map (fun x => x.2.2) = ps.reverse.take pre.length
theorem rev_take {ps : List PrT} {k j : Nat} {p : PrT} (hj : ps.length - k = j + 1) (hp : ps[j]? = some p) : ps.reverse.take (k + 1) = ps.reverse.take k ++ [p] := by
 refine takeS ?_
 rw [List.getElem?_reverse (by omega)]
 have : ps.length - 1 - k = j := by omega
 rw [this]
 exact hp
set_option maxHeartbeats 16000000 in
set_option maxRecDepth 100000 in
theorem back1_seq (nn : Nat) (hnn : 1 ≤ nn) (t : Option TrT) (p A1 A2 A3 : Nat) (la : Option Addr) (ln lc : Nat) (lo : List Int) (ha : Option Addr) (hn hc : Nat) (hi : List Int) (w : World)
  (k1 : w.cell? ⟨A1, 0, none⟩ = some (.pointer (some ⟨p, 0, none⟩))) (k2 : w.cell? ⟨A2, 0, none⟩ = some (.slice la ln lc)) (k3 : w.cell? ⟨A3, 0, none⟩ = some (.slice ha hn hc))
  (ht : TreeT w p t) (hw : WkT t) (hlo : Byt w la ln lc lo) (btl : Bt lo) (hhi : Byt w ha hn hc hi) (bth : Bt hi) :
  SeqW Fence.wide nn Tryz.prog 35 #[.pointer (some ⟨A1, 0, none⟩), .pointer (some ⟨A2, 0, none⟩), .pointer (some ⟨A3, 0, none⟩)] encP blkP PxP
   (fun xs => xs.map (fun x => x.2.2) = (withinT (flatO t) lo hi).reverse) (fun pre => pre.map (fun x => x.2.2) <+: (withinT (flatO t) lo hi).reverse) (withinT (flatO t) lo hi).length w := by
 intro l J Jx W hW hJ hJx hY h0
 have gY := World.grownBy_alloc W (.cells #[.func (.yield l) #[] #[]] 29) none
 have c1 := gY.cell (cell_below hW k1) (by simp)
 have c2 := gY.cell (cell_below hW k2) (by simp)
 have c3 := gY.cell (cell_below hW k3) (by simp)
 have rY := heap_at0 W #[.func (.yield l) #[] #[]] 29
 have WC := hid_intro (within_any t p la ln lc lo ha hn hc hi _ ((ht.kept (frt_below hW)).kept (FrT.of gY)) hw.ok hw.ch hw.nn hw.hh hw.ff hw.sr hw.bt ((byt_below hW hlo).keptN gY) btl ((byt_below hW hhi).keptN gY) bth)
 have HY := hid_intro hY
 have H0 := hid_intro h0
 have HJ := hid_intro hJ
 have HJX := hid_intro hJx
 have GY := hid_intro gY
 have RY := hid_intro rY
 have hps : (withinT (flatO t) lo hi).length ≤ 10000000 := by
  have h1 := (List.drop_sublist (findT (upT (flatO t) hi) lo) (upT (flatO t) hi)).length_le
  have h2 := (upT_sub (flatO t) hi).length_le
  have h3 := hw.ff
  unfold withinT
  omega
 clear ht hw hlo hhi k1 k2 k3 hW hY h0 hJ hJx gY rY
 generalize withinT (flatO t) lo hi = ps at *
 refine callsIn_of_wp_marks Tryz.func35 rfl trivial ?_ rfl
 simp only [Tryz.ntmps35, List.size_toArray, List.length_cons, List.length_nil, Nat.reduceAdd, Nat.reduceSub, Array.replicate_succ, Array.replicate_zero, List.push_toArray, List.append_toArray, List.nil_append, List.cons_append]
 gi_wp2
 refine ⟨trivial, (callsIn_wide.2 WC.out).mono ?_⟩
 rintro e W2 ⟨a, N, c, es, rfl, hpw, hbl, hg2⟩
 have hpl := hpw.len
 have hel := hpw.e.len
 have hcap := hpw.e.cap
 have hz2 := hg2.size
 simp only [World.size_alloc] at hz2
 have G2 := hid_intro (grown_trans GY.out hg2)
 have RY2 := hid_intro (heap_kept RY.out hg2)
 have HPW := hid_intro hpw
 have HSL : Hid (∀ e ∈ es, ∃ ka kn kc va vn vc, e = [.slice ka kn kc, .slice va vn vc]) := fun e he => by
  obtain ⟨i, hi, rfl⟩ := List.mem_iff_getElem.1 he
  obtain ⟨e', lo', hi', h1, _, _, hpt⟩ := HPW.out.p.at (List.getElem?_eq_getElem (show i < ps.length by omega))
  rw [List.getElem?_eq_getElem hi] at h1
  obtain ⟨kv, vv, mid, rfl, _, _, o1, o2⟩ := hpt
  obtain ⟨ka, kc, rfl⟩ := own_shape10 o1.1
  obtain ⟨va, vc, rfl⟩ := own_shape10 o2.1
  exact ⟨_, _, _, _, _, _, Option.some.inj h1⟩
 have HBL : Hid (∀ ad, a = some ad → 0 < N → W.heap.size ≤ ad.block ∧ ad.block < W2.heap.size) := fun ad e h0 => by
  have h1 := hbl ad e
  simp only [World.size_alloc] at h1
  refine ⟨by omega, ?_⟩
  obtain ⟨b, off, e1, ⟨_, _, e2⟩, _⟩ := HPW.out.e.cell 0 _ (List.getElem?_eq_getElem (by omega))
  rw [e] at e1
  cases e1
  exact (Array.getElem?_eq_some_iff.1 e2).1
 clear hpw hbl hg2 WC c1 c2 c3
 gi_wp2
 refine ⟨trivial, (callsIn_wide.2 (backward_any a N c W2)).mono ?_⟩
 rintro e W3 ⟨rfl, hW3⟩
 have g3 : W2.grownBy W3 none := by rw [hW3]; exact World.grownBy_alloc W2 _ none
 have rA : W3.heap[W2.heap.size]? = some (.cells #[.slice a N c] 26 (0, 0)) := by rw [hW3]; exact heap_at0 W2 _ _
 have hz3 : W3.heap.size = W2.heap.size + 1 := by rw [hW3]; simp
 have cA := cell_heap (i := 0) rA rfl
 have G3 := hid_intro (grown_trans G2.out g3)
 have RY3 := heap_kept RY2.out g3
 have E3 := HPW.out.e.kept (by decide) (FrT.of g3)
 have R3 : RkB W.heap.size W3.heap.size W3 a N c es ps 0 := by
  refine ⟨E3, ⟨W2.heap.size, by omega, ?_⟩, fun ad e h0 => ?_⟩
  ·rw [Nat.sub_zero, List.take_of_length_le (by omega), List.take_of_length_le (by omega)]
   exact (HPW.out.p.kept (FrT.of g3)).low (by simp)
  ·have := HBL.out ad e h0
   omega
 have J3 := H0.out W3.heap.size W3 G3.out rfl
 have blk : ∀ ad, a = some ad → 0 < N → ad.block < W3.heap.size := fun ad e h0 => by have := (HBL.out ad e h0).2; omega
 have SQ := backward1_seq (nn - 1) W2.heap.size a N c es W3 cA E3 (by omega) HSL.out
 clear hW3 RY2 HPW RY
 gi_wp2
 generalize hm : W3.heap.size = m at *
 generalize hA : W2.heap.size = A at *
 generalize hn0 : W.heap.size = n0 at *
 refine range_walkV (n := nn) rfl hnn (gf := 47) (lb := #[.pointer (some ⟨A, 0, none⟩)]) rfl trivial (enters_of Tryz.func47 (by kernel_rfl) rfl) SQ KpB.trans ?kb (Below.refl _ _) (fun _ => rfl)
  (fun pre Wx => IkB n0 m l n0 A Wx a N c es ps J pre)
  (fun cd pre Wx => cd = .ret ∧ Jx m (pre.map (cnvB ps)) Wx ∧ (pre.map (cnvB ps)).map (fun x => x.2.2) <+: ps.reverse)
  ?own ?ownx ⟨J3, R3, RY3, rA, rfl⟩
  (fun x a' Wx => ∃ g, a' = { tmps := #[.func (.yield l) #[] #[], .pointer (some ⟨A1, 0, none⟩), .pointer (some ⟨A2, 0, none⟩), .pointer (some ⟨A3, 0, none⟩), .pointer (some ⟨n0, 0, none⟩), undef, .pointer (some ⟨g, 0, none⟩), .pointer (some ⟨p, 0, none⟩), .slice la ln lc, .slice ha hn hc, .slice a N c, .func (.func 47) #[] #[.pointer (some ⟨A, 0, none⟩)], .int .i64 (x.1 : Nat), .agg #[x.2.1, x.2.2], undef, undef, undef, undef, undef, undef, undef], defers := [] } ∧ Wx.heap[g]? = some (.cells #[x.2.1, x.2.2] 35 (0, 0)))
  ?ownax ?assign ?body ?done ?stop
 case kb =>
  intro W' l' o' hl
  exact ⟨World.putObj_heap_other (by omega), fun ad e h0 => World.putObj_heap_other (by have := blk ad e h0; omega)⟩
 case own =>
  intro pre X Y row h hg hr
  have hce := CeF.turn hg (fun r e => (hr r e).2)
  exact ⟨HJ.out m _ X Y row h.j hg (fun r e => ⟨by have := (hr r e).1; omega, (hr r e).2⟩), h.r.cef hce.frt, hce _ _ _ _ h.y, hce _ _ _ _ h.s, h.q⟩
 case ownx =>
  intro cd pre X Y row h hg hr
  exact ⟨h.1, HJX.out m _ X Y row h.2.1 hg (fun r e => ⟨by have := (hr r e).1; omega, (hr r e).2⟩), h.2.2⟩
 case ownax =>
  intro x a' _ X Y row h hg hr
  obtain ⟨g, h1, h2⟩ := h
  exact ⟨g, h1, CeF.turn hg (fun r e => (hr r e).2) _ _ _ _ h2⟩
 case assign =>
  rintro l2 pre ⟨i, kv, vv⟩ W' K hI ⟨hx1, hx2, hx3⟩ hK
  obtain ⟨ka, kn, kc, va, vn, vc, hsl⟩ := HSL.out _ (List.mem_of_getElem? hx3)
  injection hsl with hsl1 hsl2
  injection hsl2 with hsl2 _
  simp only at hsl1 hsl2
  subst hsl1 hsl2
  simp only [encB]
  clear hx1 hx2 hx3
  gi_wp2
  have hga := World.grownBy_alloc W' (.cells #[.slice ka kn kc, .slice va vn vc] 35) none
  have hce := CeF.of hga
  refine hK _ _ (KeepsFrom.of_grownBy hga (fun j e => by cases e)) ⟨?_, ?_⟩ ?_ ⟨W'.heap.size, rfl, heap_at0 W' _ _⟩
  ·rw [hI.s]
   exact hce _ _ _ _ hI.s
  ·intro ad e h0
   exact Below.heap_alloc W' _ _ (by
    obtain ⟨b, off, e1, ⟨_, _, e2⟩, _⟩ := hI.r.e.cell 0 _ (List.getElem?_eq_getElem (by omega))
    rw [e] at e1
    cases e1
    exact (Array.getElem?_eq_some_iff.1 e2).1)
  ·exact ⟨HJ.out m _ W' _ none hI.j hga (fun r e => by cases e), hI.r.cef hce.frt, hce _ _ _ _ hI.y, hce _ _ _ _ hI.s, hI.q⟩
 case body =>
  rintro l2 pre ⟨i, kv, vv⟩ a' W' hI ⟨g, rfl, hg⟩ ⟨hx1, hx2, hx3⟩
  simp only at hx2 hg
  obtain ⟨ka, kn, kc, va, vn, vc, hsl⟩ := HSL.out _ (List.mem_of_getElem? hx3)
  injection hsl with hsl1 hsl2
  injection hsl2 with hsl2 _
  simp only at hsl1 hsl2
  subst hsl1 hsl2
  obtain ⟨j, hj⟩ : ∃ j, N - 1 - pre.length = j := ⟨_, rfl⟩
  rw [hj] at hx2 hx3
  subst hx2
  obtain ⟨pr, hpr⟩ : ∃ pr, ps[i]? = some pr := ⟨_, List.getElem?_eq_getElem (by omega)⟩
  obtain ⟨hpx, ⟨b, off, ea⟩, hty, hnx⟩ := hI.r.next (by omega) (show N - pre.length = i + 1 by omega) hpr hx3
  have hcv : cnvB ps (i, .slice ka kn kc, .slice va vn vc) = (.slice ka kn kc, .slice va vn vc, pr) := by
   unfold cnvB
   simp [List.getD_eq_getElem?_getD, hpr]
  have hprl : (pre.map (cnvB ps)).length < ps.length := by rw [List.length_map]; omega
  have hq2 : ((pre.map (cnvB ps) ++ [((.slice ka kn kc, .slice va vn vc, pr) : PgT)])).map (fun x => x.2.2) = ps.reverse.take (pre.length + 1) := by
   rw [List.map_append, hI.q, rev_take (show ps.length - pre.length = i + 1 by omega) hpr]
   rfl
  obtain ⟨fn, tmps, assign, body, hy, hR⟩ := HY.out m (pre.map (cnvB ps)) (.slice ka kn kc, .slice va vn vc, pr) W' hI.j (by omega) hpx hprl (by rw [hq2]; exact List.take_prefix _ _)
  simp only [encP] at hy
  have hq1 : ((pre ++ [((i, .slice ka kn kc, .slice va vn vc) : BwT)]).map (cnvB ps)) = pre.map (cnvB ps) ++ [(.slice ka kn kc, .slice va vn vc, pr)] := by
   rw [List.map_append, List.map_cons, List.map_nil, hcv]
  have d0 := cell_heap (i := 0) hg rfl
  have d1 := cell_heap (i := 1) hg rfl
  have d2 := cell_heap (i := 0) hI.y rfl
  have HI := hid_intro hI
  have HNX := hid_intro hnx
  have HTY := hid_intro hty
  clear hI hnx hty hpx hg
  gi_wp2
  refine ⟨fun h => (by cases h), (round_wide hR).mono ?_⟩
  clear hR hy
  rintro e W4 ⟨hkf, ⟨rfl, hJ4, hk4⟩ | ⟨rfl, hJx4⟩⟩
  ·gi_wp2
   have hb := HI.out.r.b _ ea (by omega)
   have nb : ∀ t b' , TgT W' b' t → t ≠ 5 → n0 ≤ b' → b' < m → W4.heap[b']? = W'.heap[b']? := fun t b' h1 h2 h3 h4 => hk4 b' h3 h4 (fun hx => by
    have := HTY.out b' hx
    exact tg_ne h1 this h2 rfl)
   refine ⟨keeps_up hkf (by omega), ⟨?_, ?_⟩, ?_⟩
   ·exact nb 26 A ⟨_, _, HI.out.s⟩ (by decide) (by omega) (by omega)
   ·intro ad e h0
    rw [ea] at e
    cases e
    obtain ⟨b', off', e1, e2, _⟩ := HI.out.r.e.cell 0 _ (List.getElem?_eq_getElem (by omega))
    rw [ea] at e1
    cases e1
    exact nb 35 b e2 (by decide) hb.1 hb.2
   ·refine ⟨by rw [hq1]; exact hJ4, ?_, (nb 29 n0 ⟨_, _, HI.out.y⟩ (by decide) (by omega) (by omega)).trans HI.out.y, (nb 26 A ⟨_, _, HI.out.s⟩ (by decide) (by omega) (by omega)).trans HI.out.s, by rw [hq1, hq2]; simp⟩
    have := HNX.out W' W4 (FrT.refl _) hk4
    simpa using this
  ·gi_wp2
   exact ⟨keeps_up hkf (by omega), rfl, by rw [hq1]; exact hJx4, by rw [hq1, hq2]; exact List.take_prefix _ _⟩
 case done =>
  rintro D xs W' hD hSx hI hK
  have hK' := hK
  gi_wp2
  refine ⟨by simp, .inl ⟨_, _, rfl, run_takeDeferred hK, ?_⟩⟩
  refine ⟨_, results_none rfl _ _ _, ⟨_, rfl⟩, m, .inl ⟨xs.map (cnvB ps), ?_, HJ.out m _ W' _ (some D) hI.j (grownBy_putObj' _ D _) (fun r e => by cases e; exact ⟨by omega, _, hK, rfl⟩)⟩⟩
  rw [hI.q, List.take_of_length_le (by rw [List.length_reverse]; omega)]
 case stop =>
  rintro D cd pre W' hD _ ⟨rfl, hJ4, hq⟩ hK
  gi_wp2
  refine ⟨by simp, .inl ⟨_, _, rfl, run_takeDeferred hK, ?_⟩⟩
  exact ⟨_, results_none rfl _ _ _, ⟨_, rfl⟩, m, .inr ⟨pre.map (cnvB ps), hq, HJX.out m _ W' _ (some D) hJ4 (grownBy_putObj' _ D _) (fun r e => by cases e; exact ⟨by omega, _, hK, rfl⟩)⟩⟩
end Go.Proofs.YtndanifjommpdaaGreat
namespace Go.Proofs.YtndanifjommpdaaGreat
open Go.RowKit
set_option maxHeartbeats 8000000 in
set_option maxRecDepth 100000 in
theorem back_any (p : Nat) (la : Option Addr) (ln lc : Nat) (lo : List Int) (ha : Option Addr) (hn hc : Nat) (hi : List Int) (w : World) (hlo : Byt w la ln lc lo) (hhi : Byt w ha hn hc hi) (h1 : ln ≤ 140737488355328) (h2 : hn ≤ 140737488355328) :
  Calls Tryz.prog 11 #[.pointer (some ⟨p, 0, none⟩), .slice la ln lc, .slice ha hn hc] w fun en w' => ∃ A1 A2 A3, en = .returned (.func (.func 35) #[] #[.pointer (some ⟨A1, 0, none⟩), .pointer (some ⟨A2, 0, none⟩), .pointer (some ⟨A3, 0, none⟩)]) ∧ RgB w w' p A1 A2 A3 ln hn lo hi := by
 have hmf : ∀ (fn : Fn) (first cap : Array Value) (w : World), (Instr.makeFunc fn first cap).run Tryz.prog w = .ok (.func fn first cap) w := fun _ _ _ _ => rfl
 have CL := hid_intro (fun (W : World) (h : w.grownBy W none) => clone_own la ln lc lo W (hlo.keptN h) h1)
 have CH := hid_intro (fun (W : World) (h : w.grownBy W none) => clone_own ha hn hc hi W (hhi.keptN h) h2)
 clear hlo hhi
 obtain ⟨W0, hW0⟩ : ∃ W0, ((w.alloc (.cells #[.pointer (some ⟨p, 0, none⟩)] 25)).alloc (.cells #[.slice la ln lc] 23)).alloc (.cells #[.slice ha hn hc] 23) = W0 := ⟨_, rfl⟩
 have g0 : w.grownBy W0 none := by rw [← hW0]; exact grown_al (grown_al (grown_al (World.grownBy.refl _ _) _) _) _
 have e1 : W0.cell? ⟨w.heap.size, 0, none⟩ = some (.pointer (some ⟨p, 0, none⟩)) := by rw [← hW0]; exact cell_heap (heap_old (heap_old (heap_at0 w _ _))) rfl
 have x2 : W0.heap[w.heap.size + 1]? = some (.cells #[.slice la ln lc] 23 (0, 0)) := by rw [← hW0]; exact heap_old (heap_at1 w _ _ _)
 have x3 : W0.heap[w.heap.size + 1 + 1]? = some (.cells #[.slice ha hn hc] 23 (0, 0)) := by rw [← hW0]; exact heap_at2 w _ _ _ _
 have e2 : W0.cell? ⟨w.heap.size + 1, 0, none⟩ = some (.slice la ln lc) := cell_heap x2 rfl
 have e3 : W0.cell? ⟨w.heap.size + 1 + 1, 0, none⟩ = some (.slice ha hn hc) := cell_heap x3 rfl
 have X2 := hid_intro x2
 have X3 := hid_intro x3
 clear x2 x3
 have hz0 : W0.heap.size = w.heap.size + 3 := by rw [← hW0]; simp
 have G0 := hid_intro g0
 clear g0
 go_enter Tryz.func11, Tryz.ntmps11
 go_upto_region 1 with fail
 clear hW0
 have f1 := (Qt.refl W0).drew.grown none
 have G1 := hid_intro (grown_trans G0.out f1)
 have GD := hid_intro f1
 obtain ⟨s, hs⟩ : ∃ s, w.heap.size = s := ⟨_, rfl⟩
 rw [hs] at e1 e2 e3 hz0 X2 X3 ⊢
 have HS := hid_intro hs
 clear f1 hs
 go_region_with (first
  | (go_at_call_of 32 (Value.slice la ln lc); refine (CL.out _ G1.out).mono ?_; rintro en w5 ⟨a5, c5, rfl, ho5, hg5⟩; have O5 := hid_intro ho5; have G5 := hid_intro (grown_trans GD.out hg5); have q2 := G5.out.cell e2 (by simp); have q3 := G5.out.cell e3 (by simp); clear ho5 hg5)
  | (go_at_call_of 32 (Value.slice ha hn hc); refine (CH.out _ (grown_trans G0.out G5.out)).mono ?_; rintro en w6 ⟨a6, c6, rfl, ho6, hg6⟩; have O6 := hid_intro ho6; have G56 := hid_intro hg6; have G6 := hid_intro (grown_trans G5.out hg6); have r2 := G6.out.cell e2 (by simp); have r3 := G6.out.cell e3 (by simp); have z2 := frozen_of_row w6 (s + 1) 0 _ _ ((FrT.of G6.out).keep _ _ _ _ (by decide) X2.out); have z3 := frozen_of_row w6 (s + 1 + 1) 0 _ _ ((FrT.of G6.out).keep _ _ _ _ (by decide) X3.out); clear ho6 hg6))
 all_goals
  have hz5 := G5.out.size
  have o5 : w6.ownsRow (s + 3) 5 1 (.slice a5 ln c5) ln (lo.map (Value.int .u8)) := own_low (O5.out.kept G56.out (Classical.em _)) (by show s + 3 ≤ W0.heap.size; omega)
  have o6 : w6.ownsRow (s + 3) 5 1 (.slice a6 hn c6) hn (hi.map (Value.int .u8)) := own_low O6.out (by omega)
  have RB := hid_intro (RgB.mk' (p := p) (grown_trans G0.out G6.out) HS.out.symm (G6.out.cell e1 (by simp)) (by rw [r2]; rfl) (by show (w6.cell? ⟨s + 1 + 1, 0, none⟩).isSome = true; rw [r3]; rfl) o5 o6).1
  clear o5 o6
  go_wp2
  go_ret
  exact ⟨_, _, _, rfl, RB.out⟩
end Go.Proofs.YtndanifjommpdaaGreat
namespace Go.Proofs.YtndanifjommpdaaGreat
open Go.RowKit
set_option maxHeartbeats 8000000 in
set_option maxRecDepth 100000 in
theorem from_any (t : Option TrT) (p : Nat) (ka : Option Addr) (kn kc : Nat) (key : List Int) (w : World) (ht : TreeT w p t) (hw : WkT t) (hk : Byt w ka kn kc key) (bk : Bt key) (h1 : kn ≤ 140737488355328) :
  Calls Tryz.prog 21 #[.pointer (some ⟨p, 0, none⟩), .slice ka kn kc] w fun en w' => w.grownBy w' none ∧ ((withinT (flatO t) key [] = [] ∧ en = .returned (.tuple #[.agg #[.slice none 0 0, .slice none 0 0], .bool false])) ∨ ∃ (x : PgT) (n0 m : Nat), [x.2.2] <+: withinT (flatO t) key [] ∧ en = .returned (.tuple #[.agg #[x.1, x.2.1], .bool true]) ∧ PxP n0 m x w' ∧ w.heap.size ≤ n0) := by
 have g0 := World.grownBy_alloc w (.cells #[.slice none 0 0, .slice none 0 0] 35) none
 have RC := hid_intro (range_any p ka kn kc key none 0 0 [] (w.alloc (.cells #[.slice none 0 0, .slice none 0 0] 35)) (hk.keptN g0) (Byt.empty _) h1 (by omega))
 have X0 := hid_intro (heap_at0 w #[.slice none 0 0, .slice none 0 0] 35)
 have HT := hid_intro (ht.kept (FrT.of g0))
 have HW := hid_intro hw
 have G0 := hid_intro g0
 clear ht hw hk g0
 go_enter Tryz.func21, Tryz.ntmps21
 go_wp2_with fail
 refine RC.out.mono ?_
 rintro en w1 ⟨A1, A2, A3, rfl, hr⟩
 obtain ⟨a2, c2, y2, b2⟩ := hr.k2
 obtain ⟨a3, c3, y3, b3⟩ := hr.k3
 have SQ := hid_intro (first_seq w1 (enters_of Tryz.func33 (by kernel_rfl) rfl) (range1_seq 4 t p A1 A2 A3 a2 kn c2 key a3 0 c3 [] w1 hr.k1 y2 y3 (HT.out.kept (FrT.of hr.gr)) HW.out b2 bk b3 (fun z hz => by cases hz)) (Below.refl _ _))
 have X1 := hid_intro (heap_kept X0.out hr.gr)
 have G1 := hid_intro (grown_trans G0.out hr.gr)
 clear hr y2 y3 b2 b3 RC
 go_wp2_with fail
 refine SQ.out.mono ?_
 rintro en w2 ⟨hce, hcs⟩
 have x2 := heap_kept X1.out hce
 have HCE := hid_intro (grown_trans G1.out hce)
 have X2 := hid_intro x2
 have d0 := cell_heap (i := 0) x2 rfl
 have d1 := cell_heap (i := 1) x2 rfl
 have z0 := frozen_of_row w2 w.heap.size 0 _ _ x2
 have z1 := frozen_of_row w2 w.heap.size 1 _ _ x2
 have fin : Hid (∀ u v : Value, w.grownBy ((w2.setCell ⟨w.heap.size, 0, none⟩ u).setCell ⟨w.heap.size, 1, none⟩ v) none) := fun u v => gr_set (gr_set HCE.out 0 u (Nat.le_refl _)) 1 v (Nat.le_refl _)
 have hz1 := G1.out.size
 clear hce x2 SQ
 rcases hcs with ⟨hS, rfl⟩ | ⟨⟨kv, vv, pr⟩, n0, m, hSp, rfl, hpx, hn0⟩
 ·have HS := hid_intro hS
  clear hS
  go_wp2_with fail
  obtain ⟨y1, y2⟩ := pair_put X2.out (.slice none 0 0) (.slice none 0 0)
  refine bodyPost_ret (results_pair_tmp rfl _ _ w.heap.size _ _ rfl y1) rfl ?_
  exact ⟨fin.out _ _, .inl ⟨by have := HS.out; simpa using this.symm, rfl⟩⟩
 ·have HSP := hid_intro hSp
  have hpx0 := hid_intro hpx
  obtain ⟨lo, hi, b1, b2, kv', vv', mm, e1, _, _, h6, h7⟩ := hpx
  obtain ⟨ka', kc', e2⟩ := own_shape10 h6.1
  obtain ⟨va', vc', e3⟩ := own_shape10 h7.1
  injection e1 with e4 e5
  injection e5 with e5 _
  have ek : kv = .slice ka' pr.key.length kc' := e4.trans e2
  have ev : vv = .slice va' pr.val.length vc' := e5.trans e3
  subst ek ev
  clear h6 h7 e2 e3 e4 e5 hSp
  go_wp2_with fail
  obtain ⟨y1, y2⟩ := pair_put X2.out (.slice ka' pr.key.length kc') (.slice va' pr.val.length vc')
  refine bodyPost_ret (results_pair_tmp rfl _ _ w.heap.size _ _ rfl y1) rfl ?_
  obtain ⟨lo, hi, b1, b2, hpt⟩ := hpx0.out
  exact ⟨fin.out _ _, .inr ⟨(_, _, pr), n0, m, by simpa using HSP.out, rfl, ⟨lo, hi, b1, b2, pv_put hpt X2.out y2⟩, by omega⟩⟩
end Go.Proofs.YtndanifjommpdaaGreat
namespace Go.Proofs.YtndanifjommpdaaGreat
open Go.RowKit
theorem less_numsW : ∀ {a b : List Int}, Bt a → Bt b → Op.bytesLess (a.map fun n => UInt8.ofNat n.toNat) (b.map fun n => UInt8.ofNat n.toNat) = decide (cmpZ a b < 0)
 | [], [], _, _ => by simp [Op.bytesLess, cmpZ]
 | _ :: _, [], _, _ => by simp [Op.bytesLess, cmpZ]
 | [], _ :: _, _, _ => by simp [Op.bytesLess, cmpZ]
 | a :: xs, b :: ys, ha, hb => by
  have h1 := ha a (List.mem_cons_self ..)
  have h2 := hb b (List.mem_cons_self ..)
  have ih := less_numsW (a := xs) (b := ys) (fun z hz => ha z (List.mem_cons_of_mem _ hz)) (fun z hz => hb z (List.mem_cons_of_mem _ hz))
  have e1 : (UInt8.ofNat a.toNat < UInt8.ofNat b.toNat) ↔ a < b := by
   rw [UInt8.lt_iff_toNat_lt]; simp; omega
  have e2 : (UInt8.ofNat a.toNat = UInt8.ofNat b.toNat) ↔ a = b := by
   rw [← UInt8.toNat_inj]; simp; omega
  rw [List.map_cons, List.map_cons, Op.bytesLess, ih, cmp_cons]
  by_cases h3 : a < b
  ·simp [e1, h3]
  ·by_cases h4 : b < a
   ·have h5 : ¬ a = b := by omega
    simp [e1, e2, h3, h4, h5]
   ·have h5 : a = b := by omega
    subst h5
    simp
set_option maxHeartbeats 400000 in
set_option maxRecDepth 100000 in
theorem lessW (ao bo : Option Addr) (n m c d : Nat) (za zb : List Int) (w : World) (ha : Byt w ao n c za) (hb : Byt w bo m d zb) (ba : Bt za) (bb : Bt zb) :
  Calls Tryz.prog 41 #[.slice ao n c, .slice bo m d] w fun en w' => en = .returned (.bool (decide (cmpZ za zb < 0))) ∧ w' = w := by
 have h1 := conv_str ha
 have h2 := conv_str hb
 have HE : Hid (Op.bytesLess (strOfNums za).toList (strOfNums zb).toList = decide (cmpZ za zb < 0)) := by
  show _ = _
  rw [ByteArray.toList_eq, ByteArray.toList_eq, strOfNums_data, strOfNums_data]
  exact less_numsW ba bb
 clear ha hb
 go_enter Tryz.func41, Tryz.ntmps41
 go_wp2
 go_ret
 exact ⟨by rw [← HE.out]; rfl, rfl⟩
theorem sameW (ao bo : Option Addr) (n m c d : Nat) (za zb : List Int) (w : World) (ha : Byt w ao n c za) (hb : Byt w bo m d zb) (ba : Bt za) (bb : Bt zb) :
  Calls Tryz.prog 12 #[.slice ao n c, .slice bo m d] w fun en w' => en = .returned (.bool (decide (za = zb))) ∧ w' = w := by
 by_cases e : za = zb
 ·rw [decide_eq_true e]; exact same_yes ao bo n m c d za zb w ha hb e
 ·rw [decide_eq_false e]; exact same_no ao bo n m c d za zb w ha hb ba bb e
theorem append_es {P : Program} {w : World} {ops : Array Oper} {rest : List Oper} {o : Oper} {a : Act} {Q : Exit → Act → World → Prop} (hgd : o.guard = none) (s x : Operand) (t : TypeId)
  (ho : o.op = .call { callee := .builtin .append, args := #[s, x], argTypes := #[t, t] })
  (base : Nat) (e : TypeId) (i : TypeInfo) (z : Value) (size bytes : Nat) (ht : P.underlying t = some (.slice e)) (hi : P.info? e = some i) (hz : i.zero = some z) (hsize : i.size = size) (hby : i.bytes = bytes) (hzs : z.cells.size = size) (hsz : 0 < size)
  (v : Value) (n : Nat) (xs : List Value) (hs : a.eval s = v) (hown : w.ownsRow base e size v n xs)
  (ao : Option Addr) (m c : Nat) (es : List (List Value)) (hx : a.eval x = .slice ao m c) (he : EsT w e ao m c size es)
  (h63 : n + m ≤ maxLen) (hbytes : (n + m) * bytes ≤ 140737488355328) (hbase : base ≤ w.heap.size)
  (h : ∀ v' w', w'.ownsRow base e size v' (n + m) (xs ++ es.flatten) → w.grownBy w' v.ownBlock → wpList P ops Q rest (a.put o.dst v') w') : wpList P ops Q (o :: rest) a w := by
 have hl := he.len
 have hcap := he.cap
 cases ao with
 | none =>
  have h0 := he.nil rfl
  have hm : m = 0 := by omega
  have hc : c = 0 := by omega
  have hn : es = [] := List.eq_nil_of_length_eq_zero (by omega)
  subst hm hc hn
  exact wpList_append_own_none hgd s x t ho base e i size ht hi v n xs hs hown hx (h v w (by simpa using hown) (World.grownBy.refl _ _))
 | some ad =>
  obtain ⟨b, off, rfl⟩ := he.pl ad rfl
  refine append_at10 hgd s x t ho base e i z size bytes ht hi hz hsize hby hzs hsz v n xs hs hown ⟨b, off, none⟩ m c es.flatten hx (by rw [flat_len he.sz, hl]) (fun j u hu => ?_) (fun u hu => ?_) h63 hbytes hbase (fun v' w' k1 k2 _ => h v' w' k1 k2)
  ·obtain ⟨k, f, e1, h1, h2, rfl⟩ := flat_in he.sz hu
   obtain ⟨b', off', e3, _, e4⟩ := he.cell k e1 h1
   cases e3
   rw [Addr.add_lit, ← Nat.add_assoc]
   exact e4 f u h2
  ·obtain ⟨e1, h1, h2⟩ := List.mem_flatten.1 hu
   exact he.one e1 h1 u h2
theorem EsT.tail2 {w : World} {t : TypeId} {a : Option Addr} {n c k : Nat} {es : List (List Value)} (h : EsT w t a n c 2 es) (hk : k ≤ n) :
  (c = k → EsT w t a (n - k) 0 2 (es.drop k)) ∧ EsT w t (a.map fun x => x.add (k * 2)) (n - k) (c - k) 2 (es.drop k) := by
 have hc := h.cap
 have h1 := h.len
 cases a with
 | none =>
  have h0 := h.nil rfl
  have hn : n = 0 := by omega
  have hk0 : k = 0 := by omega
  subst hn hk0
  rw [List.drop_zero]
  have he : es = [] := List.eq_nil_of_length_eq_zero h1
  subst he
  have hc0 : c = 0 := by omega
  subst hc0
  exact ⟨fun _ => h, h⟩
 | some ad =>
  obtain ⟨b, off, rfl⟩ := h.pl ad rfl
  refine ⟨fun e => ?_, ?_⟩
  ·have e0 : n - k = 0 := by omega
   rw [e0, List.drop_of_length_le (by omega)]
   exact EsT.zero _ _ _ _ _ (by omega) (fun e => by cases e) (fun x hx => by cases hx; exact ⟨_, _, rfl⟩)
  ·rw [Option.map_some, Addr.add_lit]
   exact h.drop hk
theorem find_lt {key : List Int} : ∀ {L : List PrT} {k : Nat} {p : PrT}, L[k]? = some p → k < findT L key → cmpZ p.key key < 0
 | [], _, _, h, _ => by simp at h
 | x :: L, 0, p, h, hk => by
  simp at h
  subst h
  rw [find_cons] at hk
  split at hk
  ·assumption
  ·omega
 | x :: L, k + 1, p, h, hk => by
  rw [find_cons] at hk
  split at hk
  ·exact find_lt (by simpa using h) (by omega)
  ·omega
theorem find_ge {key : List Int} : ∀ {L : List PrT} {p : PrT}, L[findT L key]? = some p → ¬ cmpZ p.key key < 0
 | [], _, h => by simp at h
 | x :: L, p, h => by
  rw [find_cons] at h
  split at h
  ·exact find_ge (by simpa using h)
  ·rename_i hx
   simp at h
   subst h
   exact hx
theorem end_has {L : List PrT} {key : List Int} {p : PrT} (h : L[findT L key]? = some p) : endT L key = if p.key = key then findT L key + 1 else findT L key := by
 have e2 : hasT L key = decide (cmpZ p.key key = 0) := by
  unfold hasT
  rw [h]
 rw [endT, e2]
 by_cases e : p.key = key
 ·rw [if_pos e, e]
  simp [cmp_self]
 ·rw [if_neg e]
  have : cmpZ p.key key ≠ 0 := fun h => e (cmp_zero h)
  simp [this]
theorem end_no {L : List PrT} {key : List Int} (h : L.length ≤ findT L key) : endT L key = findT L key := by
 unfold endT hasT
 rw [List.getElem?_eq_none h]
 rfl
def DoneP (w : World) (L : List PrT) (en : Ending) (w' : World) : Prop := ∃ a n c, en = .returned (.slice a n c) ∧ w.grownBy w' none ∧ MpW w' a n c L
set_option maxHeartbeats 8000000 in
set_option maxRecDepth 100000 in
theorem done_bad (a : Option Addr) (n c : Nat) (L : List PrT) (ka : Option Addr) (kn kc : Nat) (va : Option Addr) (vn vc : Nat) (gone : Bool) (w : World) (hl : MpW w a n c L) (h : kn < 1 ∨ 255 < kn) :
  Calls Tryz.prog 27 #[.slice a n c, .agg #[.slice ka kn kc, .slice va vn vc, .bool gone]] w fun en w' => DoneP w L en w' := by
 have g0 := World.grownBy_alloc w (.cells #[.slice ka kn kc, .slice va vn vc, .bool gone] 46) none
 have HL := hid_intro (hl.cef (CeF.of g0))
 have G0 := hid_intro g0
 clear hl g0
 by_cases h1 : kn < 1
 ·have k1 : (kn : Int) < 1 := by omega
  go_enter Tryz.func27, Tryz.ntmps27
  go_wp2
  go_ret
  exact ⟨_, _, _, rfl, G0.out, HL.out⟩
 ·have k1 : ¬ (kn : Int) < 1 := by omega
  have k2 : (255 : Int) < (kn : Int) := by omega
  go_enter Tryz.func27, Tryz.ntmps27
  go_wp2
  go_ret
  exact ⟨_, _, _, rfl, G0.out, HL.out⟩
set_option maxHeartbeats 16000000 in
set_option maxRecDepth 100000 in
theorem done_ok (a : Option Addr) (n c : Nat) (L : List PrT) (ka : Option Addr) (kn kc : Nat) (key : List Int) (va : Option Addr) (vn vc : Nat) (val : List Int) (gone : Bool) (w : World) (hl : MpW w a n c L) (hk : Byt w ka kn kc key) (hv : Byt w va vn vc val) (bk : Bt key) (bl : ∀ p ∈ L, Bt p.key) (hsr : Srt L) (hn : n ≤ 100000) (h1 : 1 ≤ kn) (h2 : kn ≤ 255) (h3 : vn ≤ 262144) :
  Calls Tryz.prog 27 #[.slice a n c, .agg #[.slice ka kn kc, .slice va vn vc, .bool gone]] w fun en w' => DoneP w (updT L key (nowD key val gone)) en w' := by
 obtain ⟨ip, hip, hp0, hp1, hp2⟩ := info_parts info_pair10
 have g0 := World.grownBy_alloc w (.cells #[.slice ka kn kc, .slice va vn vc, .bool gone] 46) none
 have x1 := heap_at0 w #[.slice ka kn kc, .slice va vn vc, .bool gone] 46
 have HUP := hid_intro (upd_leaf (key := key) (now := nowD key val gone) hsr)
 have hF := findT_le L key
 have hE := find_le L key
 obtain ⟨hLn, es, hes, hps⟩ := hl
 rw [hLn] at hF hE
 have lk := hk.len
 have lv := hv.len
 have HES := hid_intro (hes.kept (by decide) (FrT.of g0))
 have HPS := hid_intro (hps.cef (CeF.of g0))
 have HMP := hid_intro (MpW.cef (CeF.of g0) ⟨hLn, es, hes, hps⟩)
 have HK := hid_intro (hk.keptN g0)
 have HV := hid_intro (hv.keptN g0)
 have G0 := hid_intro g0
 have HB := hid_intro bl
 have hel := hes.len
 have hcap := hes.cap
 obtain ⟨F, hFF⟩ : ∃ F, findT L key = F := ⟨_, rfl⟩
 have HFF := hid_intro hFF
 rw [hFF] at hF
 have k1 : ¬ (kn : Int) < 1 := by omega
 have k2 : ¬ (255 : Int) < (kn : Int) := by omega
 have k3 : ¬ (262144 : Int) < (vn : Int) := by omega
 have X1 := hid_intro x1
 clear hes hps hk hv g0 bl hFF hsr
 go_enter Tryz.func27, Tryz.ntmps27
 go_upto_region 1 with fail
 generalize hw1 : w.alloc (.cells #[.slice ka kn kc, .slice va vn vc, .bool gone] 46) = w1 at *
 generalize hB0 : w.heap.size = B at *
 have d0 := cell_heap (i := 0) x1 rfl
 have d1 := cell_heap (i := 1) x1 rfl
 have d2 := cell_heap (i := 2) x1 rfl
 have HBB := hid_intro hB0
 clear hw1 x1 hB0
 have DL : ∀ p ∈ L, Bt p.key := HB.out
 have HDL := hid_intro DL
 have HKL := hid_intro lk
 have HVL := hid_intro lv
 clear DL
 cases gone with
 | true =>
  go_upto_block 0 with fail
  go_cut [5, 6] from 29 to 51 (fun s5 s6 wx => s6 = .int .i64 (F : Nat) ∧ w1.grownBy wx none ∧ wx.ownsRow w1.heap.size 35 2 s5 F (es.take F).flatten)
  case first =>
   clear lk lv
   go_wp2_with fail
   go_loopw [5, 6] (fun s5 s6 wr => ∃ k : Nat, k ≤ F ∧ s6 = .int .i64 (k : Nat) ∧ w1.grownBy wr none ∧ wr.ownsRow w1.heap.size 35 2 s5 k (es.take k).flatten) (fun _ si _ => n - (intOf si).toNat)
   case atStart => exact ⟨0, Nat.zero_le _, rfl, World.grownBy.refl _ _, ⟨rfl, .inl ⟨rfl, rfl⟩⟩⟩
   case round =>
    obtain ⟨k, hkF, rfl, hg, ho⟩ := hrel
    obtain ⟨la, lc, hv9⟩ := own_shape10 ho
    subst hv9
    have HO := hid_intro ho
    have G := hid_intro hg
    have e0 := hg.cell d0 (by simp)
    have hsz := hg.size
    by_cases hlt : k < n
    ·obtain ⟨p, hp⟩ : ∃ p, L[k]? = some p := ⟨_, List.getElem?_eq_getElem (by omega)⟩
     obtain ⟨b, off, pa, pc, qa, qc, rfl, c0, c1, b0, _⟩ := HMP.out.get hp
     have y0 := hg.cell c0 (by simp)
     have y1 := hg.cell c1 (by simp)
     have HC := hid_intro (fun (W : World) (hW : W.heap = wr.heap) => lessW pa ka p.key.length kn pc kc p.key key W ((b0.keptN hg).heap hW) ((HK.out.keptN hg).heap hW) (HDL.out p (List.mem_of_getElem? hp)) bk)
     have HP := hid_intro hp
     have i0 : (0 : Int) ≤ (k : Int) := by omega
     have i1 : (k : Int) < (n : Int) := by omega
     have i2 : decide ((k : Int) < (n : Int)) = true := decide_eq_true i1
     have i3 : decide (k < n) = true := decide_eq_true hlt
     have HCE : Hid ((es.take (k + 1)).flatten = (es.take k).flatten ++ [.slice pa p.key.length pc, .slice qa p.val.length qc]) := by
      obtain ⟨ka', kc', va', vc', e1, _, _⟩ := HPS.out.get k _ p (List.getElem?_eq_getElem (by omega)) hp
      obtain ⟨b', off', e4, _, e5⟩ := HES.out.cell k _ (List.getElem?_eq_getElem (by omega))
      cases e4
      rw [e1] at e5
      have f0 := e5 0 _ rfl
      have f1 := e5 1 _ rfl
      rw [Nat.add_zero, c0] at f0
      rw [c1] at f1
      have q0 := (Option.some.inj f0).symm
      have q1 := (Option.some.inj f1).symm
      show _ = _
      rw [takeS (List.getElem?_eq_getElem (show k < es.length by omega)), List.flatten_append, e1, q0, q1]
      simp
     obtain ⟨pl, hpl⟩ : ∃ pl, p.key.length = pl := ⟨_, rfl⟩
     obtain ⟨ql, hql⟩ : ∃ ql, p.val.length = ql := ⟨_, rfl⟩
     rw [hpl] at y0 HC HCE
     rw [hql] at y1 HCE
     clear hp c0 c1 b0 hg ho hpl hql
     by_cases hc : cmpZ p.key key < 0
     ·rw [decide_eq_true hc] at HC
      have hkF2 : k < F := by
       rcases Nat.lt_or_ge k F with h | h
       ·exact h
       ·have : k = F := by omega
        subst this
        have h9 := HP.out
        rw [← HFF.out] at h9
        exact absurd hc (find_ge h9)
      go_wp2
      go_quiet ((go_at_call 41; exact Calls.quiet_of_same (HC.out _ rfl)))
      generalize hwr : wr.drewN _ = w2 at *
      have q2 : Qt wr w2 := by rw [← hwr]; exact Qt.drewN _ _
      have z0 : w2.cell? ⟨b, off + k * 2, none⟩ = some (.slice pa pl pc) := (q2.cell _).trans y0
      have z1 : w2.cell? ⟨b, off + k * 2 + 1, none⟩ = some (.slice qa ql qc) := (q2.cell _).trans y1
      have G2 := hid_intro (grown_trans G.out (q2.grown none))
      have O2 := hid_intro (HO.out.kept (q2.grown none) (Classical.em _))
      have hs2 : w2.heap.size = wr.heap.size := by rw [q2.heap]
      have HS2 := hid_intro hs2
      clear hwr q2 y0 y1 e0 hs2
      go_wp2_with (at_builtin; refine append_at10 rfl _ _ 26 rfl w1.heap.size 35 ip (.agg #[.slice none 0 0, .slice none 0 0]) 2 48 Tryz.underlying26 hip hp0 hp1 hp2 rfl (by decide) _ k (es.take k).flatten rfl (O2.out.alloc _) ⟨w2.heap.size, 0, none⟩ 1 1 [.slice pa pl pc, .slice qa ql qc] rfl rfl ?c1_1 ?c2_1 ?c3_1 ?c4_1 ?c5_1 ?_)
      case c1_1 =>
       intro j u hu
       rw [Addr.add_lit, cell_of_row _ w2.heap.size _ _ _ (0, 0) (heap_alloc_new w2 _), Nat.zero_add]
       simpa using hu
      case c2_1 => simp [Value.oneCell']
      case c3_1 => unfold maxLen; omega
      case c4_1 => omega
      case c5_1 => have := HS2.out; simp; omega
      intro v9 w9 ho9 hg9 _
      have O9 := hid_intro ho9
      have G9 : Hid (w1.grownBy w9 none) := by
       have h1 := grown_al G2.out (.cells #[.slice pa pl pc, .slice qa ql qc] 35)
       cases hb : (Value.slice la k lc).ownBlock with
       | none => rw [hb] at hg9; exact grown_trans h1 hg9
       | some d => rw [hb] at hg9; exact grown_new h1 hg9 (own_lt10 HO.out hb).1
      clear ho9 hg9
      go_wp2_with fail
      go_roundw
      case rel => exact ⟨k + 1, by omega, by go_num, G9.out, by rw [HCE.out]; exact O9.out⟩
      case measure => simp [intOf]; omega
     ·rw [decide_eq_false hc] at HC
      have hkF2 : k = F := by
       rcases Nat.lt_or_ge k F with h | h
       ·rw [← HFF.out] at h
        exact absurd (find_lt HP.out h) hc
       ·omega
      subst hkF2
      go_wp2
      go_quiet ((go_at_call 41; exact Calls.quiet_of_same (HC.out _ rfl)))
      go_wp2_with fail
      go_meet
      exact ⟨rfl, grown_trans G.out ((Qt.drewN wr _).grown none), HO.out.kept ((Qt.drewN wr _).grown none) (Classical.em _)⟩
    ·have hkF2 : k = F := by omega
     have hnn : k = n := by omega
     have i1 : ¬ (k : Int) < (n : Int) := by omega
     have i2 : decide ((k : Int) < (n : Int)) = false := decide_eq_false i1
     have i3 : decide (k < n) = false := decide_eq_false hlt
     have HKF := hid_intro hkF2
     clear hkF2 hnn hg ho
     go_wp2
     go_quiet (fail)
     go_wp2_with fail
     go_meet
     have := HKF.out
     subst this
     exact ⟨rfl, grown_trans G.out ((Qt.drewN wr _).grown none), HO.out.kept ((Qt.drewN wr _).grown none) (Classical.em _)⟩
  case rest =>
   obtain ⟨rfl, hg, ho⟩ := hcut
   obtain ⟨la, lc, hv9⟩ := own_shape10 ho
   subst hv9
   have HO := hid_intro ho
   have G := hid_intro hg
   have e0 := hg.cell d0 (by simp)
   have e1 := hg.cell d1 (by simp)
   have e2 := hg.cell d2 (by simp)
   have hsz := hg.size
   clear d0 d1 d2 ho
   by_cases hlt : F < n
   ·obtain ⟨p, hp⟩ : ∃ p, L[F]? = some p := ⟨_, List.getElem?_eq_getElem (by omega)⟩
    obtain ⟨b, off, pa, pc, qa, qc, rfl, c0, c1, b0, _⟩ := HMP.out.get hp
    have y0 := G.out.cell c0 (by simp)
    have HC := hid_intro (fun (W : World) (hW : W.heap = wc.heap) => sameW pa ka p.key.length kn pc kc p.key key W ((b0.keptN G.out).heap hW) ((HK.out.keptN G.out).heap hW) (HDL.out p (List.mem_of_getElem? hp)) bk)
    have HP := hid_intro hp
    have i0 : (0 : Int) ≤ (F : Int) := by omega
    have i1 : (F : Int) < (n : Int) := by omega
    have i2 : decide ((F : Int) < (n : Int)) = true := decide_eq_true i1
    have i3 : decide (F < n) = true := decide_eq_true hlt
    have HEE := hid_intro (end_has (key := key) (L := L) (p := p) (by rw [HFF.out]; exact hp))
    obtain ⟨pl, hpl⟩ : ∃ pl, p.key.length = pl := ⟨_, rfl⟩
    rw [hpl] at y0 HC
    clear hp c0 c1 b0 hpl
    by_cases hc : p.key = key
    ·rw [decide_eq_true hc] at HC
     rw [if_pos hc, HFF.out] at HEE
     go_wp2
     go_quiet ((go_at_call 12; exact Calls.quiet_of_same (HC.out _ rfl)))
     obtain ⟨E9, hE9⟩ : ∃ E9, F + 1 = E9 := ⟨_, rfl⟩
     rw [hE9] at HEE
     generalize hwr : World.drewN _ _ = w2 at *
     have q2 : Qt wc w2 := by rw [← hwr]; exact Qt.drewN _ _
     have G2 := hid_intro (grown_trans G.out (q2.grown none))
     have O2 := hid_intro (HO.out.kept (q2.grown none) (Classical.em _))
     have hs2 : w2.heap.size = wc.heap.size := by rw [q2.heap]
     have HS2 := hid_intro hs2
     have TL := hid_intro ((HES.out.kept (by decide) (FrT.of G2.out)).tail2 (k := E9) (by omega))
     have j0 : (0 : Int) ≤ ((E9 : Nat) : Int) := by omega
     have j1 : ((E9 : Nat) : Int) ≤ (n : Int) := by omega
     have j2 : (n : Int) ≤ (c : Int) := by omega
     clear hwr q2 e0 hs2
     have j3 : (F : Int) + 1 = (E9 : Int) := by omega
     have j4 : IntKind.i64.wrap (E9 : Int) = (E9 : Int) := by rw [IntKind.wrap_i64]; omega
     have HE9 := hid_intro hE9
     clear hE9
     go_wp2_with (at_builtin; refine append_es rfl _ _ 26 rfl w1.heap.size 35 ip (.agg #[.slice none 0 0, .slice none 0 0]) 2 48 Tryz.underlying26 hip hp0 hp1 hp2 rfl (by decide) (.slice la (F) lc) (F) ((es.take F).flatten) rfl O2.out _ _ _ (es.drop (E9)) rfl ?he_2 ?c3_2 ?c4_2 ?c5_2 ?_)
     all_goals first
      | exact TL.out.2
      | (have h9 := TL.out.2; rw [Option.map_some, Addr.add_lit] at h9; exact h9)
      | exact TL.out.1 (by first | rfl | assumption | omega)
      | (unfold maxLen; omega)
      | omega
      | (have := HS2.out; omega)
      | skip
     all_goals
      intro v10 w10 ho10 hg10
      have G10 : Hid (w.grownBy w10 none) := by
       have h1 := grown_trans G0.out G2.out
       cases hb : (Value.slice la (F) lc).ownBlock with
       | none => rw [hb] at hg10; exact grown_trans h1 hg10
       | some d => rw [hb] at hg10; exact grown_new h1 hg10 (by have := (own_lt10 HO.out hb).1; have := G0.out.size; omega)
      have GW : Hid (w1.grownBy w10 none) := by
       have h1 := G2.out
       cases hb : (Value.slice la (F) lc).ownBlock with
       | none => rw [hb] at hg10; exact grown_trans h1 hg10
       | some d => rw [hb] at hg10; exact grown_new h1 hg10 (own_lt10 HO.out hb).1
      have O10 := hid_intro ho10
      clear ho10 hg10
      have FIN : Hid (DoneP w (updT L key (nowD key val true)) (.returned (Value.slice none 0 0)) w10 → True) := fun _ => trivial
      obtain ⟨a9, c9', e9, m9⟩ := MpW.of (es := es.take F ++ ([] ++ es.drop (E9))) (L := updT L key (nowD key val true)) (by rw [List.flatten_append, List.flatten_append]; simpa using O10.out) (by
       rw [← HUP.out, HFF.out, HEE.out]
       exact ((HPS.out.take F).cef (CeF.of GW.out)).app ((PsW.nil _).app ((HPS.out.drop (E9)).cef (CeF.of GW.out)))) (by
       rw [← HUP.out, HFF.out, HEE.out]
       have := HE9.out
       simp [nowD]
       omega)
      subst e9
      have M9 := hid_intro m9
      clear m9
      go_wp2_with fail
      go_ret
      exact ⟨_, _, _, rfl, G10.out, M9.out⟩
    ·rw [decide_eq_false hc] at HC
     rw [if_neg hc, HFF.out] at HEE
     go_wp2
     go_quiet ((go_at_call 12; exact Calls.quiet_of_same (HC.out _ rfl)))
     generalize hwr : World.drewN _ _ = w2 at *
     have q2 : Qt wc w2 := by rw [← hwr]; exact Qt.drewN _ _
     have G2 := hid_intro (grown_trans G.out (q2.grown none))
     have O2 := hid_intro (HO.out.kept (q2.grown none) (Classical.em _))
     have hs2 : w2.heap.size = wc.heap.size := by rw [q2.heap]
     have HS2 := hid_intro hs2
     have TL := hid_intro ((HES.out.kept (by decide) (FrT.of G2.out)).tail2 (k := F) (by omega))
     have j0 : (0 : Int) ≤ ((F : Nat) : Int) := by omega
     have j1 : ((F : Nat) : Int) ≤ (n : Int) := by omega
     have j2 : (n : Int) ≤ (c : Int) := by omega
     clear hwr q2 e0 hs2
     go_wp2_with (at_builtin; refine append_es rfl _ _ 26 rfl w1.heap.size 35 ip (.agg #[.slice none 0 0, .slice none 0 0]) 2 48 Tryz.underlying26 hip hp0 hp1 hp2 rfl (by decide) (.slice la (F) lc) (F) ((es.take F).flatten) rfl O2.out _ _ _ (es.drop (F)) rfl ?he_3 ?c3_3 ?c4_3 ?c5_3 ?_)
     all_goals first
      | exact TL.out.2
      | (have h9 := TL.out.2; rw [Option.map_some, Addr.add_lit] at h9; exact h9)
      | exact TL.out.1 (by first | rfl | assumption | omega)
      | (unfold maxLen; omega)
      | omega
      | (have := HS2.out; omega)
      | skip
     all_goals
      intro v10 w10 ho10 hg10
      have G10 : Hid (w.grownBy w10 none) := by
       have h1 := grown_trans G0.out G2.out
       cases hb : (Value.slice la (F) lc).ownBlock with
       | none => rw [hb] at hg10; exact grown_trans h1 hg10
       | some d => rw [hb] at hg10; exact grown_new h1 hg10 (by have := (own_lt10 HO.out hb).1; have := G0.out.size; omega)
      have GW : Hid (w1.grownBy w10 none) := by
       have h1 := G2.out
       cases hb : (Value.slice la (F) lc).ownBlock with
       | none => rw [hb] at hg10; exact grown_trans h1 hg10
       | some d => rw [hb] at hg10; exact grown_new h1 hg10 (own_lt10 HO.out hb).1
      have O10 := hid_intro ho10
      clear ho10 hg10
      have FIN : Hid (DoneP w (updT L key (nowD key val true)) (.returned (Value.slice none 0 0)) w10 → True) := fun _ => trivial
      obtain ⟨a9, c9', e9, m9⟩ := MpW.of (es := es.take F ++ ([] ++ es.drop (F))) (L := updT L key (nowD key val true)) (by rw [List.flatten_append, List.flatten_append]; simpa using O10.out) (by
       rw [← HUP.out, HFF.out, HEE.out]
       exact ((HPS.out.take F).cef (CeF.of GW.out)).app ((PsW.nil _).app ((HPS.out.drop (F)).cef (CeF.of GW.out)))) (by
       rw [← HUP.out, HFF.out, HEE.out]
       simp [nowD]
       omega)
      subst e9
      have M9 := hid_intro m9
      clear m9
      go_wp2_with fail
      go_ret
      exact ⟨_, _, _, rfl, G10.out, M9.out⟩
   ·have i1 : ¬ (F : Int) < (n : Int) := by omega
    have i2 : decide ((F : Int) < (n : Int)) = false := decide_eq_false i1
    have i3 : decide (F < n) = false := decide_eq_false hlt
    have HEE := hid_intro (end_no (L := L) (key := key) (by rw [HFF.out, hLn]; omega))
    rw [HFF.out] at HEE
    go_wp2
    go_quiet (fail)
    generalize hwr : World.drewN _ _ = w2 at *
    have q2 : Qt wc w2 := by rw [← hwr]; exact Qt.drewN _ _
    have G2 := hid_intro (grown_trans G.out (q2.grown none))
    have O2 := hid_intro (HO.out.kept (q2.grown none) (Classical.em _))
    have hs2 : w2.heap.size = wc.heap.size := by rw [q2.heap]
    have HS2 := hid_intro hs2
    have TL := hid_intro ((HES.out.kept (by decide) (FrT.of G2.out)).tail2 (k := F) (by omega))
    have j0 : (0 : Int) ≤ ((F : Nat) : Int) := by omega
    have j1 : ((F : Nat) : Int) ≤ (n : Int) := by omega
    have j2 : (n : Int) ≤ (c : Int) := by omega
    clear hwr q2 e0 hs2
    go_wp2_with (at_builtin; refine append_es rfl _ _ 26 rfl w1.heap.size 35 ip (.agg #[.slice none 0 0, .slice none 0 0]) 2 48 Tryz.underlying26 hip hp0 hp1 hp2 rfl (by decide) (.slice la (F) lc) (F) ((es.take F).flatten) rfl O2.out _ _ _ (es.drop (F)) rfl ?he_4 ?c3_4 ?c4_4 ?c5_4 ?_)
    all_goals first
     | exact TL.out.2
     | (have h9 := TL.out.2; rw [Option.map_some, Addr.add_lit] at h9; exact h9)
     | exact TL.out.1 (by first | rfl | assumption | omega)
     | (unfold maxLen; omega)
     | omega
     | (have := HS2.out; omega)
     | skip
    all_goals
     intro v10 w10 ho10 hg10
     have G10 : Hid (w.grownBy w10 none) := by
      have h1 := grown_trans G0.out G2.out
      cases hb : (Value.slice la (F) lc).ownBlock with
      | none => rw [hb] at hg10; exact grown_trans h1 hg10
      | some d => rw [hb] at hg10; exact grown_new h1 hg10 (by have := (own_lt10 HO.out hb).1; have := G0.out.size; omega)
     have GW : Hid (w1.grownBy w10 none) := by
      have h1 := G2.out
      cases hb : (Value.slice la (F) lc).ownBlock with
      | none => rw [hb] at hg10; exact grown_trans h1 hg10
      | some d => rw [hb] at hg10; exact grown_new h1 hg10 (own_lt10 HO.out hb).1
     have O10 := hid_intro ho10
     clear ho10 hg10
     have FIN : Hid (DoneP w (updT L key (nowD key val true)) (.returned (Value.slice none 0 0)) w10 → True) := fun _ => trivial
     obtain ⟨a9, c9', e9, m9⟩ := MpW.of (es := es.take F ++ ([] ++ es.drop (F))) (L := updT L key (nowD key val true)) (by rw [List.flatten_append, List.flatten_append]; simpa using O10.out) (by
      rw [← HUP.out, HFF.out, HEE.out]
      exact ((HPS.out.take F).cef (CeF.of GW.out)).app ((PsW.nil _).app ((HPS.out.drop (F)).cef (CeF.of GW.out)))) (by
      rw [← HUP.out, HFF.out, HEE.out]
      simp [nowD]
      omega)
     subst e9
     have M9 := hid_intro m9
     clear m9
     go_wp2_with fail
     go_ret
     exact ⟨_, _, _, rfl, G10.out, M9.out⟩
 | false =>
  go_upto_block 0 with fail
  go_cut [5, 6] from 29 to 51 (fun s5 s6 wx => s6 = .int .i64 (F : Nat) ∧ w1.grownBy wx none ∧ wx.ownsRow w1.heap.size 35 2 s5 F (es.take F).flatten)
  case first =>
   clear lk lv
   go_wp2_with fail
   go_loopw [5, 6] (fun s5 s6 wr => ∃ k : Nat, k ≤ F ∧ s6 = .int .i64 (k : Nat) ∧ w1.grownBy wr none ∧ wr.ownsRow w1.heap.size 35 2 s5 k (es.take k).flatten) (fun _ si _ => n - (intOf si).toNat)
   case atStart => exact ⟨0, Nat.zero_le _, rfl, World.grownBy.refl _ _, ⟨rfl, .inl ⟨rfl, rfl⟩⟩⟩
   case round =>
    obtain ⟨k, hkF, rfl, hg, ho⟩ := hrel
    obtain ⟨la, lc, hv9⟩ := own_shape10 ho
    subst hv9
    have HO := hid_intro ho
    have G := hid_intro hg
    have e0 := hg.cell d0 (by simp)
    have hsz := hg.size
    by_cases hlt : k < n
    ·obtain ⟨p, hp⟩ : ∃ p, L[k]? = some p := ⟨_, List.getElem?_eq_getElem (by omega)⟩
     obtain ⟨b, off, pa, pc, qa, qc, rfl, c0, c1, b0, _⟩ := HMP.out.get hp
     have y0 := hg.cell c0 (by simp)
     have y1 := hg.cell c1 (by simp)
     have HC := hid_intro (fun (W : World) (hW : W.heap = wr.heap) => lessW pa ka p.key.length kn pc kc p.key key W ((b0.keptN hg).heap hW) ((HK.out.keptN hg).heap hW) (HDL.out p (List.mem_of_getElem? hp)) bk)
     have HP := hid_intro hp
     have i0 : (0 : Int) ≤ (k : Int) := by omega
     have i1 : (k : Int) < (n : Int) := by omega
     have i2 : decide ((k : Int) < (n : Int)) = true := decide_eq_true i1
     have i3 : decide (k < n) = true := decide_eq_true hlt
     have HCE : Hid ((es.take (k + 1)).flatten = (es.take k).flatten ++ [.slice pa p.key.length pc, .slice qa p.val.length qc]) := by
      obtain ⟨ka', kc', va', vc', e1, _, _⟩ := HPS.out.get k _ p (List.getElem?_eq_getElem (by omega)) hp
      obtain ⟨b', off', e4, _, e5⟩ := HES.out.cell k _ (List.getElem?_eq_getElem (by omega))
      cases e4
      rw [e1] at e5
      have f0 := e5 0 _ rfl
      have f1 := e5 1 _ rfl
      rw [Nat.add_zero, c0] at f0
      rw [c1] at f1
      have q0 := (Option.some.inj f0).symm
      have q1 := (Option.some.inj f1).symm
      show _ = _
      rw [takeS (List.getElem?_eq_getElem (show k < es.length by omega)), List.flatten_append, e1, q0, q1]
      simp
     obtain ⟨pl, hpl⟩ : ∃ pl, p.key.length = pl := ⟨_, rfl⟩
     obtain ⟨ql, hql⟩ : ∃ ql, p.val.length = ql := ⟨_, rfl⟩
     rw [hpl] at y0 HC HCE
     rw [hql] at y1 HCE
     clear hp c0 c1 b0 hg ho hpl hql
     by_cases hc : cmpZ p.key key < 0
     ·rw [decide_eq_true hc] at HC
      have hkF2 : k < F := by
       rcases Nat.lt_or_ge k F with h | h
       ·exact h
       ·have : k = F := by omega
        subst this
        have h9 := HP.out
        rw [← HFF.out] at h9
        exact absurd hc (find_ge h9)
      go_wp2
      go_quiet ((go_at_call 41; exact Calls.quiet_of_same (HC.out _ rfl)))
      generalize hwr : wr.drewN _ = w2 at *
      have q2 : Qt wr w2 := by rw [← hwr]; exact Qt.drewN _ _
      have z0 : w2.cell? ⟨b, off + k * 2, none⟩ = some (.slice pa pl pc) := (q2.cell _).trans y0
      have z1 : w2.cell? ⟨b, off + k * 2 + 1, none⟩ = some (.slice qa ql qc) := (q2.cell _).trans y1
      have G2 := hid_intro (grown_trans G.out (q2.grown none))
      have O2 := hid_intro (HO.out.kept (q2.grown none) (Classical.em _))
      have hs2 : w2.heap.size = wr.heap.size := by rw [q2.heap]
      have HS2 := hid_intro hs2
      clear hwr q2 y0 y1 e0 hs2
      go_wp2_with (at_builtin; refine append_at10 rfl _ _ 26 rfl w1.heap.size 35 ip (.agg #[.slice none 0 0, .slice none 0 0]) 2 48 Tryz.underlying26 hip hp0 hp1 hp2 rfl (by decide) _ k (es.take k).flatten rfl (O2.out.alloc _) ⟨w2.heap.size, 0, none⟩ 1 1 [.slice pa pl pc, .slice qa ql qc] rfl rfl ?c1_5 ?c2_5 ?c3_5 ?c4_5 ?c5_5 ?_)
      case c1_5 =>
       intro j u hu
       rw [Addr.add_lit, cell_of_row _ w2.heap.size _ _ _ (0, 0) (heap_alloc_new w2 _), Nat.zero_add]
       simpa using hu
      case c2_5 => simp [Value.oneCell']
      case c3_5 => unfold maxLen; omega
      case c4_5 => omega
      case c5_5 => have := HS2.out; simp; omega
      intro v9 w9 ho9 hg9 _
      have O9 := hid_intro ho9
      have G9 : Hid (w1.grownBy w9 none) := by
       have h1 := grown_al G2.out (.cells #[.slice pa pl pc, .slice qa ql qc] 35)
       cases hb : (Value.slice la k lc).ownBlock with
       | none => rw [hb] at hg9; exact grown_trans h1 hg9
       | some d => rw [hb] at hg9; exact grown_new h1 hg9 (own_lt10 HO.out hb).1
      clear ho9 hg9
      go_wp2_with fail
      go_roundw
      case rel => exact ⟨k + 1, by omega, by go_num, G9.out, by rw [HCE.out]; exact O9.out⟩
      case measure => simp [intOf]; omega
     ·rw [decide_eq_false hc] at HC
      have hkF2 : k = F := by
       rcases Nat.lt_or_ge k F with h | h
       ·rw [← HFF.out] at h
        exact absurd (find_lt HP.out h) hc
       ·omega
      subst hkF2
      go_wp2
      go_quiet ((go_at_call 41; exact Calls.quiet_of_same (HC.out _ rfl)))
      go_wp2_with fail
      go_meet
      exact ⟨rfl, grown_trans G.out ((Qt.drewN wr _).grown none), HO.out.kept ((Qt.drewN wr _).grown none) (Classical.em _)⟩
    ·have hkF2 : k = F := by omega
     have hnn : k = n := by omega
     have i1 : ¬ (k : Int) < (n : Int) := by omega
     have i2 : decide ((k : Int) < (n : Int)) = false := decide_eq_false i1
     have i3 : decide (k < n) = false := decide_eq_false hlt
     have HKF := hid_intro hkF2
     clear hkF2 hnn hg ho
     go_wp2
     go_quiet (fail)
     go_wp2_with fail
     go_meet
     have := HKF.out
     subst this
     exact ⟨rfl, grown_trans G.out ((Qt.drewN wr _).grown none), HO.out.kept ((Qt.drewN wr _).grown none) (Classical.em _)⟩
  case rest =>
   obtain ⟨rfl, hg, ho⟩ := hcut
   obtain ⟨la, lc, hv9⟩ := own_shape10 ho
   subst hv9
   have HO := hid_intro ho
   have G := hid_intro hg
   have e0 := hg.cell d0 (by simp)
   have e1 := hg.cell d1 (by simp)
   have e2 := hg.cell d2 (by simp)
   have hsz := hg.size
   clear d0 d1 d2 ho
   go_wp2_with (at_builtin; refine append_at10 rfl _ _ 26 rfl w1.heap.size 35 ip (.agg #[.slice none 0 0, .slice none 0 0]) 2 48 Tryz.underlying26 hip hp0 hp1 hp2 rfl (by decide) _ F (es.take F).flatten rfl (HO.out.alloc _) ⟨wc.heap.size, 0, none⟩ 1 1 [.slice ka kn kc, .slice va vn vc] rfl rfl ?c1_6 ?c2_6 ?c3_6 ?c4_6 ?c5_6 ?_)
   case c2_6 => simp [Value.oneCell']
   case c3_6 => unfold maxLen; omega
   case c4_6 => omega
   case c5_6 => first | omega | (simp; omega)
   intro v9 w9 ho9 hg9 _
   have O9 := hid_intro ho9
   have G9 : Hid (w1.grownBy w9 none) := by
    have h1 := grown_al G.out (.cells #[.slice ka kn kc, .slice va vn vc] 35)
    cases hb : (Value.slice la F lc).ownBlock with
    | none => rw [hb] at hg9; exact grown_trans h1 hg9
    | some d => rw [hb] at hg9; exact grown_new h1 hg9 (own_lt10 HO.out hb).1
   obtain ⟨l9, c9, hv9⟩ := own_shape10 ho9
   subst hv9
   have e0 := G9.out.cell (cell_heap (i := 0) X1.out rfl) (by simp)
   have hsz := G9.out.size
   clear ho9 hg9 hg
   have HN : Hid (BpW w1 [.slice ka kn kc, .slice va vn vc] ⟨key, val, []⟩) := by
    have a1 := HKL.out
    have a2 := HVL.out
    subst a1 a2
    exact ⟨ka, kc, va, vc, rfl, HK.out, HV.out⟩
   by_cases hlt : F < n
   ·obtain ⟨p, hp⟩ : ∃ p, L[F]? = some p := ⟨_, List.getElem?_eq_getElem (by omega)⟩
    obtain ⟨b, off, pa, pc, qa, qc, rfl, c0, c1, b0, _⟩ := HMP.out.get hp
    have y0 := G9.out.cell c0 (by simp)
    have HC := hid_intro (fun (W : World) (hW : W.heap = w9.heap) => sameW pa ka p.key.length kn pc kc p.key key W ((b0.keptN G9.out).heap hW) ((HK.out.keptN G9.out).heap hW) (HDL.out p (List.mem_of_getElem? hp)) bk)
    have HP := hid_intro hp
    have i0 : (0 : Int) ≤ (F : Int) := by omega
    have i1 : (F : Int) < (n : Int) := by omega
    have i2 : decide ((F : Int) < (n : Int)) = true := decide_eq_true i1
    have i3 : decide (F < n) = true := decide_eq_true hlt
    have HEE := hid_intro (end_has (key := key) (L := L) (p := p) (by rw [HFF.out]; exact hp))
    obtain ⟨pl, hpl⟩ : ∃ pl, p.key.length = pl := ⟨_, rfl⟩
    rw [hpl] at y0 HC
    clear hp c0 c1 b0 hpl
    by_cases hc : p.key = key
    ·rw [decide_eq_true hc] at HC
     rw [if_pos hc, HFF.out] at HEE
     go_wp2
     go_quiet ((go_at_call 12; exact Calls.quiet_of_same (HC.out _ rfl)))
     obtain ⟨E9, hE9⟩ : ∃ E9, F + 1 = E9 := ⟨_, rfl⟩
     rw [hE9] at HEE
     generalize hwr : World.drewN _ _ = w2 at *
     have q2 : Qt w9 w2 := by rw [← hwr]; exact Qt.drewN _ _
     have G2 := hid_intro (grown_trans G9.out (q2.grown none))
     have O2 := hid_intro (O9.out.kept (q2.grown none) (Classical.em _))
     have hs2 : w2.heap.size = w9.heap.size := by rw [q2.heap]
     have HS2 := hid_intro hs2
     have TL := hid_intro ((HES.out.kept (by decide) (FrT.of G2.out)).tail2 (k := E9) (by omega))
     have j0 : (0 : Int) ≤ ((E9 : Nat) : Int) := by omega
     have j1 : ((E9 : Nat) : Int) ≤ (n : Int) := by omega
     have j2 : (n : Int) ≤ (c : Int) := by omega
     clear hwr q2 e0 hs2
     have j3 : (F : Int) + 1 = (E9 : Int) := by omega
     have j4 : IntKind.i64.wrap (E9 : Int) = (E9 : Int) := by rw [IntKind.wrap_i64]; omega
     have HE9 := hid_intro hE9
     clear hE9
     go_wp2_with (at_builtin; refine append_es rfl _ _ 26 rfl w1.heap.size 35 ip (.agg #[.slice none 0 0, .slice none 0 0]) 2 48 Tryz.underlying26 hip hp0 hp1 hp2 rfl (by decide) (.slice l9 (F + 1) c9) (F + 1) ((es.take F).flatten ++ [.slice ka kn kc, .slice va vn vc]) rfl O2.out _ _ _ (es.drop (E9)) rfl ?he_7 ?c3_7 ?c4_7 ?c5_7 ?_)
     all_goals first
      | exact TL.out.2
      | (have h9 := TL.out.2; rw [Option.map_some, Addr.add_lit] at h9; exact h9)
      | exact TL.out.1 (by first | rfl | assumption | omega)
      | (unfold maxLen; omega)
      | omega
      | (have := HS2.out; omega)
      | skip
     all_goals
      intro v10 w10 ho10 hg10
      have G10 : Hid (w.grownBy w10 none) := by
       have h1 := grown_trans G0.out G2.out
       cases hb : (Value.slice l9 (F + 1) c9).ownBlock with
       | none => rw [hb] at hg10; exact grown_trans h1 hg10
       | some d => rw [hb] at hg10; exact grown_new h1 hg10 (by have := (own_lt10 O9.out hb).1; have := G0.out.size; omega)
      have GW : Hid (w1.grownBy w10 none) := by
       have h1 := G2.out
       cases hb : (Value.slice l9 (F + 1) c9).ownBlock with
       | none => rw [hb] at hg10; exact grown_trans h1 hg10
       | some d => rw [hb] at hg10; exact grown_new h1 hg10 (own_lt10 O9.out hb).1
      have O10 := hid_intro ho10
      clear ho10 hg10
      have FIN : Hid (DoneP w (updT L key (nowD key val false)) (.returned (Value.slice none 0 0)) w10 → True) := fun _ => trivial
      obtain ⟨a9, c9', e9, m9⟩ := MpW.of (es := es.take F ++ ([[.slice ka kn kc, .slice va vn vc]] ++ es.drop (E9))) (L := updT L key (nowD key val false)) (by rw [List.flatten_append, List.flatten_append]; simpa using O10.out) (by
       rw [← HUP.out, HFF.out, HEE.out]
       exact ((HPS.out.take F).cef (CeF.of GW.out)).app ((PsW.one (BpW.cef (CeF.of GW.out) HN.out)).app ((HPS.out.drop (E9)).cef (CeF.of GW.out)))) (by
       rw [← HUP.out, HFF.out, HEE.out]
       have := HE9.out
       simp [nowD]
       omega)
      subst e9
      have M9 := hid_intro m9
      clear m9
      go_wp2_with fail
      go_ret
      exact ⟨_, _, _, rfl, G10.out, M9.out⟩
    ·rw [decide_eq_false hc] at HC
     rw [if_neg hc, HFF.out] at HEE
     go_wp2
     go_quiet ((go_at_call 12; exact Calls.quiet_of_same (HC.out _ rfl)))
     generalize hwr : World.drewN _ _ = w2 at *
     have q2 : Qt w9 w2 := by rw [← hwr]; exact Qt.drewN _ _
     have G2 := hid_intro (grown_trans G9.out (q2.grown none))
     have O2 := hid_intro (O9.out.kept (q2.grown none) (Classical.em _))
     have hs2 : w2.heap.size = w9.heap.size := by rw [q2.heap]
     have HS2 := hid_intro hs2
     have TL := hid_intro ((HES.out.kept (by decide) (FrT.of G2.out)).tail2 (k := F) (by omega))
     have j0 : (0 : Int) ≤ ((F : Nat) : Int) := by omega
     have j1 : ((F : Nat) : Int) ≤ (n : Int) := by omega
     have j2 : (n : Int) ≤ (c : Int) := by omega
     clear hwr q2 e0 hs2
     go_wp2_with (at_builtin; refine append_es rfl _ _ 26 rfl w1.heap.size 35 ip (.agg #[.slice none 0 0, .slice none 0 0]) 2 48 Tryz.underlying26 hip hp0 hp1 hp2 rfl (by decide) (.slice l9 (F + 1) c9) (F + 1) ((es.take F).flatten ++ [.slice ka kn kc, .slice va vn vc]) rfl O2.out _ _ _ (es.drop (F)) rfl ?he_8 ?c3_8 ?c4_8 ?c5_8 ?_)
     all_goals first
      | exact TL.out.2
      | (have h9 := TL.out.2; rw [Option.map_some, Addr.add_lit] at h9; exact h9)
      | exact TL.out.1 (by first | rfl | assumption | omega)
      | (unfold maxLen; omega)
      | omega
      | (have := HS2.out; omega)
      | skip
     all_goals
      intro v10 w10 ho10 hg10
      have G10 : Hid (w.grownBy w10 none) := by
       have h1 := grown_trans G0.out G2.out
       cases hb : (Value.slice l9 (F + 1) c9).ownBlock with
       | none => rw [hb] at hg10; exact grown_trans h1 hg10
       | some d => rw [hb] at hg10; exact grown_new h1 hg10 (by have := (own_lt10 O9.out hb).1; have := G0.out.size; omega)
      have GW : Hid (w1.grownBy w10 none) := by
       have h1 := G2.out
       cases hb : (Value.slice l9 (F + 1) c9).ownBlock with
       | none => rw [hb] at hg10; exact grown_trans h1 hg10
       | some d => rw [hb] at hg10; exact grown_new h1 hg10 (own_lt10 O9.out hb).1
      have O10 := hid_intro ho10
      clear ho10 hg10
      have FIN : Hid (DoneP w (updT L key (nowD key val false)) (.returned (Value.slice none 0 0)) w10 → True) := fun _ => trivial
      obtain ⟨a9, c9', e9, m9⟩ := MpW.of (es := es.take F ++ ([[.slice ka kn kc, .slice va vn vc]] ++ es.drop (F))) (L := updT L key (nowD key val false)) (by rw [List.flatten_append, List.flatten_append]; simpa using O10.out) (by
       rw [← HUP.out, HFF.out, HEE.out]
       exact ((HPS.out.take F).cef (CeF.of GW.out)).app ((PsW.one (BpW.cef (CeF.of GW.out) HN.out)).app ((HPS.out.drop (F)).cef (CeF.of GW.out)))) (by
       rw [← HUP.out, HFF.out, HEE.out]
       simp [nowD]
       omega)
      subst e9
      have M9 := hid_intro m9
      clear m9
      go_wp2_with fail
      go_ret
      exact ⟨_, _, _, rfl, G10.out, M9.out⟩
   ·have i1 : ¬ (F : Int) < (n : Int) := by omega
    have i2 : decide ((F : Int) < (n : Int)) = false := decide_eq_false i1
    have i3 : decide (F < n) = false := decide_eq_false hlt
    have HEE := hid_intro (end_no (L := L) (key := key) (by rw [HFF.out, hLn]; omega))
    rw [HFF.out] at HEE
    go_wp2
    go_quiet (fail)
    generalize hwr : World.drewN _ _ = w2 at *
    have q2 : Qt w9 w2 := by rw [← hwr]; exact Qt.drewN _ _
    have G2 := hid_intro (grown_trans G9.out (q2.grown none))
    have O2 := hid_intro (O9.out.kept (q2.grown none) (Classical.em _))
    have hs2 : w2.heap.size = w9.heap.size := by rw [q2.heap]
    have HS2 := hid_intro hs2
    have TL := hid_intro ((HES.out.kept (by decide) (FrT.of G2.out)).tail2 (k := F) (by omega))
    have j0 : (0 : Int) ≤ ((F : Nat) : Int) := by omega
    have j1 : ((F : Nat) : Int) ≤ (n : Int) := by omega
    have j2 : (n : Int) ≤ (c : Int) := by omega
    clear hwr q2 e0 hs2
    go_wp2_with (at_builtin; refine append_es rfl _ _ 26 rfl w1.heap.size 35 ip (.agg #[.slice none 0 0, .slice none 0 0]) 2 48 Tryz.underlying26 hip hp0 hp1 hp2 rfl (by decide) (.slice l9 (F + 1) c9) (F + 1) ((es.take F).flatten ++ [.slice ka kn kc, .slice va vn vc]) rfl O2.out _ _ _ (es.drop (F)) rfl ?he_9 ?c3_9 ?c4_9 ?c5_9 ?_)
    all_goals first
     | exact TL.out.2
     | (have h9 := TL.out.2; rw [Option.map_some, Addr.add_lit] at h9; exact h9)
     | exact TL.out.1 (by first | rfl | assumption | omega)
     | (unfold maxLen; omega)
     | omega
     | (have := HS2.out; omega)
     | skip
    all_goals
     intro v10 w10 ho10 hg10
     have G10 : Hid (w.grownBy w10 none) := by
      have h1 := grown_trans G0.out G2.out
      cases hb : (Value.slice l9 (F + 1) c9).ownBlock with
      | none => rw [hb] at hg10; exact grown_trans h1 hg10
      | some d => rw [hb] at hg10; exact grown_new h1 hg10 (by have := (own_lt10 O9.out hb).1; have := G0.out.size; omega)
     have GW : Hid (w1.grownBy w10 none) := by
      have h1 := G2.out
      cases hb : (Value.slice l9 (F + 1) c9).ownBlock with
      | none => rw [hb] at hg10; exact grown_trans h1 hg10
      | some d => rw [hb] at hg10; exact grown_new h1 hg10 (own_lt10 O9.out hb).1
     have O10 := hid_intro ho10
     clear ho10 hg10
     have FIN : Hid (DoneP w (updT L key (nowD key val false)) (.returned (Value.slice none 0 0)) w10 → True) := fun _ => trivial
     obtain ⟨a9, c9', e9, m9⟩ := MpW.of (es := es.take F ++ ([[.slice ka kn kc, .slice va vn vc]] ++ es.drop (F))) (L := updT L key (nowD key val false)) (by rw [List.flatten_append, List.flatten_append]; simpa using O10.out) (by
      rw [← HUP.out, HFF.out, HEE.out]
      exact ((HPS.out.take F).cef (CeF.of GW.out)).app ((PsW.one (BpW.cef (CeF.of GW.out) HN.out)).app ((HPS.out.drop (F)).cef (CeF.of GW.out)))) (by
      rw [← HUP.out, HFF.out, HEE.out]
      simp [nowD]
      omega)
     subst e9
     have M9 := hid_intro m9
     clear m9
     go_wp2_with fail
     go_ret
     exact ⟨_, _, _, rfl, G10.out, M9.out⟩
end Go.Proofs.YtndanifjommpdaaGreat
namespace Go.Proofs.YtndanifjommpdaaGreat
open Go.RowKit
theorem done_any (a : Option Addr) (n c : Nat) (L : List PrT) (ka : Option Addr) (kn kc : Nat) (key : List Int) (va : Option Addr) (vn vc : Nat) (val : List Int) (gone : Bool) (w : World) (hl : MpW w a n c L) (hk : Byt w ka kn kc key) (hv : Byt w va vn vc val) (bk : Bt key) (bl : ∀ p ∈ L, Bt p.key) (hsr : Srt L) (hn : n ≤ 100000) (h3 : vn ≤ 262144) :
  Calls Tryz.prog 27 #[.slice a n c, .agg #[.slice ka kn kc, .slice va vn vc, .bool gone]] w fun en w' => DoneP w (doneD L key val gone) en w' := by
 have lk := hk.len
 have lv := hv.len
 by_cases hb : kn < 1 ∨ 255 < kn
 ·have e : doneD L key val gone = L := by
   unfold doneD badD
   rw [if_pos]
   rw [lk]
   rcases hb with h | h
   ·simp only [h, decide_true, Bool.true_or]
   ·simp only [h, decide_true, Bool.true_or, Bool.or_true]
  rw [e]
  exact done_bad a n c L ka kn kc va vn vc gone w hl hb
 ·have e : doneD L key val gone = updT L key (nowD key val gone) := by
   unfold doneD
   rw [if_neg]
   unfold badD
   rw [lk, lv]
   have e1 : decide (kn < 1) = false := decide_eq_false (by omega)
   have e2 : decide (255 < kn) = false := decide_eq_false (by omega)
   have e3 : decide (262144 < vn) = false := decide_eq_false (by omega)
   rw [e1, e2, e3]
   simp
  rw [e]
  exact done_ok a n c L ka kn kc key va vn vc val gone w hl hk hv bk bl hsr hn (by omega) (by omega) h3
theorem upd_gone {k : Nat} {t : Option TrT} {L : List PrT} {key val : List Int} (h : GwT k t L) : updT L key [] = doneD L key val true := by
 unfold doneD
 by_cases hb : badD key val true = true
 ·rw [if_pos hb]
  have hm : midT L key = [] := List.filter_eq_nil_iff.2 fun p hp hc => by
   have hv := h.vp p hp
   have hk : p.key = key := cmp_zero (by simpa using hc)
   have h1 := hv.k1
   have h2 := hv.k2
   rw [hk] at h1 h2
   unfold badD at hb
   simp only [Bool.not_true, Bool.false_and, Bool.or_false, Bool.or_eq_true, decide_eq_true_eq] at hb
   omega
  have := upd_same (key := key) h.srt
  rw [hm] at this
  exact this
 ·rw [if_neg hb]
  rfl
def StpP (w : World) (k : Nat) (L : List PrT) (en : Ending) (w' : World) : Prop := ∃ q u x, en = .returned (.tuple #[.pointer (some ⟨q, 0, none⟩), x]) ∧ TreeT w' q u ∧ GwT (k + 1) u L ∧ w.grownBy w' none
theorem wo_any {k : Nat} {t : Option TrT} {L : List PrT} (h : GwT k t L) (p : Nat) (ka : Option Addr) (kn kc : Nat) (key val : List Int) (w : World) (ht : TreeT w p t) (hk : Byt w ka kn kc key) (bt : Bt key) :
  Calls Tryz.prog 28 #[.pointer (some ⟨p, 0, none⟩), .slice ka kn kc] w fun en w' => StpP w k (doneD L key val true) en w' := by
 refine (without_any changedC t p ka kn kc key w ht h.ok hk bt).mono ?_
 rintro en w' ⟨hw, hg⟩
 rw [← upd_gone (val := val) h]
 have hn := now_nil key
 have hc : ∀ p ∈ ([] : List PrT), p.chain = [] := fun p hp => by cases hp
 cases e : treeT t key [] with
 | none =>
  rw [e] at hw
  exact ⟨p, t, _, hw, ht.kept (FrT.of hg), h.same hn hc e, hg⟩
 | some u =>
  rw [e] at hw
  obtain ⟨q, h1, h2⟩ := hw
  exact ⟨q, u, _, h1, h2, h.step hn hc e, hg⟩
theorem wi_any {k : Nat} {t : Option TrT} {L : List PrT} (h : GwT k t L) (p : Nat) (ka : Option Addr) (kn kc : Nat) (key : List Int) (va : Option Addr) (vn vc : Nat) (val : List Int) (w : World) (ht : TreeT w p t) (hk : Byt w ka kn kc key) (bt : Bt key) (hv : Byt w va vn vc val) (bv : Bt val) (h3 : vn ≤ 262144) :
  Calls Tryz.prog 30 #[.pointer (some ⟨p, 0, none⟩), .slice ka kn kc, .slice va vn vc] w fun en w' => StpP w k (doneD L key val false) en w' := by
 have lk := hk.len
 have lv := hv.len
 by_cases hb : kn < 1 ∨ 255 < kn
 ·have e : doneD L key val false = L := by
   unfold doneD badD
   rw [if_pos]
   rw [lk]
   rcases hb with h | h
   ·simp only [h, decide_true, Bool.true_or]
   ·simp only [h, decide_true, Bool.true_or, Bool.or_true]
  rw [e]
  refine (with_bad p ka kn kc va vn vc w (by omega)).mono ?_
  rintro en w' ⟨rfl, hg⟩
  exact ⟨p, t, _, rfl, ht.kept (FrT.of hg), h.more, hg⟩
 ·have e0 : badD key val false = false := by
   unfold badD
   rw [lk, lv]
   have e1 : decide (kn < 1) = false := decide_eq_false (by omega)
   have e2 : decide (255 < kn) = false := decide_eq_false (by omega)
   have e3 : decide (262144 < vn) = false := decide_eq_false (by omega)
   rw [e1, e2, e3]
   rfl
  have e : doneD L key val false = updT L key [⟨key, val, []⟩] := by
   unfold doneD
   rw [if_neg (by rw [e0]; simp)]
   rfl
  obtain ⟨hn, hc⟩ := now_ok e0 bt bv
  rw [e]
  refine (with_any changedC t p ka kn kc key va vn vc val w ht h.ok hk bt hv (by omega) (by omega) h3 hn).mono ?_
  rintro en w' ⟨hw, hg⟩
  cases e1 : treeT t key [⟨key, val, []⟩] with
  | none =>
   rw [e1] at hw
   exact ⟨p, t, _, hw, ht.kept (FrT.of hg), h.same hn hc e1, hg⟩
  | some u =>
   rw [e1] at hw
   obtain ⟨q, h1, h2⟩ := hw
   exact ⟨q, u, _, h1, h2, h.step hn hc e1, hg⟩
set_option maxHeartbeats 1000000 in
set_option maxRecDepth 100000 in
theorem empty_any (w : World) : Calls Tryz.prog 25 #[] w fun en w' => ∃ p, en = .returned (.pointer (some ⟨p, 0, none⟩)) ∧ TreeT w' p none ∧ w.grownBy w' none := by
 go_enter Tryz.func25, Tryz.ntmps25
 go_wp2
 go_ret
 exact ⟨_, rfl, ⟨_, _, _, _, _, _, heap_at0 w _ _, rfl⟩, World.grownBy_alloc w _ none⟩
end Go.Proofs.YtndanifjommpdaaGreat
namespace Go.Proofs.YtndanifjommpdaaGreat
open Go.RowKit
structure CgT where
 key : List Int
 val : List Int
 gone : Bool
structure CgE (w : World) (a : Option Addr) (i : Nat) (x : CgT) (b off : Nat) (ka : Option Addr) (kc : Nat) (va : Option Addr) (vc : Nat) : Prop where
 a : a = some ⟨b, off, none⟩
 c0 : w.cell? ⟨b, off + i * 3, none⟩ = some (.slice ka x.key.length kc)
 c1 : w.cell? ⟨b, off + i * 3 + 1, none⟩ = some (.slice va x.val.length vc)
 c2 : w.cell? ⟨b, off + i * 3 + 2, none⟩ = some (.bool x.gone)
 k : Byt w ka x.key.length kc x.key
 v : Byt w va x.val.length vc x.val
 bk : Bt x.key
 bv : Bt x.val
def CgW (w : World) (a : Option Addr) (C : List CgT) : Prop := ∀ (i : Nat) (x : CgT), C[i]? = some x → ∃ b off ka kc va vc, CgE w a i x b off ka kc va vc
theorem CgW.cef {w W : World} (h : CeF w W) {a : Option Addr} {C : List CgT} (k : CgW w a C) : CgW W a C := fun i x hx => by
 obtain ⟨b, off, ka, kc, va, vc, e⟩ := k i x hx
 exact ⟨b, off, ka, kc, va, vc, e.a, h.cell e.c0, h.cell e.c1, h.cell e.c2, byt_cef h e.k, byt_cef h e.v, e.bk, e.bv⟩
def stepG (L : List PrT) (x : CgT) : List PrT := if 1000 < x.val.length ∨ 1000 < x.key.length then L else doneD L x.key x.val x.gone
def grG (C : List CgT) : List PrT := (C.take 400).foldl stepG []
theorem fold_snoc {C : List CgT} {k : Nat} {x : CgT} (h : C[k]? = some x) : (C.take (k + 1)).foldl stepG [] = stepG ((C.take k).foldl stepG []) x := by
 rw [takeS h, List.foldl_append]
 rfl
def GrnP (w : World) (L : List PrT) (en : Ending) (w' : World) : Prop := ∃ p t a n c, en = .returned (.tuple #[.pointer (some ⟨p, 0, none⟩), .slice a n c, .bool true]) ∧ TreeT w' p t ∧ GwT 400 t L ∧ MpW w' a n c L ∧ w.grownBy w' none
theorem GwT.up {k m : Nat} {t : Option TrT} {L : List PrT} (h : GwT k t L) (hk : k ≤ m) : GwT m t L := ⟨h.ok, h.fl, by have := h.hi; omega, by have := h.le; omega, h.ch⟩
theorem MpW.len {w : World} {a : Option Addr} {n c : Nat} {L : List PrT} (h : MpW w a n c L) : L.length = n := h.1
set_option maxHeartbeats 16000000 in
set_option maxRecDepth 100000 in
theorem grown_law (a : Option Addr) (n c : Nat) (C : List CgT) (w : World) (hC : CgW w a C) (hn : C.length = n) :
  Calls Tryz.prog 6 #[.slice a n c] w fun en w' => GrnP w (grG C) en w' := by
 have HC := hid_intro hC
 have HN := hid_intro hn
 clear hC
 go_enter Tryz.func6, Tryz.ntmps6
 go_wp2_with fail
 refine (empty_any w).mono ?_
 rintro en w1 ⟨p0, rfl, ht0, hg0⟩
 have HT0 := hid_intro ht0
 have G0 := hid_intro hg0
 clear ht0 hg0
 go_wp2_with fail
 go_loopw [5, 6, 7] (fun s5 s6 s7 wr => ∃ (k p : Nat) (t : Option TrT) (ma : Option Addr) (mn mc : Nat), k ≤ n ∧ k ≤ 400 ∧ s5 = .pointer (some ⟨p, 0, none⟩) ∧ s6 = .slice ma mn mc ∧ s7 = .int .i64 (k : Nat) ∧ TreeT wr p t ∧ GwT k t ((C.take k).foldl stepG []) ∧ MpW wr ma mn mc ((C.take k).foldl stepG []) ∧ w.grownBy wr none) (fun _ _ s7 _ => n - (intOf s7).toNat)
 case atStart => exact ⟨0, p0, none, none, 0, 0, Nat.zero_le _, Nat.zero_le _, rfl, rfl, rfl, HT0.out, GwT.start, MpW.nil _, G0.out⟩
 case round =>
  obtain ⟨k, p, t, ma, mn, mc, hkn, hk4, rfl, rfl, rfl, htr, hgw, hmp, hg⟩ := hrel
  have HT := hid_intro htr
  have HW := hid_intro hgw
  have HM := hid_intro hmp
  have G := hid_intro hg
  clear htr hgw hmp hg
  by_cases hlt : k < n ∧ k < 400
  ·obtain ⟨l1, l2⟩ := hlt
   have i0 : (0 : Int) ≤ (k : Int) := by omega
   have i1 : (k : Int) < (n : Int) := by omega
   have i2 : (k : Int) < 400 := by omega
   obtain ⟨x, hx⟩ : ∃ x, C[k]? = some x := ⟨_, List.getElem?_eq_getElem (by omega)⟩
   obtain ⟨b, off, ka, kc, va, vc, e⟩ := (HC.out.cef (CeF.of G.out)) k x hx
   have ea := e.a
   subst ea
   have c0 := e.c0
   have c1 := e.c1
   have c2 := e.c2
   have KB := hid_intro e.k
   have VB := hid_intro e.v
   have BK := hid_intro e.bk
   have BV := hid_intro e.bv
   have HF := hid_intro (fold_snoc hx)
   obtain ⟨ky, vl, gone⟩ := x
   simp only at c0 c1 c2 KB VB BK BV
   obtain ⟨kn, hkl⟩ : ∃ kn, ky.length = kn := ⟨_, rfl⟩
   obtain ⟨vn, hvl⟩ : ∃ vn, vl.length = vn := ⟨_, rfl⟩
   have HST : Hid (stepG ((C.take k).foldl stepG []) ⟨ky, vl, gone⟩ = if 1000 < vn ∨ 1000 < kn then (C.take k).foldl stepG [] else doneD ((C.take k).foldl stepG []) ky vl gone) := by
    show _ = _
    unfold stepG
    simp only [hkl, hvl]
   rw [hkl] at c0 KB
   rw [hvl] at c1 VB
   have HKL := hid_intro hkl
   have HVL := hid_intro hvl
   clear e hx hkl hvl
   generalize (C.take k).foldl stepG [] = L at *
   by_cases b1 : 1000 < vn
   ·have k1 : (1000 : Int) < (vn : Int) := by omega
    go_wp2_with fail
    go_roundw
    case rel => exact ⟨k + 1, p, t, ma, mn, mc, by omega, by omega, rfl, rfl, by go_num, HT.out, by rw [HF.out, HST.out, if_pos (.inl b1)]; exact HW.out.more, by rw [HF.out, HST.out, if_pos (.inl b1)]; exact HM.out, G.out⟩
    case measure => simp [intOf]; omega
   ·have k1 : ¬ (1000 : Int) < (vn : Int) := by omega
    by_cases b2 : 1000 < kn
    ·have k2 : (1000 : Int) < (kn : Int) := by omega
     go_wp2_with fail
     go_roundw
     case rel => exact ⟨k + 1, p, t, ma, mn, mc, by omega, by omega, rfl, rfl, by go_num, HT.out, by rw [HF.out, HST.out, if_pos (.inr b2)]; exact HW.out.more, by rw [HF.out, HST.out, if_pos (.inr b2)]; exact HM.out, G.out⟩
     case measure => simp [intOf]; omega
    ·have k2 : ¬ (1000 : Int) < (kn : Int) := by omega
     rw [if_neg (by omega)] at HST
     have CH := hid_intro (change_any ka va kn kc vn vc ky vl gone wr KB.out VB.out (by omega) (by omega))
     go_wp2_with fail
     refine CH.out.mono ?_
     rintro en w2 ⟨xa, xc, ya, yc, rfl, hg2, hx2, hy2⟩
     rw [HKL.out] at hx2 ⊢
     rw [HVL.out] at hy2 ⊢
     have X2 := hid_intro hx2
     have Y2 := hid_intro hy2
     have G2 := hid_intro hg2
     clear hx2 hy2 hg2 c0 c1 c2 CH
     have Y1 := hid_intro (heap_at0 w2 #[.slice xa kn xc, .slice ya vn yc, .bool gone] 46)
     have G3 := hid_intro (World.grownBy_alloc w2 (.cells #[.slice xa kn xc, .slice ya vn yc, .bool gone] 46) none)
     go_upto_region 8 with fail
     generalize w2.alloc (.cells #[.slice xa kn xc, .slice ya vn yc, .bool gone] 46) = W3 at *
     obtain ⟨B, hB⟩ : ∃ B, w2.heap.size = B := ⟨_, rfl⟩
     rw [hB] at Y1 ⊢
     clear hB
     have s0 := cell_heap (i := 0) Y1.out rfl
     have s1 := cell_heap (i := 1) Y1.out rfl
     have s2 := cell_heap (i := 2) Y1.out rfl
     have GA := hid_intro (grown_trans G2.out G3.out)
     have X3 := hid_intro (X2.out.keptN G3.out)
     have Y3 := hid_intro (Y2.out.keptN G3.out)
     have M3 := hid_intro (HM.out.cef (CeF.of GA.out))
     have DC := hid_intro (done_any ma mn mc L xa kn xc ky ya vn yc vl gone W3 M3.out X3.out Y3.out BK.out (fun q hq => (HW.out.vp q hq).kb) HW.out.srt (by have := HM.out.len; have := HW.out.le; omega) (by omega))
     have hml := HM.out.len
     go_wp2_with fail
     refine DC.out.mono ?_
     rintro en w4 ⟨da, dn, dc, rfl, hg4, hm4⟩
     have G4 := hid_intro hg4
     have M4 := hid_intro hm4
     have t0 := hg4.cell s0 (by simp)
     have t1 := hg4.cell s1 (by simp)
     have t2 := hg4.cell s2 (by simp)
     have X4 := hid_intro (X3.out.keptN hg4)
     have Y4 := hid_intro (Y3.out.keptN hg4)
     have GB := hid_intro (grown_trans GA.out hg4)
     clear s0 s1 s2 hg4 hm4 DC hml
     cases gone with
     | true =>
      have BC := hid_intro (refBytes_any xa kn xc ky w4 X4.out (by omega))
      go_wp2_with fail
      refine BC.out.mono ?_
      rintro en w5 ⟨rfl, ho5, hg5, _⟩
      have WC := hid_intro (wo_any HW.out p (some ⟨w4.heap.size, 0, none⟩) kn kn ky vl w5 (HT.out.kept (FrT.of (grown_trans GB.out hg5))) (own_bytT ho5) BK.out)
      have G5 := hid_intro hg5
      clear ho5 hg5 BC
      go_wp2_with fail
      refine WC.out.mono ?_
      rintro en w6 ⟨q, u, x6, rfl, ht6, hw6, hg6⟩
      have T6 := hid_intro ht6
      have W6 := hid_intro hw6
      have G6 := hid_intro hg6
      clear ht6 hw6 hg6 WC
      go_wp2_with fail
      go_roundw
      case rel => exact ⟨k + 1, q, u, da, dn, dc, by omega, by omega, rfl, rfl, by go_num, T6.out, by rw [HF.out, HST.out]; exact W6.out, by rw [HF.out, HST.out]; exact M4.out.cef (CeF.of (grown_trans G5.out G6.out)), grown_trans G.out (grown_trans GB.out (grown_trans G5.out G6.out))⟩
      case measure => simp [intOf]; omega
     | false =>
      go_upto_region 11 with fail
      have x0 : w4.cell? ⟨B, 0, none⟩ = some (.slice xa kn xc) := t0
      have x1 : w4.cell? ⟨B, 1, none⟩ = some (.slice ya vn yc) := t1
      clear t0 t1 t2
      go_region_held3 (fun w' => w'.cell? ⟨B, 0, none⟩ = some (.slice xa kn xc) ∧ w'.cell? ⟨B, 1, none⟩ = some (.slice ya vn yc)) (first | exact ⟨x0, x1⟩ | exact T5.out | exact T6.out | exact T7.out | go_keep)
       (first
        | (go_at_call_of 29 (Value.slice xa kn xc); refine (refBytes_any xa kn xc ky w4.drew (X4.out.heap rfl) (by omega)).mono ?_; rintro en w5 ⟨rfl, ho5, hg5, hs5⟩; have O5 := hid_intro ho5; have G5 := hid_intro (undrewW hg5); have T5 := hid_intro (And.intro (G5.out.cell x0 (by simp)) (G5.out.cell x1 (by simp))); clear ho5 hg5 hs5)
        | (go_at_call_of 29 (Value.slice ya vn yc); refine (refBytes_any ya vn yc vl w5 (Y4.out.keptN G5.out) (by omega)).mono ?_; rintro en w6 ⟨rfl, ho6, hg6, hs6⟩; have O6 := hid_intro ho6; have G56 := hid_intro hg6; have G6 := hid_intro (grown_trans G5.out hg6); have T6 := hid_intro (And.intro (G6.out.cell x0 (by simp)) (G6.out.cell x1 (by simp))); clear ho6 hg6 hs6)
        | (go_at_call 30; refine (wi_any HW.out p (some ⟨w4.heap.size, 0, none⟩) kn kn ky (some ⟨w5.heap.size, 0, none⟩) vn vn vl w6 (HT.out.kept (FrT.of (grown_trans GB.out G6.out))) ((own_bytT O5.out).keptN G56.out) BK.out (own_bytT O6.out) BV.out (by omega)).mono ?_; rintro en w7 ⟨q, u, x7, rfl, ht7, hw7, hg7⟩; have H7 := hid_intro ht7; have W7 := hid_intro hw7; have G7 := hid_intro hg7; have T7 := hid_intro (And.intro ((grown_trans G6.out hg7).cell x0 (by simp)) ((grown_trans G6.out hg7).cell x1 (by simp))); clear ht7 hw7 hg7)
        | fail)
      all_goals
       go_wp2_with fail
       go_roundw
      all_goals first
       | exact ⟨k + 1, q, u, da, dn, dc, by omega, by omega, rfl, rfl, by go_num, H7.out, by rw [HF.out, HST.out]; exact W7.out, by rw [HF.out, HST.out]; exact M4.out.cef (CeF.of (grown_trans G6.out G7.out)), grown_trans G.out (grown_trans GB.out (grown_trans G6.out G7.out))⟩
       | (simp [intOf]; omega)
  ·have hk9 : (C.take k) = C.take 400 := by
    have hl := HN.out
    rcases Nat.lt_or_ge k n with h | h
    ·have : k = 400 := by omega
     rw [this]
    ·rw [List.take_of_length_le (by omega), List.take_of_length_le (by omega)]
   rw [hk9] at HW HM
   have HW4 := hid_intro (HW.out.up hk4)
   clear hk9
   by_cases l1 : k < n
   ·have i1 : (k : Int) < (n : Int) := by omega
    have i2 : ¬ (k : Int) < 400 := by omega
    go_wp2_with fail
    go_ret3
    exact ⟨p, t, ma, mn, mc, rfl, HT.out, HW4.out, HM.out, G.out⟩
   ·have i1 : ¬ (k : Int) < (n : Int) := by omega
    go_wp2_with fail
    go_ret3
    exact ⟨p, t, ma, mn, mc, rfl, HT.out, HW4.out, HM.out, G.out⟩
end Go.Proofs.YtndanifjommpdaaGreat
namespace Go.Proofs.YtndanifjommpdaaGreat
open Go.RowKit
set_option maxHeartbeats 1000000 in
set_option maxRecDepth 100000 in
theorem samePair11 (a1 b1 a2 b2 : Option Addr) (n1 m1 c1 d1 c2 d2 : Nat) (k v : List Int) (w : World) (h1 : Byt w a1 n1 c1 k) (h2 : Byt w b1 m1 d1 v) (h3 : Byt w a2 n1 c2 k) (h4 : Byt w b2 m1 d2 v) :
  Calls Tryz.prog 16 #[.agg #[.slice a1 n1 c1, .slice b1 m1 d1], .agg #[.slice a2 n1 c2, .slice b2 m1 d2]] w fun en w' => en = .returned (.bool true) ∧ w.grownBy w' none := by
 have ga := World.grownBy_alloc w (.cells #[.slice a1 n1 c1, .slice b1 m1 d1] 35) none
 have gb := grown_trans ga (World.grownBy_alloc (w.alloc (.cells #[.slice a1 n1 c1, .slice b1 m1 d1] 35)) (.cells #[.slice a2 n1 c2, .slice b2 m1 d2] 35) none)
 have HG := hid_intro gb
 have HC1 := hid_intro (same_yes a1 a2 n1 n1 c1 c2 k k _ (h1.keptN gb) (h3.keptN gb) rfl)
 have HC2 := hid_intro (same_yes b1 b2 m1 m1 d1 d2 v v _ (h2.keptN gb) (h4.keptN gb) rfl)
 clear h1 h2 h3 h4 ga gb
 go_enter Tryz.func16, Tryz.ntmps16
 go_wp2_with fail
 refine HC1.out.mono ?_
 rintro en w2 ⟨rfl, hw2⟩
 subst hw2
 go_wp2_with fail
 refine HC2.out.mono ?_
 rintro en w3 ⟨rfl, hw3⟩
 subst hw3
 go_wp2
 go_ret
 exact ⟨rfl, HG.out⟩
set_option maxHeartbeats 4000000 in
set_option maxRecDepth 100000 in
theorem samePairs11 (a b : Option Addr) (n c d : Nat) (L : List PrT) (w : World) (h1 : MpW w a n c L) (h2 : MpW w b n d L) (h0 : n ≤ 100000000) :
  Calls Tryz.prog 14 #[.slice a n c, .slice b n d] w fun en w' => en = .returned (.bool true) ∧ w.grownBy w' none := by
 have HL := hid_intro h1
 have HK := hid_intro h2
 have HN := hid_intro h1.1
 clear h1 h2
 have g0 : ((n : Int) == (n : Int)) = true := by simp
 go_enter Tryz.func14, Tryz.ntmps14
 go_wp2
 go_loopw [5, 6] (fun si _ wr => ∃ i : Nat, i ≤ n ∧ si = .int .i64 (i : Nat) ∧ w.grownBy wr none) (fun si _ _ => n - (intOf si).toNat)
 case atStart => exact ⟨0, Nat.zero_le _, rfl, World.grownBy.refl _ _⟩
 case round =>
  obtain ⟨i, hi, rfl, hg⟩ := hrel
  have HG := hid_intro hg
  clear hg
  by_cases hlt : i < n
  ·obtain ⟨p, hp⟩ : ∃ p, L[i]? = some p := ⟨_, List.getElem?_eq_getElem (by have := HN.out; omega)⟩
   obtain ⟨b1, off1, ao1, c1, bo1, d1, rfl, q1, q2, q3, q5⟩ := HL.out.get hp
   obtain ⟨b2, off2, ao2, c2, bo2, d2, rfl, r1, r2, r3, r5⟩ := HK.out.get hp
   have HSP := hid_intro (fun (W : World) (hW : W.heap = wr.heap) => samePair11 ao1 bo1 ao2 bo2 _ _ c1 d1 c2 d2 p.key p.val W ((q3.keptN HG.out).heap hW) ((q5.keptN HG.out).heap hW) ((r3.keptN HG.out).heap hW) ((r5.keptN HG.out).heap hW))
   have x1 := HG.out.cell q1 (by simp)
   have x2 := HG.out.cell q2 (by simp)
   have y1 := HG.out.cell r1 (by simp)
   have y2 := HG.out.cell r2 (by simp)
   clear q1 q2 q3 q5 r1 r2 r3 r5 hp
   generalize p.key.length = n1 at *
   generalize p.val.length = m1 at *
   have g1 : (0 : Int) ≤ (i : Int) := by omega
   have g2 : (i : Int) < (n : Int) := by omega
   go_upto_region 6 with fail
   go_region_with ((go_at_call 16; refine (HSP.out wr.drew rfl).mono ?_; rintro en w3 ⟨rfl, hg3⟩; have G3 := hid_intro (grown_trans HG.out (undrewW hg3)); clear hg3))
   all_goals
    go_wp2
    go_roundw
    case rel => exact ⟨i + 1, by omega, by go_num, G3.out⟩
    case measure => simp [intOf]; omega
  ·obtain rfl : i = n := by omega
   go_wp2
   go_ret
   exact ⟨rfl, HG.out⟩
def inW (lo hi : List Int) (p : PrT) : Bool := !decide (cmpZ p.key lo < 0) && (decide (hi.length = 0) || decide (cmpZ p.key hi < 0))
theorem filt_ge {key : List Int} : ∀ {L : List PrT}, Srt L → L.drop (findT L key) = L.filter fun p => !decide (cmpZ p.key key < 0)
 | [], _ => by simp [findT]
 | x :: L, hs => by
  rw [find_cons]
  have ih := filt_ge (key := key) (L := L) (List.pairwise_cons.1 hs).2
  by_cases h : cmpZ x.key key < 0
  ·rw [if_pos h, List.drop_succ_cons, ih, List.filter_cons]
   simp [h]
  ·rw [if_neg h, List.drop_zero]
   refine (List.filter_eq_self.2 fun p hp => ?_).symm
   rcases List.mem_cons.1 hp with rfl | hp
   ·simpa using h
   ·have := above_all hs h p hp
    simp
    omega
theorem within_filter {L : List PrT} (lo hi : List Int) (hs : Srt L) : withinT L lo hi = L.filter (inW lo hi) := by
 unfold withinT
 have hsu : Srt (upT L hi) := hs.sublist (upT_sub L hi)
 rw [filt_ge hsu]
 unfold upT
 by_cases h : hi.length = 0
 ·rw [if_pos h]
  refine List.filter_congr fun p _ => ?_
  simp [inW, h]
 ·rw [if_neg h, (leaf_cut hs).1, List.filter_filter]
  refine List.filter_congr fun p _ => ?_
  simp [inW, h]
set_option maxHeartbeats 1000000 in
set_option maxRecDepth 100000 in
theorem within11 (ka : Option Addr) (kn kc : Nat) (la : Option Addr) (ln lc : Nat) (ha : Option Addr) (hn hc : Nat) (p : PrT) (lo hi : List Int) (w : World) (hk : Byt w ka kn kc p.key) (hlo : Byt w la ln lc lo) (hhi : Byt w ha hn hc hi) (bk : Bt p.key) (bl : Bt lo) (bh : Bt hi) :
  Calls Tryz.prog 31 #[.slice ka kn kc, .slice la ln lc, .slice ha hn hc] w fun en w' => en = .returned (.bool (inW lo hi p)) ∧ w' = w := by
 have C1 := hid_intro (lessW ka la kn ln kc lc p.key lo w hk hlo bk bl)
 have C2 := hid_intro (lessW ka ha kn hn kc hc p.key hi w hk hhi bk bh)
 have lh := hhi.len
 have HR : Hid (inW lo hi p = (!decide (cmpZ p.key lo < 0) && (decide (hn = 0) || decide (cmpZ p.key hi < 0)))) := by show _ = _; unfold inW; rw [lh]
 clear hk hlo hhi lh
 generalize decide (cmpZ p.key lo < 0) = f1 at *
 generalize decide (cmpZ p.key hi < 0) = f2 at *
 cases f1 with
 | true =>
  go_enter Tryz.func31, Tryz.ntmps31
  go_wp2_with fail
  refine C1.out.mono ?_
  rintro en w2 ⟨rfl, hw⟩
  rw [hw]
  clear hw
  go_wp2
  go_ret
  exact ⟨by rw [HR.out]; rfl, rfl⟩
 | false =>
  by_cases h0 : hn = 0
  ·have z1 : ((hn : Int) == 0) = true := by rw [beq_iff_eq]; omega
   have HR2 : Hid (inW lo hi p = true) := by show _ = _; rw [HR.out]; simp [h0]
   clear h0
   go_enter Tryz.func31, Tryz.ntmps31
   go_wp2_with fail
   refine C1.out.mono ?_
   rintro en w2 ⟨rfl, hw⟩
   rw [hw]
   clear hw
   go_wp2
   go_ret
   exact ⟨by rw [HR2.out]; rfl, rfl⟩
  ·have z1 : ((hn : Int) == 0) = false := by rw [beq_eq_false_iff_ne]; omega
   have HR2 : Hid (inW lo hi p = f2) := by show _ = _; rw [HR.out]; simp [h0]
   clear h0
   go_enter Tryz.func31, Tryz.ntmps31
   go_wp2_with fail
   refine C1.out.mono ?_
   rintro en w2 ⟨rfl, hw⟩
   rw [hw]
   clear hw
   go_wp2_with fail
   refine C2.out.mono ?_
   rintro en w2 ⟨rfl, hw⟩
   rw [hw]
   clear hw
   go_wp2
   go_ret
   exact ⟨by rw [HR2.out]; rfl, rfl⟩
set_option maxHeartbeats 8000000 in
set_option maxRecDepth 100000 in
theorem refRange11 (a : Option Addr) (n c : Nat) (L : List PrT) (la : Option Addr) (ln lc : Nat) (lo : List Int) (ha : Option Addr) (hn hc : Nat) (hi : List Int) (w : World) (hl : MpW w a n c L) (hlo : Byt w la ln lc lo) (hhi : Byt w ha hn hc hi) (bl : Bt lo) (bh : Bt hi) (bL : ∀ p ∈ L, Bt p.key) (hs : Srt L) (h0 : n ≤ 100000) :
  Calls Tryz.prog 8 #[.slice a n c, .slice la ln lc, .slice ha hn hc] w fun en w' => DoneP w (withinT L lo hi) en w' := by
 obtain ⟨ip, hip, hp0, hp1, hp2⟩ := info_parts info_pair10
 rw [within_filter lo hi hs]
 have HL := hid_intro hl
 have HN := hid_intro hl.1
 have HLO := hid_intro hlo
 have HHI := hid_intro hhi
 have HB := hid_intro bL
 clear hl hlo hhi bL hs
 go_enter Tryz.func8, Tryz.ntmps8
 go_wp2
 go_loopw [7, 8, 9] (fun s7 s8 _ wr => ∃ (i : Nat) (es : List (List Value)), i ≤ n ∧ s8 = .int .i64 (i : Nat) ∧ w.grownBy wr none ∧ wr.ownsRow w.heap.size 35 2 s7 ((L.take i).filter (inW lo hi)).length es.flatten ∧ PsW w es ((L.take i).filter (inW lo hi))) (fun _ s8 _ _ => n - (intOf s8).toNat)
 case atStart => exact ⟨0, [], Nat.zero_le _, rfl, World.grownBy.refl _ _, ⟨rfl, .inl ⟨rfl, rfl⟩⟩, PsW.nil _⟩
 case round =>
  obtain ⟨i, es, hi9, rfl, hg, ho, hps⟩ := hrel
  obtain ⟨ra, rc, hv⟩ := own_shape10 ho
  subst hv
  have HG := hid_intro hg
  have HO := hid_intro ho
  have HPS := hid_intro hps
  have hsz := hg.size
  clear hg ho hps
  by_cases hlt : i < n
  ·obtain ⟨p, hp⟩ : ∃ p, L[i]? = some p := ⟨_, List.getElem?_eq_getElem (by have := HN.out; omega)⟩
   obtain ⟨b1, off1, ao1, c1, bo1, d1, rfl, q1, q2, q3, q5⟩ := HL.out.get hp
   have WC := hid_intro (within11 ao1 p.key.length c1 la ln lc ha hn hc p lo hi wr (q3.keptN HG.out) (HLO.out.keptN HG.out) (HHI.out.keptN HG.out) (HB.out p (List.mem_of_getElem? hp)) bl bh)
   have x1 := HG.out.cell q1 (by simp)
   have x2 := HG.out.cell q2 (by simp)
   have HBP : Hid (BpW w [.slice ao1 p.key.length c1, .slice bo1 p.val.length d1] p) := ⟨_, _, _, _, rfl, q3, q5⟩
   have HTK := hid_intro (takeS hp)
   have HF : Hid ((L.take (i + 1)).filter (inW lo hi) = (L.take i).filter (inW lo hi) ++ if inW lo hi p then [p] else []) := by
    show _ = _
    rw [takeS hp, List.filter_append, List.filter_cons, List.filter_nil]
   have g1 : (0 : Int) ≤ (i : Int) := by omega
   have g2 : (i : Int) < (n : Int) := by omega
   have hM0 : ((L.take i).filter (inW lo hi)).length ≤ n := by
    have h1 := List.length_filter_le (inW lo hi) (L.take i)
    rw [List.length_take, HN.out] at h1
    omega
   clear q1 q2 q3 q5 hp
   obtain ⟨M, hM⟩ : ∃ M, ((L.take i).filter (inW lo hi)).length = M := ⟨_, rfl⟩
   rw [hM] at hM0 HO ⊢
   have HM := hid_intro hM
   clear hM
   obtain ⟨n1, hn1⟩ : ∃ n1, p.key.length = n1 := ⟨_, rfl⟩
   obtain ⟨m1, hm1⟩ : ∃ m1, p.val.length = m1 := ⟨_, rfl⟩
   rw [hn1] at x1 WC HBP
   rw [hm1] at x2 HBP
   clear hn1 hm1
   cases hin : inW lo hi p with
   | false =>
    rw [hin] at WC HF
    clear hin
    go_wp2_with fail
    refine WC.out.mono ?_
    rintro en w2 ⟨rfl, hw⟩
    rw [hw]
    clear hw
    go_wp2_with fail
    go_roundw
    case rel => exact ⟨i + 1, es, by omega, by go_num, HG.out, by rw [HF.out]; simpa [HM.out] using HO.out, by rw [HF.out]; simpa using HPS.out⟩
    case measure => simp [intOf]; omega
   | true =>
    rw [hin] at WC HF
    clear hin
    go_wp2_with fail
    refine WC.out.mono ?_
    rintro en w2 ⟨rfl, hw⟩
    rw [hw]
    clear hw
    go_wp2_with (at_builtin; refine append_at10 rfl _ _ 26 rfl w.heap.size 35 ip (.agg #[.slice none 0 0, .slice none 0 0]) 2 48 Tryz.underlying26 hip hp0 hp1 hp2 rfl (by decide) (.slice ra M rc) M es.flatten rfl (HO.out.alloc _) ⟨wr.heap.size, 0, none⟩ 1 1 [.slice ao1 n1 c1, .slice bo1 m1 d1] rfl rfl ?c1 ?c2 ?c3 ?c4 ?c5 ?_)
    case c1 =>
     intro j u hu
     rw [Addr.add_lit, cell_of_row _ wr.heap.size _ _ _ (0, 0) (heap_alloc_new wr _), Nat.zero_add]
     simpa using hu
    case c2 => simp [Value.oneCell']
    case c3 => unfold maxLen; omega
    case c4 => omega
    case c5 => first | omega | (simp; omega)
    intro v9 w9 ho9 hg9 _
    have O9 := hid_intro ho9
    have G9 : Hid (w.grownBy w9 none) := gr_turn (grown_al HG.out _) hg9 (fun r e => (own_lt10 HO.out e).1)
    clear ho9 hg9
    go_wp2_with fail
    go_roundw
    case rel => exact ⟨i + 1, es ++ [[.slice ao1 n1 c1, .slice bo1 m1 d1]], by omega, by go_num, G9.out, by rw [HF.out]; simpa [HM.out] using O9.out, by rw [HF.out]; simpa using HPS.out.app (PsW.one HBP.out)⟩
    case measure => simp [intOf]; omega
  ·have hin : i = n := by omega
   have hta : L.take i = L := List.take_of_length_le (by have := HN.out; omega)
   rw [hta] at HO HPS
   obtain ⟨a9, c9, e9, m9⟩ := MpW.of HO.out (HPS.out.cef (CeF.of HG.out)) rfl
   have M9 := hid_intro m9
   injection e9 with e1 e2 e3
   subst e1 e3
   rw [hta]
   obtain ⟨M, hM⟩ : ∃ M, (L.filter (inW lo hi)).length = M := ⟨_, rfl⟩
   rw [hM] at M9 ⊢
   clear hin hta HO HPS m9 e2 hM
   go_wp2
   go_ret
   exact ⟨_, _, _, rfl, HG.out, M9.out⟩
end Go.Proofs.YtndanifjommpdaaGreat
namespace Go.Proofs.YtndanifjommpdaaGreat
open Go.RowKit
theorem within_in {L : List PrT} (hs : Srt L) (lo hi : List Int) {p : PrT} (h : p ∈ withinT L lo hi) : ¬ cmpZ p.key lo < 0 ∧ (hi.length = 0 ∨ cmpZ p.key hi < 0) := by
 rw [within_filter lo hi hs] at h
 have := (List.mem_filter.1 h).2
 unfold inW at this
 simp only [Bool.and_eq_true, Bool.or_eq_true, Bool.not_eq_true', decide_eq_true_eq, decide_eq_false_iff_not] at this
 exact this
theorem lt_nil {lo m : List Int} (h : cmpZ lo m < 0) : ¬ m.length = 0 := fun e => by
 have hm : m = [] := List.eq_nil_of_length_eq_zero e
 subst hm
 cases lo <;> simp [cmpZ] at h
theorem inW_lo {a b hi : List Int} {p : PrT} (h1 : ¬ cmpZ p.key a < 0) (h2 : ¬ cmpZ p.key b < 0) : inW a hi p = inW b hi p := by
 unfold inW
 rw [decide_eq_false h1, decide_eq_false h2]
theorem filter_cut {lo m hi : List Int} (h1 : cmpZ lo m < 0) (h2 : hi.length = 0 ∨ cmpZ m hi < 0) : ∀ {L : List PrT}, Srt L → L.filter (inW lo m) ++ L.filter (inW m hi) = L.filter (inW lo hi)
 | [], _ => rfl
 | x :: L, hs => by
  have ih := filter_cut h1 h2 (List.pairwise_cons.1 hs).2
  by_cases a : cmpZ x.key m < 0
  ·have e2 : inW m hi x = false := by unfold inW; simp [a]
   have e3 : inW lo hi x = inW lo m x := by
    have b : hi.length = 0 ∨ cmpZ x.key hi < 0 := h2.imp id fun h => lt_trans10 a (by omega)
    unfold inW
    have c : (decide (hi.length = 0) || decide (cmpZ x.key hi < 0)) = true := by simpa using b
    rw [c, decide_eq_true a, Bool.or_true]
   rw [List.filter_cons, List.filter_cons, List.filter_cons, e2, e3]
   simp only [Bool.false_eq_true, if_false]
   split
   ·rw [List.cons_append, ih]
   ·exact ih
  ·have up : ∀ y ∈ x :: L, ¬ cmpZ y.key m < 0 := fun y hy => by
    rcases List.mem_cons.1 hy with rfl | hy
    ·exact a
    ·have := above_all hs a y hy
     omega
   have up2 : ∀ y ∈ x :: L, ¬ cmpZ y.key lo < 0 := fun y hy h => up y hy (lt_trans10 h (by omega))
   have e1 : (x :: L).filter (inW lo m) = [] := List.filter_eq_nil_iff.2 fun y hy => by
    have := lt_nil h1
    unfold inW
    rw [decide_eq_false (up y hy), decide_eq_false this]
    simp
   rw [e1, List.nil_append]
   exact List.filter_congr fun y hy => inW_lo (up y hy) (up2 y hy)
theorem within_cut {L : List PrT} (hs : Srt L) {lo m hi : List Int} (h1 : cmpZ lo m < 0) (h2 : hi.length = 0 ∨ cmpZ m hi < 0) : withinT L lo m ++ withinT L m hi = withinT L lo hi := by
 rw [within_filter _ _ hs, within_filter _ _ hs, within_filter _ _ hs]
 exact filter_cut h1 h2 hs
end Go.Proofs.YtndanifjommpdaaGreat
