import Derived.Test.YtndanifjommpdaaGreatQ28
import Derived.Test.YtndanifjommpdaaGreatQ29
import Derived.RangeFuncNested
import Derived.RangeFuncBound
import Derived.RangeFuncCalls
import Derived.RangeFuncLeaves
import Derived.Shelf.Abstract
import Derived.Shelf.RegionOpen
import Derived.WalkKit
import Derived.OwnWalkIn
import Derived.TacticsInMore
import Derived.LoopNIn
import Derived.LoopIn
import Derived.Deep.RegionHeld3
import Derived.Deep.QuietTactic
namespace Go.Proofs.YtndanifjommpdaaGreat
open Go.RowKit Go.Shelf
attribute [local go_sem] Oper.semAt_some
abbrev PgT := Value × Value × PrT
def encP (x : PgT) : Array Value := #[x.1, x.2.1]
def blkP (x : PgT) (b : Nat) : Prop := x.1.ownBlock = some b ∨ x.2.1.ownBlock = some b
def PxP (n0 m : Nat) (x : PgT) (W : World) : Prop := ∃ lo hi, n0 ≤ lo ∧ hi ≤ m ∧ PvT W lo hi [x.1, x.2.1] x.2.2
theorem px_kept (n0 m : Nat) (x : PgT) (W W' : World) (h : ∀ b, n0 ≤ b → b < m → W'.heap[b]? = W.heap[b]?) (k : PxP n0 m x W) : PxP n0 m x W' := by
 obtain ⟨lo, hi, h1, h2, h3⟩ := k
 exact ⟨lo, hi, h1, h2, h3.same fun g a b _ => h g (by omega) (by omega)⟩
theorem px_grown {n0 m : Nat} {x : PgT} {W W' : World} (k : PxP n0 m x W) (hg : W.grownBy W' none) : PxP n0 m x W' := by
 obtain ⟨lo, hi, h1, h2, h3⟩ := k
 exact ⟨lo, hi, h1, h2, h3.same fun g _ _ ht => tg_same (by decide) (FrT.of hg) ht⟩
theorem frt_below {w W : World} (h : Below w.heap.size w W) : FrT w W := ⟨fun b _ _ _ _ e => (h.block b (Array.getElem?_eq_some_iff.1 e).1).trans e⟩
theorem byt_below {w W : World} (h : Below w.heap.size w W) {ao : Option Addr} {n c : Nat} {s : List Int} (hb : Byt w ao n c s) : Byt W ao n c s :=
 ⟨hb.len, hb.nil, fun ad e j u hu => (World.cell?_of_block (h.block _ (World.block_lt_of_cell? w _ (hb.cells ad e j u hu)))).trans (hb.cells ad e j u hu)⟩
theorem cell_below {w W : World} (h : Below w.heap.size w W) {a : Addr} {v : Value} (hc : w.cell? a = some v) : W.cell? a = some v := (World.cell?_of_block (h.block _ (World.block_lt_of_cell? w _ hc))).trans hc
structure RgT (n0 m : Nat) (W : World) (a : Option Addr) (N c : Nat) (es : List (List Value)) (ps : List PrT) (k : Nat) : Prop where
 e : EsT W 35 a N c 2 es
 p : ∃ lk, n0 ≤ lk ∧ PvL W (es.drop k) (ps.drop k) lk m
 b : ∀ ad, a = some ad → 0 < N → n0 ≤ ad.block ∧ ad.block < m
theorem RgT.grown {n0 m : Nat} {W W' : World} {a : Option Addr} {N c : Nat} {es : List (List Value)} {ps : List PrT} {k : Nat} (h : RgT n0 m W a N c es ps k) (hg : W.grownBy W' none) : RgT n0 m W' a N c es ps k := by
 obtain ⟨lk, q1, q2⟩ := h.p
 exact ⟨h.e.kept (by decide) (FrT.of hg), ⟨lk, q1, q2.kept (FrT.of hg)⟩, h.b⟩
theorem RgT.next {n0 m : Nat} {W : World} {a : Option Addr} {N c : Nat} {es : List (List Value)} {ps : List PrT} {k : Nat} (h : RgT n0 m W a N c es ps k) (hl : ps.length = N) {p : PrT} (hp : ps[k]? = some p) :
  ∃ b off ka kc va vc, a = some ⟨b, off, none⟩ ∧ W.cell? ⟨b, off + k * 2, none⟩ = some (.slice ka p.key.length kc) ∧ W.cell? ⟨b, off + k * 2 + 1, none⟩ = some (.slice va p.val.length vc) ∧ PxP n0 m (.slice ka p.key.length kc, .slice va p.val.length vc, p) W ∧
   ∀ W1 W', W.grownBy W1 none → KpW n0 m (blkP (.slice ka p.key.length kc, .slice va p.val.length vc, p)) W1 W' → RgT n0 m W' a N c es ps (k + 1) := by
 obtain ⟨lk, q1, q2⟩ := h.p
 have hk : k < ps.length := (List.getElem?_eq_some_iff.1 hp).1
 have hel := h.e.len
 have dp : ps.drop k = p :: ps.drop (k + 1) := by
  rw [List.drop_eq_getElem_cons hk]
  rw [List.getElem?_eq_getElem hk] at hp
  rw [Option.some.inj hp]
 have hek : k < es.length := by omega
 have de : es.drop k = es[k] :: es.drop (k + 1) := List.drop_eq_getElem_cons hek
 rw [dp, de] at q2
 obtain ⟨mm, m1, m2, m3, m4⟩ := q2
 have hee : es[k]? = some es[k] := List.getElem?_eq_getElem hek
 revert m3 hee
 generalize es[k] = e5
 intro m3 hee
 have m3' := m3
 obtain ⟨kv, vv, mid, rfl, i1, i2, o1, o2⟩ := m3
 obtain ⟨ka, kc, rfl⟩ := own_shape10 o1.1
 obtain ⟨va, vc, rfl⟩ := own_shape10 o2.1
 obtain ⟨b, off, rfl, tb, cl⟩ := h.e.cell k _ hee
 have hb := h.b _ rfl (by omega)
 refine ⟨b, off, ka, kc, va, vc, rfl, cl 0 _ rfl, cl 1 _ rfl, ⟨lk, mm, q1, by have := m4.le; omega, m3'⟩, fun W1 W' hg hkp => ?_⟩
 have t1 : TgT W1 b 35 := (FrT.of hg).tg (by decide) tb
 have nb : ∀ g, blkP (.slice ka p.key.length kc, .slice va p.val.length vc, p) g → g < mm ∧ TgT W1 g 5 := fun g hg' => by
  rcases hg' with e | e
  ·exact ⟨Nat.lt_of_lt_of_le (o1.2 g e) i2, (FrT.of hg).tg (by decide) (own_lt10 o1.1 e).2.2⟩
  ·exact ⟨o2.2 g e, (FrT.of hg).tg (by decide) (own_lt10 o2.1 e).2.2⟩
 have e1 := h.e.kept (by decide) (FrT.of hg)
 refine ⟨⟨e1.len, e1.cap, e1.c2, e1.nil, e1.pl, e1.sz, e1.one, fun i e he => ?_⟩, ⟨mm, by omega, ?_⟩, h.b⟩
 ·obtain ⟨b', off', x1, x2, x3⟩ := e1.cell i e he
  cases x1
  have hs : W'.heap[b]? = W1.heap[b]? := hkp b hb.1 hb.2 (fun hx => tg_ne x2 (nb b hx).2 (by decide) rfl)
  refine ⟨b, off, rfl, ?_, fun f v hv => (World.cell?_of_block hs).trans (x3 f v hv)⟩
  obtain ⟨cur, z, q⟩ := x2
  exact ⟨cur, z, hs.trans q⟩
 ·refine (m4.kept (FrT.of hg)).same fun g a1 a2 _ => hkp g (by omega) a2 (fun hx => by have := (nb g hx).1; omega)
end Go.Proofs.YtndanifjommpdaaGreat
namespace Go.Proofs.YtndanifjommpdaaGreat
open Go.RowKit Go.Shelf
attribute [local go_sem] Oper.semAt_some
set_option maxHeartbeats 16000000 in
set_option maxRecDepth 100000 in
theorem range1_seq (nn : Nat) (t : Option TrT) (p A1 A2 A3 : Nat) (la : Option Addr) (ln lc : Nat) (lo : List Int) (ha : Option Addr) (hn hc : Nat) (hi : List Int) (w : World)
  (k1 : w.cell? ⟨A1, 0, none⟩ = some (.pointer (some ⟨p, 0, none⟩))) (k2 : w.cell? ⟨A2, 0, none⟩ = some (.slice la ln lc)) (k3 : w.cell? ⟨A3, 0, none⟩ = some (.slice ha hn hc))
  (ht : TreeT w p t) (hw : WkT t) (hlo : Byt w la ln lc lo) (btl : Bt lo) (hhi : Byt w ha hn hc hi) (bth : Bt hi) :
  SeqW Fence.wide nn Tryz.prog 33 #[.pointer (some ⟨A1, 0, none⟩), .pointer (some ⟨A2, 0, none⟩), .pointer (some ⟨A3, 0, none⟩)] encP blkP PxP
   (fun xs => xs.map (fun x => x.2.2) = withinT (flatO t) lo hi) (fun pre => pre.map (fun x => x.2.2) <+: withinT (flatO t) lo hi) (withinT (flatO t) lo hi).length w := by
 intro l J Jx W hW hJ hJx hY h0
 have c1 := cell_below hW k1
 have c2 := cell_below hW k2
 have c3 := cell_below hW k3
 have WC := hid_intro (within_any t p la ln lc lo ha hn hc hi W (ht.kept (frt_below hW)) hw.ok hw.ch hw.nn hw.hh hw.ff hw.sr hw.bt (byt_below hW hlo) btl (byt_below hW hhi) bth)
 have HY := hid_intro hY
 have H0 := hid_intro h0
 have HJ := hid_intro hJ
 have hps : (withinT (flatO t) lo hi).length ≤ 10000000 := by
  have h1 := (List.drop_sublist (findT (upT (flatO t) hi) lo) (upT (flatO t) hi)).length_le
  have h2 := (upT_sub (flatO t) hi).length_le
  have h3 := hw.ff
  unfold withinT
  omega
 clear ht hw hlo hhi k1 k2 k3 hW hY h0 hJ hJx
 generalize withinT (flatO t) lo hi = ps at *
 refine callsIn_of_wp Tryz.func33 rfl trivial ?_ rfl
 simp only [Tryz.ntmps33, List.size_toArray, List.length_cons, List.length_nil, Nat.reduceAdd, Nat.reduceSub, Array.replicate_succ, Array.replicate_zero, List.push_toArray, List.append_toArray, List.nil_append, List.cons_append]
 gi_wp2
 refine ⟨trivial, fun h => (by cases h), (callsIn_wide.2 WC.out).mono ?_⟩
 rintro e W2 ⟨a, N, c, es, rfl, hpw, hbl, hg2⟩
 have hpl := hpw.len
 have hcap := hpw.e.cap
 have hz2 := hg2.size
 have J0 := hid_intro (H0.out W2.heap.size W2 hg2 rfl)
 have R0 : Hid (RgT W.heap.size W2.heap.size W2 a N c es ps 0) := by
  refine ⟨hpw.e, ⟨W.heap.size, Nat.le_refl _, hpw.p⟩, fun ad e h0 => ⟨hbl ad e, ?_⟩⟩
  have hel := hpw.e.len
  obtain ⟨b, off, e1, ⟨_, _, e2⟩, _⟩ := hpw.e.cell 0 _ (List.getElem?_eq_getElem (by omega))
  rw [e] at e1
  cases e1
  exact (Array.getElem?_eq_some_iff.1 e2).1
 clear hpw hbl hg2 WC H0
 generalize W2.heap.size = m at *
 gi_wp2
 gi_loopw [12] (fun si wr => ∃ (k : Nat) (pre : List PgT), k ≤ N ∧ si = .int .i64 (k : Nat) ∧ pre.map (fun x => x.2.2) = ps.take k ∧ J m pre wr ∧ RgT W.heap.size m wr a N c es ps k) (fun si _ => N - (intOf si).toNat)
 case atStart => exact ⟨0, [], Nat.zero_le _, rfl, rfl, J0.out, R0.out⟩
 case round =>
  obtain ⟨k, pre, hk, rfl, hpre, hJs, hrg⟩ := hrel
  have hprl : pre.length = k := by
   have := congrArg List.length hpre
   simp at this
   omega
  by_cases hlt : k < N
  ·have hx : ps[k]? = some (ps[k]'(by omega)) := List.getElem?_eq_getElem (by omega)
   revert hx
   generalize ps[k]'(by omega) = pr
   intro hx
   obtain ⟨b, off, ka, kc, va, vc, rfl, d0, d1, hpx, hnx⟩ := hrg.next hpl hx
   have i1 : (k : Int) < (N : Int) := by omega
   have i0 : (0 : Int) ≤ (k : Int) := by omega
   have PX := hid_intro hpx
   have NX := hid_intro hnx
   have HX := hid_intro hx
   have HPR := hid_intro hpre
   have HJS := hid_intro hJs
   clear hpx hnx hx hrg hJs hpre J0 R0
   generalize pr.key.length = kl at *
   generalize pr.val.length = vl at *
   have hA : wr.grownBy (wr.alloc (.cells #[.slice ka kl kc, .slice va vl vc] 35)) none := World.grownBy_alloc wr _ none
   have HA := hid_intro hA
   have hm : W.heap.size ≤ m := hz2
   have hpre' : (pre ++ [((.slice ka kl kc, .slice va vl vc, pr) : PgT)]).map (fun x => x.2.2) = ps.take (k + 1) := by
    rw [List.map_append, HPR.out, takeS HX.out]
    rfl
   obtain ⟨fn, tmps, assign, body, hy, hR⟩ := HY.out m pre (.slice ka kl kc, .slice va vl vc, pr) (wr.alloc (.cells #[.slice ka kl kc, .slice va vl vc] 35)) (HJ.out m pre wr _ none HJS.out hA (fun r e => by cases e)) hm (px_grown PX.out hA) (by omega) (by rw [hpre']; exact List.take_prefix _ _)
   simp only [encP] at hy
   gi_wp2
   refine ⟨fun h => (by cases h), hR.mono ?_⟩
   have HPR' := hid_intro hpre'
   clear hpre' hR hy
   rintro e W3 ⟨_, ⟨rfl, hJ3, hk3⟩ | ⟨rfl, hJx3⟩⟩
   ·have R3 := hid_intro (NX.out _ W3 HA.out hk3)
    have hN9 : N ≤ 10000000 := by omega
    have J3 := hid_intro hJ3
    clear hJ3 hk3
    gi_wp2
    go_roundw
    case rel => exact ⟨k + 1, _, by omega, by go_num, HPR'.out, J3.out, R3.out⟩
    case measure => simp [intOf]; omega
   ·have J3 := hid_intro hJx3
    clear hJx3
    gi_wp2
    refine bodyPost_ret (results_none rfl _ _ _) rfl ?_
    exact ⟨⟨_, rfl⟩, m, .inr ⟨_, by rw [HPR'.out]; exact List.take_prefix _ _, J3.out⟩⟩
  ·have hin : k = N := by omega
   subst hin
   rw [List.take_of_length_le (by omega)] at hpre
   have HPR := hid_intro hpre
   have JS := hid_intro hJs
   clear hpre hJs hrg
   gi_wp2
   go_end0
   exact ⟨⟨_, rfl⟩, m, .inl ⟨pre, HPR.out, JS.out⟩⟩
end Go.Proofs.YtndanifjommpdaaGreat
namespace Go.Proofs.YtndanifjommpdaaGreat
open Go.RowKit
structure RgB (w W : World) (p A1 A2 A3 ln hn : Nat) (lo hi : List Int) : Prop where
 k1 : W.cell? ⟨A1, 0, none⟩ = some (.pointer (some ⟨p, 0, none⟩))
 k2 : ∃ a c, W.cell? ⟨A2, 0, none⟩ = some (.slice a ln c) ∧ Byt W a ln c lo
 k3 : ∃ a c, W.cell? ⟨A3, 0, none⟩ = some (.slice a hn c) ∧ Byt W a hn c hi
 gr : w.grownBy W none
theorem own_set {W : World} {base n b i : Nat} {t : TypeId} {v x : Value} {k : Nat} {xs : List Value} (h : W.ownsRow base t k v n xs) (hb : b < base) : (W.setCell ⟨b, i, none⟩ x).ownsRow base t k v n xs :=
 h.kept (grown_cell W b i x) (by
  cases e : v.ownBlock with
  | none => exact .inl rfl
  | some g => exact .inr (fun e2 => by have := (own_lt10 h e).1; have := Option.some.inj e2; omega))
theorem RgB.mk' {w W6 : World} {p s ln hn c5 c6 : Nat} {a5 a6 : Option Addr} {lo hi : List Int} (hg : w.grownBy W6 none) (hs : s = w.heap.size) (k1 : W6.cell? ⟨s, 0, none⟩ = some (.pointer (some ⟨p, 0, none⟩))) (k2 : (W6.cell? ⟨s + 1, 0, none⟩).isSome = true) (k3 : (W6.cell? ⟨s + 2, 0, none⟩).isSome = true)
  (o5 : W6.ownsRow (s + 3) 5 1 (.slice a5 ln c5) ln (lo.map (Value.int .u8))) (o6 : W6.ownsRow (s + 3) 5 1 (.slice a6 hn c6) hn (hi.map (Value.int .u8))) :
  RgB w ((W6.setCell ⟨s + 1, 0, none⟩ (.slice a5 ln c5)).setCell ⟨s + 2, 0, none⟩ (.slice a6 hn c6)) p s (s + 1) (s + 2) ln hn lo hi ∧ RgB w ((W6.setCell ⟨s + 2, 0, none⟩ (.slice a6 hn c6)).setCell ⟨s + 1, 0, none⟩ (.slice a5 ln c5)) p s (s + 1) (s + 2) ln hn lo hi := by
 refine ⟨⟨cell_set1 (cell_set1 k1 (by omega)) (by omega), ⟨_, _, cell_set1 (World.cell?_setCell_same' _ _ _ k2) (by omega), own_bytT (own_set (own_set o5 (by omega)) (by omega))⟩, ⟨_, _, World.cell?_setCell_same' _ _ _ ?_, own_bytT (own_set (own_set o6 (by omega)) (by omega))⟩, grown_new (grown_new hg (grown_cell W6 (s + 1) 0 _) (by omega)) (grown_cell _ (s + 2) 0 _) (by omega)⟩,
  ⟨cell_set1 (cell_set1 k1 (by omega)) (by omega), ⟨_, _, World.cell?_setCell_same' _ _ _ ?_, own_bytT (own_set (own_set o5 (by omega)) (by omega))⟩, ⟨_, _, cell_set1 (World.cell?_setCell_same' _ _ _ k3) (by omega), own_bytT (own_set (own_set o6 (by omega)) (by omega))⟩, grown_new (grown_new hg (grown_cell W6 (s + 2) 0 _) (by omega)) (grown_cell _ (s + 1) 0 _) (by omega)⟩⟩
 ·obtain ⟨v, hv⟩ := Option.isSome_iff_exists.1 k3
  rw [cell_set1 hv (by omega)]; rfl
 ·obtain ⟨v, hv⟩ := Option.isSome_iff_exists.1 k2
  rw [cell_set1 hv (by omega)]; rfl
set_option maxHeartbeats 8000000 in
set_option maxRecDepth 100000 in
theorem range_any (p : Nat) (la : Option Addr) (ln lc : Nat) (lo : List Int) (ha : Option Addr) (hn hc : Nat) (hi : List Int) (w : World) (hlo : Byt w la ln lc lo) (hhi : Byt w ha hn hc hi) (h1 : ln ≤ 140737488355328) (h2 : hn ≤ 140737488355328) :
  Calls Tryz.prog 10 #[.pointer (some ⟨p, 0, none⟩), .slice la ln lc, .slice ha hn hc] w fun en w' => ∃ A1 A2 A3, en = .returned (.func (.func 33) #[] #[.pointer (some ⟨A1, 0, none⟩), .pointer (some ⟨A2, 0, none⟩), .pointer (some ⟨A3, 0, none⟩)]) ∧ RgB w w' p A1 A2 A3 ln hn lo hi := by
 have hmf : ∀ (fn : Fn) (first cap : Array Value) (w : World), (Instr.makeFunc fn first cap).run Tryz.prog w = .ok (.func fn first cap) w := fun _ _ _ _ => rfl
 have CL := hid_intro (fun (W : World) (h : w.grownBy W none) => clone_own la ln lc lo W (hlo.keptN h) h1)
 have CH := hid_intro (fun (W : World) (h : w.grownBy W none) => clone_own ha hn hc hi W (hhi.keptN h) h2)
 clear hlo hhi
 obtain ⟨W0, hW0⟩ : ∃ W0, ((w.alloc (.cells #[.pointer (some ⟨p, 0, none⟩)] 25)).alloc (.cells #[.slice la ln lc] 23)).alloc (.cells #[.slice ha hn hc] 23) = W0 := ⟨_, rfl⟩
 have g0 : w.grownBy W0 none := by rw [← hW0]; exact grown_al (grown_al (grown_al (World.grownBy.refl _ _) _) _) _
 have e1 : W0.cell? ⟨w.heap.size, 0, none⟩ = some (.pointer (some ⟨p, 0, none⟩)) := by rw [← hW0]; exact cell_heap (heap_old (heap_old (heap_at0 w _ _))) rfl
 have x2 : W0.heap[w.heap.size + 1]? = some (.cells #[.slice la ln lc] 23 (0, 0)) := by rw [← hW0]; exact heap_old (heap_at1 w _ _ _)
 have x3 : W0.heap[w.heap.size + 1 + 1]? = some (.cells #[.slice ha hn hc] 23 (0, 0)) := by rw [← hW0]; exact heap_at2 w _ _ _ _
 have e2 : W0.cell? ⟨w.heap.size + 1, 0, none⟩ = some (.slice la ln lc) := cell_heap x2 rfl
 have e3 : W0.cell? ⟨w.heap.size + 1 + 1, 0, none⟩ = some (.slice ha hn hc) := cell_heap x3 rfl
 have X2 := hid_intro x2
 have X3 := hid_intro x3
 clear x2 x3
 have hz0 : W0.heap.size = w.heap.size + 3 := by rw [← hW0]; simp
 have G0 := hid_intro g0
 clear g0
 go_enter Tryz.func10, Tryz.ntmps10
 go_upto_region 1 with fail
 clear hW0
 have f1 := (Qt.refl W0).drew.grown none
 have G1 := hid_intro (grown_trans G0.out f1)
 have GD := hid_intro f1
 obtain ⟨s, hs⟩ : ∃ s, w.heap.size = s := ⟨_, rfl⟩
 rw [hs] at e1 e2 e3 hz0 X2 X3 ⊢
 have HS := hid_intro hs
 clear f1 hs
 go_region_with (first
  | (go_at_call_of 32 (Value.slice la ln lc); refine (CL.out _ G1.out).mono ?_; rintro en w5 ⟨a5, c5, rfl, ho5, hg5⟩; have O5 := hid_intro ho5; have G5 := hid_intro (grown_trans GD.out hg5); have q2 := G5.out.cell e2 (by simp); have q3 := G5.out.cell e3 (by simp); clear ho5 hg5)
  | (go_at_call_of 32 (Value.slice ha hn hc); refine (CH.out _ (grown_trans G0.out G5.out)).mono ?_; rintro en w6 ⟨a6, c6, rfl, ho6, hg6⟩; have O6 := hid_intro ho6; have G56 := hid_intro hg6; have G6 := hid_intro (grown_trans G5.out hg6); have r2 := G6.out.cell e2 (by simp); have r3 := G6.out.cell e3 (by simp); have z2 := frozen_of_row w6 (s + 1) 0 _ _ ((FrT.of G6.out).keep _ _ _ _ (by decide) X2.out); have z3 := frozen_of_row w6 (s + 1 + 1) 0 _ _ ((FrT.of G6.out).keep _ _ _ _ (by decide) X3.out); clear ho6 hg6))
 all_goals
  have hz5 := G5.out.size
  have o5 : w6.ownsRow (s + 3) 5 1 (.slice a5 ln c5) ln (lo.map (Value.int .u8)) := own_low (O5.out.kept G56.out (Classical.em _)) (by show s + 3 ≤ W0.heap.size; omega)
  have o6 : w6.ownsRow (s + 3) 5 1 (.slice a6 hn c6) hn (hi.map (Value.int .u8)) := own_low O6.out (by omega)
  have RB := hid_intro (RgB.mk' (p := p) (grown_trans G0.out G6.out) HS.out.symm (G6.out.cell e1 (by simp)) (by rw [r2]; rfl) (by show (w6.cell? ⟨s + 1 + 1, 0, none⟩).isSome = true; rw [r3]; rfl) o5 o6).1
  clear o5 o6
  go_wp2
  go_ret
  exact ⟨_, _, _, rfl, RB.out⟩
end Go.Proofs.YtndanifjommpdaaGreat
namespace Go.Proofs.YtndanifjommpdaaGreat
open Go.RowKit Go.Shelf
attribute [local go_sem] Oper.semAt_some
abbrev BwT := Nat × Value × Value
def encB (x : BwT) : Array Value := #[.int .i64 (x.1 : Nat), .agg #[x.2.1, x.2.2]]
def PxB (es : List (List Value)) (N : Nat) (pre : List BwT) (x : BwT) : Prop := pre.length < N ∧ x.1 = N - 1 - pre.length ∧ es[N - 1 - pre.length]? = some [x.2.1, x.2.2]
def KpB (A N : Nat) (a : Option Addr) (W W' : World) : Prop := W'.heap[A]? = W.heap[A]? ∧ ∀ ad, a = some ad → 0 < N → W'.heap[ad.block]? = W.heap[ad.block]?
theorem KpB.trans {A N : Nat} {a : Option Addr} {X Y Z : World} (h : KpB A N a X Y) (k : KpB A N a Y Z) : KpB A N a X Z := ⟨k.1.trans h.1, fun ad e h0 => (k.2 ad e h0).trans (h.2 ad e h0)⟩
theorem EsT.kpb {W W' : World} {A : Nat} {a : Option Addr} {N c : Nat} {es : List (List Value)} (h : EsT W 35 a N c 2 es) (k : KpB A N a W W') : EsT W' 35 a N c 2 es :=
 ⟨h.len, h.cap, h.c2, h.nil, h.pl, h.sz, h.one, fun i e he => by
  obtain ⟨b, off, e1, ⟨cur, z, e2⟩, e3⟩ := h.cell i e he
  have hb : W'.heap[b]? = W.heap[b]? := k.2 _ e1 (by have := (List.getElem?_eq_some_iff.1 he).1; have := h.len; omega)
  exact ⟨b, off, e1, ⟨cur, z, hb.trans e2⟩, fun f v hv => (World.cell?_of_block hb).trans (e3 f v hv)⟩⟩
set_option maxHeartbeats 1000000 in
set_option maxRecDepth 100000 in
theorem backward_any (a : Option Addr) (N c : Nat) (w : World) : Calls Tryz.prog 36 #[.slice a N c] w fun en w' => en = .returned (.func (.func 47) #[] #[.pointer (some ⟨w.heap.size, 0, none⟩)]) ∧ w' = w.alloc (.cells #[.slice a N c] 26) := by
 have hmf : ∀ (fn : Fn) (first cap : Array Value) (w : World), (Instr.makeFunc fn first cap).run Tryz.prog w = .ok (.func fn first cap) w := fun _ _ _ _ => rfl
 go_enter Tryz.func36, Tryz.ntmps36
 go_wp2
 go_ret
 exact ⟨rfl, rfl⟩
set_option maxHeartbeats 16000000 in
set_option maxRecDepth 100000 in
theorem backward1_seq (nn A : Nat) (a : Option Addr) (N c : Nat) (es : List (List Value)) (w : World) (kA : w.cell? ⟨A, 0, none⟩ = some (.slice a N c)) (he : EsT w 35 a N c 2 es) (hN : N ≤ 10000000)
  (hsl : ∀ e ∈ es, ∃ ka kn kc va vn vc, e = [.slice ka kn kc, .slice va vn vc]) :
  SeqV Fence.wide nn Tryz.prog 47 #[.pointer (some ⟨A, 0, none⟩)] encB (PxB es N) (KpB A N a) (fun xs => xs.length = N) (fun _ => True) w := by
 intro l J Jx W hW hJ hJx hY h0
 have c1 := cell_below hW kA
 have HE0 := hid_intro (he.kept (by decide) (frt_below hW))
 have HY := hid_intro hY
 have H0 := hid_intro h0
 have HSL := hid_intro hsl
 have hel := he.len
 have C1 := hid_intro c1
 clear hW hY h0 hJ hJx he kA hsl
 refine callsIn_of_wp Tryz.func47 rfl trivial ?_ rfl
 simp only [Tryz.ntmps47, List.size_toArray, List.length_cons, List.length_nil, Nat.reduceAdd, Nat.reduceSub, Array.replicate_succ, Array.replicate_zero, List.push_toArray, List.append_toArray, List.nil_append, List.cons_append]
 obtain ⟨I0, hI0⟩ : ∃ I0 : Int, (N : Int) - 1 = I0 := ⟨_, rfl⟩
 have w0 : IntKind.i64.wrap ((N : Int) - 1) = I0 := by rw [IntKind.wrap_i64]; omega
 have HI0 := hid_intro hI0
 clear hI0
 gi_wp2
 gi_loopw [3] (fun si wr => ∃ (k : Nat) (pre : List BwT), k ≤ N ∧ (∃ I, si = .int .i64 I ∧ I = (N : Int) - 1 - (k : Int)) ∧ pre.length = k ∧ J pre wr ∧ wr.cell? ⟨A, 0, none⟩ = some (.slice a N c) ∧ EsT wr 35 a N c 2 es) (fun si _ => (intOf si + 1).toNat)
 case atStart => exact ⟨0, [], Nat.zero_le _, ⟨_, rfl, by have := HI0.out; omega⟩, rfl, H0.out, C1.out, HE0.out⟩
 case round =>
  obtain ⟨k, pre, hk, ⟨I, rfl, hI⟩, hpre, hJs, hcA, hes⟩ := hrel
  have HJS := hid_intro hJs
  have HES := hid_intro hes
  have HCA := hid_intro hcA
  by_cases hlt : k < N
  ·obtain ⟨j, hj⟩ : ∃ j, N - 1 - k = j := ⟨_, rfl⟩
   have hIj : I = (j : Int) := by omega
   subst hIj
   obtain ⟨e, hee⟩ : ∃ e, es[j]? = some e := ⟨_, List.getElem?_eq_getElem (by omega)⟩
   obtain ⟨ka, kn, kc, va, vn, vc, rfl⟩ := HSL.out e (List.mem_of_getElem? hee)
   obtain ⟨b, off, rfl, _, cl⟩ := hes.cell j _ hee
   have d0 : wr.cell? ⟨b, off + j * 2, none⟩ = some (.slice ka kn kc) := cl 0 _ rfl
   have d1 : wr.cell? ⟨b, off + j * 2 + 1, none⟩ = some (.slice va vn vc) := cl 1 _ rfl
   have i0 : (0 : Int) ≤ (j : Int) := by omega
   have i1 : (j : Int) < (N : Int) := by omega
   have i2 : ((j : Int) ≥ 0) := i0
   obtain ⟨fn, tmps, assign, body, hy, hR⟩ := HY.out pre (j, .slice ka kn kc, .slice va vn vc) wr hJs ⟨by omega, by show j = _; omega, by rw [hpre, hj]; exact hee⟩
   simp only [encB] at hy
   obtain ⟨J1, hJ1⟩ : ∃ J1 : Int, (j : Int) - 1 = J1 := ⟨_, rfl⟩
   have w1 : IntKind.i64.wrap ((j : Int) - 1) = J1 := by rw [IntKind.wrap_i64]; omega
   have HJ1 := hid_intro hJ1
   have HJJ := hid_intro hj
   clear hJs hes hI hee cl hJ1 hj
   gi_wp2
   refine ⟨fun h => (by cases h), hR.mono ?_⟩
   clear hR hy
   rintro e W3 (⟨rfl, hJ3, hk3⟩ | ⟨rfl, hJx3⟩)
   ·have J3 := hid_intro hJ3
    have K3 := hid_intro hk3
    clear hJ3 hk3 d0 d1 hcA
    gi_wp2
    go_roundw
    case rel =>
     refine ⟨k + 1, _, by omega, ⟨_, rfl, by have := HJ1.out; have := HJJ.out; omega⟩, ?_, J3.out, (World.cell?_of_block K3.out.1).trans HCA.out, HES.out.kpb K3.out⟩
     rw [List.length_append, hpre]
     rfl
    case measure => have := HJ1.out; simp [intOf]; omega
   ·have J3 := hid_intro hJx3
    clear hJx3 d0 d1 hcA
    gi_wp2
    refine bodyPost_ret (results_none rfl _ _ _) rfl ?_
    exact ⟨⟨_, rfl⟩, .inr ⟨_, trivial, J3.out⟩⟩
  ·have hin : k = N := by omega
   have hIn : I = -1 := by omega
   subst hIn
   clear hJs hes hcA hI
   gi_wp2
   go_end0
   exact ⟨⟨_, rfl⟩, .inl ⟨pre, by omega, HJS.out⟩⟩
end Go.Proofs.YtndanifjommpdaaGreat
