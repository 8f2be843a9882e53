import Derived.Test.YtndanifjommpdaaGreatQ27
import Derived.Deep.RegionHeld3
import Derived.Deep.CutBlock
import Derived.Deep.DeepCutAuto
import Derived.Deep.CutRange
import Derived.Deep.QuietTactic
import Derived.Laws.AppendOwnNone
import Derived.Laws.OwnMore
import Derived.Test.YtndanifjommpdaaGreatQ26
namespace Go.Proofs.YtndanifjommpdaaGreat
open Go.RowKit
theorem flat_at {T : Type} {k : Nat} : ∀ {es : List (List T)} {i f : Nat} {e : List T} {u : T}, (∀ e ∈ es, e.length = k) → es[i]? = some e → e[f]? = some u → es.flatten[i * k + f]? = some u
 | [], i, f, e, u, _, h, _ => by simp at h
 | x :: es, 0, f, e, u, hl, h, hf => by
  simp only [List.getElem?_cons_zero, Option.some.injEq] at h
  subst h
  have := (List.getElem?_eq_some_iff.1 hf).1
  rw [List.flatten_cons, Nat.zero_mul, Nat.zero_add, List.getElem?_append_left this]
  exact hf
 | x :: es, i + 1, f, e, u, hl, h, hf => by
  simp only [List.getElem?_cons_succ] at h
  have hx := hl x List.mem_cons_self
  have h1 : (i + 1) * k + f = x.length + (i * k + f) := by rw [hx, Nat.add_mul]; omega
  rw [List.flatten_cons, h1, List.getElem?_append_right (by omega), Nat.add_sub_cancel_left]
  exact flat_at (fun e he => hl e (List.mem_cons_of_mem _ he)) h hf
theorem PvL.app {w : World} : ∀ {e1 : List (List Value)} {p1 : List PrT} {lo m hi : Nat} {e2 : List (List Value)} {p2 : List PrT}, PvL w e1 p1 lo m → PvL w e2 p2 m hi → PvL w (e1 ++ e2) (p1 ++ p2) lo hi
 | [], [], lo, m, hi, e2, p2, h, k => k.low h
 | _ :: es, _ :: ps, _, _, _, _, _, h, k => by
  obtain ⟨q, h1, h2, h3, h4⟩ := h
  have := k.le
  exact ⟨q, h1, by omega, h3, h4.app k⟩
 | [], _ :: _, _, _, _, _, _, h, _ => h.elim
 | _ :: _, [], _, _, _, _, _, h, _ => h.elim
theorem PvL.up {w : World} {es : List (List Value)} {ps : List PrT} {lo hi hi' : Nat} (h : PvL w es ps lo hi) (hh : hi ≤ hi') : PvL w es ps lo hi' := by
 have := PvL.app h (show PvL w [] [] hi hi' from hh)
 rwa [List.append_nil, List.append_nil] at this
theorem PvL.one {w : World} : ∀ {es : List (List Value)} {ps : List PrT} {lo hi : Nat}, PvL w es ps lo hi → ∀ u ∈ es.flatten, u.oneCell' = true
 | [], [], _, _, _, u, h => by simp at h
 | e :: es, _ :: ps, _, _, h, u, hu => by
  obtain ⟨m, _, _, ⟨kv, vv, _, h3, _, _, h6, h7⟩, h4⟩ := h
  rw [List.flatten_cons, List.mem_append] at hu
  rcases hu with hu | hu
  ·obtain ⟨a, c, e1⟩ := own_shape10 h6.1
   obtain ⟨a', c', e2⟩ := own_shape10 h7.1
   rw [h3, e1, e2] at hu
   simp only [List.mem_cons, List.not_mem_nil, or_false] at hu
   rcases hu with rfl | rfl <;> rfl
  ·exact h4.one u hu
 | [], _ :: _, _, _, h, _, _ => h.elim
 | _ :: _, [], _, _, h, _, _ => h.elim
theorem ToM.sz {w : World} {Lb : Nat} : ∀ {es : List (List Value)} {xs : List NoT} {lo hi : Nat}, ToM w Lb es xs lo hi → ∀ e ∈ es, e.length = 6
 | [], [], _, _, _, e, h => by cases h
 | x :: es, _ :: ps, _, _, h, e, he => by
  obtain ⟨m, _, _, ⟨vp, _, ca, cn, cc, sa, sn, sc, ka, kn, kc, h3, _⟩, h4⟩ := h
  rcases List.mem_cons.1 he with rfl | he
  ·rw [h3]; rfl
  ·exact h4.sz e he
 | [], _ :: _, _, _, h, _, _ => h.elim
 | _ :: _, [], _, _, h, _, _ => h.elim
theorem flatMap_take {xs : List NoT} {k : Nat} {x : NoT} (h : xs[k]? = some x) : (xs.take (k + 1)).flatMap NoT.ps = (xs.take k).flatMap NoT.ps ++ x.ps := by
 rw [takeS h, List.flatMap_append]
 simp
theorem flatMap_le {xs : List NoT} (k : Nat) : ((xs.take k).flatMap NoT.ps).length ≤ (xs.flatMap NoT.ps).length := by
 have := congrArg (fun l => (List.flatMap NoT.ps l).length) (List.take_append_drop k xs)
 simp only [List.flatMap_append, List.length_append] at this
 omega
theorem append_vp {P : Program} {w : World} {ops : Array Oper} {rest : List Oper} {o : Oper} {a : Act} {Q : Exit → Act → World → Prop} (hgd : o.guard = none) (s x : Operand) (t : TypeId)
  (ho : o.op = .call { callee := .builtin .append, args := #[s, x], argTypes := #[t, t] })
  (base : Nat) (e : TypeId) (i : TypeInfo) (z : Value) (size bytes : Nat) (ht : P.underlying t = some (.slice e)) (hi : P.info? e = some i) (hz : i.zero = some z) (hsize : i.size = size) (hby : i.bytes = bytes) (hzs : z.cells.size = size) (hsz : 0 < size)
  (v : Value) (n : Nat) (xs : List Value) (hs : a.eval s = v) (hown : w.ownsRow base e size v n xs)
  (lo : Nat) (vp : Value) (m : Nat) (news : List Value) (hx : a.eval x = vp) (hvp : w.ownsRow lo e size vp m news) (h1 : ∀ u ∈ news, u.oneCell' = true)
  (h63 : n + m ≤ maxLen) (hbytes : (n + m) * bytes ≤ 140737488355328) (hbase : base ≤ w.heap.size)
  (h : ∀ v' w', w'.ownsRow base e size v' (n + m) (xs ++ news) → w.grownBy w' v.ownBlock → wpList P ops Q rest (a.put o.dst v') w') : wpList P ops Q (o :: rest) a w := by
 rcases hvp.2 with ⟨e1, e0⟩ | ⟨g, cap, cur, e1, _⟩
 ·subst e0
  have hn : news = [] := List.eq_nil_of_length_eq_zero (by have := hvp.1; omega)
  subst hn
  exact wpList_append_own_none hgd s x t ho base e i size ht hi v n xs hs hown (hx.trans e1) (h v w (by rw [List.append_nil]; exact hown) (World.grownBy.refl _ _))
 ·exact append_at10 hgd s x t ho base e i z size bytes ht hi hz hsize hby hzs hsz v n xs hs hown ⟨g, 0, none⟩ m cap news (hx.trans e1) hvp.1 (hvp.cells (by rw [e1]; rfl)) h1 h63 hbytes hbase (fun v' w' k1 k2 _ => h v' w' k1 k2)
set_option maxHeartbeats 16000000 in
set_option maxRecDepth 100000 in
theorem pairs_any (t : Option TrT) (p : Nat) (w : World) (ht : TreeT w p t) (ox : OkO t) (hc : ChkO t) (hs : (tellO t).length ≤ 10000000) (hh : highO t ≤ 1000000) (hf : (flatO t).length ≤ 10000000) :
  Calls Tryz.prog 38 #[.pointer (some ⟨p, 0, none⟩)] w fun en w' => ∃ v es, en = .returned v ∧ w'.ownsRow w.heap.size 35 2 v (flatO t).length es.flatten ∧ PvL w' es (flatO t) w.heap.size w'.heap.size ∧ w.grownBy w' none := by
 obtain ⟨ip, hip, hp0, hp1, hp2⟩ := info_parts info_pair10
 have NC := hid_intro (nodes_any t p w ht ox hc hs hh)
 rw [← tellO_ps t] at hf ⊢
 clear ht ox hc hh
 generalize tellO t = xs at *
 go_enter Tryz.func38, Tryz.ntmps38
 go_wp2_with fail
 refine NC.out.mono ?_
 rintro en w1 ⟨v, es, rfl, ho, htm, hg⟩
 obtain ⟨va, vc, hv⟩ := own_shape10 ho
 obtain ⟨N, hN⟩ : ∃ N, xs.length = N := ⟨_, rfl⟩
 rw [hN] at hv hs ho
 subst hv
 have HO := hid_intro ho
 have HT := hid_intro htm
 have HG := hid_intro hg
 have hel := htm.len
 clear ho htm hg NC
 go_wp2_with fail
 go_loopw [3, 9] (fun sl si wr => ∃ (k m : Nat) (ps : List (List Value)), k ≤ N ∧ si = .int .i64 (k : Nat) ∧ w1.grownBy wr none ∧ wr.ownsRow w1.heap.size 35 2 sl ((xs.take k).flatMap NoT.ps).length ps.flatten ∧ PvL w1 ps ((xs.take k).flatMap NoT.ps) w.heap.size m ∧ ToM w1 w.heap.size (es.drop k) (xs.drop k) m w1.heap.size) (fun _ si _ => N - (intOf si).toNat)
 case atStart => exact ⟨0, w.heap.size, [], Nat.zero_le _, rfl, World.grownBy.refl _ _, ⟨rfl, .inl ⟨rfl, rfl⟩⟩, Nat.le_refl _, HT.out⟩
 case round =>
  obtain ⟨k, m, ps, hk, rfl, hg, hl, hpv, htm⟩ := hrel
  have G1 := hid_intro hg
  have PV := hid_intro hpv
  obtain ⟨la, lc, hv⟩ := own_shape10 hl
  subst hv
  by_cases hlt : k < N
  ·have hx : xs[k]? = some (xs[k]'(by omega)) := List.getElem?_eq_getElem (by omega)
   have hek : es[k]? = some (es[k]'(by omega)) := List.getElem?_eq_getElem (by omega)
   have dx : xs.drop k = xs[k]'(by omega) :: xs.drop (k + 1) := List.drop_eq_getElem_cons (by omega)
   have de : es.drop k = es[k]'(by omega) :: es.drop (k + 1) := List.drop_eq_getElem_cons (by omega)
   rw [dx, de] at htm
   clear dx de
   revert hx hek htm
   generalize xs[k]'(by omega) = x
   generalize es[k]'(by omega) = e5
   intro htm hx hek
   obtain ⟨m', hm1, hm2, ⟨vp, qs, ca, cn, cc, sa, sn, sc, ka, kn, kc, he5, o1, o2, o3, _⟩, hrest⟩ := htm
   rw [he5] at hek
   clear he5
   have hva : ∃ g, va = some ⟨g, 0, none⟩ := by
    rcases HO.out.2 with ⟨_, h0⟩ | ⟨g, cap, cur, hv, _⟩
    ·omega
    ·exact ⟨g, by injection hv⟩
   obtain ⟨g, rfl⟩ := hva
   have cel : ∀ f u, [Value.int .i64 x.no, .int .i64 (x.lv : Int), vp, .slice ca cn cc, .slice sa sn sc, .slice ka kn kc][f]? = some u → wr.cell? ⟨g, k * 6 + f, none⟩ = some u := fun f u hu => by
    have h6 : f < 6 := (List.getElem?_eq_some_iff.1 hu).1
    have := HO.out.cellAt (k * 6 + f) (by omega)
    rw [flat_at HT.out.sz hek hu] at this
    exact hg.cell this (by simp)
   have c0 := cel 0 _ rfl
   have c1 := cel 1 _ rfl
   have c2 := cel 2 _ rfl
   have c3 := cel 3 _ rfl
   have c4 := cel 4 _ rfl
   have c5 := cel 5 _ rfl
   rw [Nat.add_zero] at c0
   obtain ⟨pa, pc, hvp⟩ := own_shape10 o1
   subst hvp
   have i1 : (k : Int) < (N : Int) := by omega
   have i0 : (0 : Int) ≤ (k : Int) := by omega
   have O1 := hid_intro (o1.kept hg (Classical.em _))
   have O3 := hid_intro o3
   have HL := hid_intro hl
   have HR := hid_intro hrest
   have HX := hid_intro hx
   have hcnt := flatMap_le (xs := xs) (k + 1)
   rw [flatMap_take hx, List.length_append] at hcnt
   obtain ⟨M, hM⟩ : ∃ M, ((xs.take k).flatMap NoT.ps).length = M := ⟨_, rfl⟩
   obtain ⟨L, hL⟩ : ∃ L, x.ps.length = L := ⟨_, rfl⟩
   rw [hM, hL] at hcnt
   rw [hM] at HL ⊢
   rw [hL] at O1 c2
   have HM := hid_intro hM
   have HLn := hid_intro hL
   have hsz := hg.size
   have ONE := hid_intro o3.one
   clear hM hL hg hl hpv hrest hx hek o1 o3 cel
   go_wp2_with (at_builtin; refine append_vp rfl _ _ 26 rfl w1.heap.size 35 ip (.agg #[.slice none 0 0, .slice none 0 0]) 2 48 Tryz.underlying26 hip hp0 hp1 hp2 rfl (by decide) _ M ps.flatten rfl (HL.out.alloc _) m _ L qs.flatten rfl (O1.out.alloc _) ONE.out ?c3 ?c4 ?c5 ?_)
   case c3 => unfold maxLen; omega
   case c4 => omega
   case c5 => simp; omega
   intro v9 w9 ho9 hg9
   have O9 := hid_intro ho9
   have G9 : Hid (w1.grownBy w9 none) := by
    have h1 := grown_al G1.out (.cells #[.int .i64 x.no, .int .i64 (x.lv : Int), .slice pa L pc, .slice ca cn cc, .slice sa sn sc, .slice ka kn kc] 92)
    cases hb : (Value.slice la M lc).ownBlock with
    | none => rw [hb] at hg9; exact grown_trans h1 hg9
    | some d => rw [hb] at hg9; exact grown_new h1 hg9 (own_lt10 HL.out hb).1
   clear ho9 hg9
   go_wp2_with fail
   go_roundw
   case rel =>
    refine ⟨k + 1, m', ps ++ qs, by omega, by go_num, G9.out, ?_, ?_, HR.out⟩
    ·rw [flatMap_take HX.out, List.length_append, HM.out, HLn.out, List.flatten_append]
     exact O9.out
    ·rw [flatMap_take HX.out]
     exact PV.out.app O3.out
   case measure => simp [intOf]; omega
  ·have hin : k = N := by omega
   subst hin
   have hta : xs.take k = xs := List.take_of_length_le (by omega)
   rw [hta] at hl PV
   have hz := hg.size
   have hm := htm.le
   have HL := hid_intro hl
   have hw := HG.out.size
   rw [hta]
   obtain ⟨M, hM⟩ : ∃ M, (xs.flatMap NoT.ps).length = M := ⟨_, rfl⟩
   rw [hM] at HL ⊢
   have HM := hid_intro hM
   clear hg hl hpv htm hM
   go_wp2_with fail
   go_ret
   have hM := HM.out
   subst hM
   exact ⟨_, ps, rfl, own_low HL.out hw, (PV.out.up (by omega)).kept (FrT.of G1.out), grown_trans HG.out G1.out⟩
theorem find_consW (p : PrT) (L : List PrT) (key : List Int) : findT (p :: L) key = if cmpZ p.key key < 0 then findT L key + 1 else 0 := by
 unfold findT
 rw [List.takeWhile_cons]
 by_cases h : cmpZ p.key key < 0 <;> simp [h]
theorem find_at {key : List Int} : ∀ {L : List PrT} {k : Nat}, Srt L → k ≤ L.length → (0 < k → cmpZ ((L.map PrT.key).getD (k - 1) []) key < 0) → (k < L.length → 0 ≤ cmpZ ((L.map PrT.key).getD k []) key) → findT L key = k
 | [], k, _, hk, _, _ => by simp [findT] at *; omega
 | x :: L, 0, _, _, _, h2 => by
  have := h2 (by simp)
  rw [find_consW, if_neg (by simpa using this)]
 | x :: L, k + 1, hs, hk, h1, h2 => by
  have hp := List.pairwise_cons.1 hs
  simp only [List.length_cons] at hk h2
  have h3 := h1 (by omega)
  rw [show k + 1 - 1 = k by omega] at h3
  have hx : cmpZ x.key key < 0 := by
   cases k with
   | zero => simpa using h3
   | succ k =>
    have e : ((x :: L).map PrT.key).getD (k + 1) [] = (L[k]'(by omega)).key := by simp [List.getD, List.getElem?_eq_getElem (show k < L.length by omega)]
    rw [e] at h3
    exact lt_trans10 (hp.1 _ (List.getElem_mem (show k < L.length by omega))) (by omega)
  rw [find_consW, if_pos hx]
  congr 1
  refine find_at hp.2 (by omega) (fun h0 => ?_) (fun h0 => ?_)
  ·cases k with
   | zero => omega
   | succ k =>
    have e : ((x :: L).map PrT.key).getD (k + 1) [] = (L.map PrT.key).getD k [] := by simp [List.getD]
    rw [e] at h3
    simpa using h3
  ·have := h2 (by omega)
   have e : ((x :: L).map PrT.key).getD (k + 1) [] = (L.map PrT.key).getD k [] := by simp [List.getD]
   rw [e] at this
   exact this
theorem PvL.at {w : World} : ∀ {es : List (List Value)} {ps : List PrT} {lo hi i : Nat} {p : PrT}, PvL w es ps lo hi → ps[i]? = some p → ∃ e lo' hi', es[i]? = some e ∧ lo ≤ lo' ∧ hi' ≤ hi ∧ PvT w lo' hi' e p
 | [], [], _, _, i, p, _, h => by simp at h
 | e :: es, q :: ps, lo, hi, 0, p, h, hp => by
  obtain ⟨m, h1, h2, h3, h4⟩ := h
  simp only [List.getElem?_cons_zero, Option.some.injEq] at hp
  subst hp
  exact ⟨e, lo, m, rfl, Nat.le_refl _, h2, h3⟩
 | e :: es, q :: ps, lo, hi, i + 1, p, h, hp => by
  obtain ⟨m, h1, h2, h3, h4⟩ := h
  obtain ⟨e', lo', hi', k1, k2, k3, k4⟩ := h4.at (i := i) (p := p) (by simpa using hp)
  exact ⟨e', lo', hi', by simpa using k1, by omega, k3, k4⟩
 | [], _ :: _, _, _, _, _, h, _ => h.elim
 | _ :: _, [], _, _, _, _, h, _ => h.elim
theorem own_bytT {w : World} {base n cap : Nat} {ao : Option Addr} {zs : List Int} (h : w.ownsRow base 5 1 (.slice ao n cap) n (zs.map (Value.int .u8))) : Byt w ao n cap zs := by
 have hl := h.1
 rw [List.length_map, Nat.mul_one] at hl
 refine ⟨hl, fun e => ?_, fun ad e j u hu => ?_⟩
 ·rcases h.2 with ⟨h1, h0⟩ | ⟨g, cap', cur, h1, _⟩
  ·injection h1 with _ _ h3
   exact ⟨h0, h3⟩
  ·injection h1 with h2
   rw [e] at h2
   cases h2
 ·rcases h.2 with ⟨h1, h0⟩ | ⟨g, cap', cur, h1, _⟩
  ·injection h1 with h2
   rw [e] at h2
   cases h2
  ·have h1' := h1
   injection h1 with h2
   rw [e] at h2
   have h3 := Option.some.inj h2
   rw [h3]
   exact h.cells (by rw [h1']; rfl) j u hu
structure PwT (w : World) (a : Option Addr) (n c : Nat) (es : List (List Value)) (ps : List PrT) (lo hi : Nat) : Prop where
 e : EsT w 35 a n c 2 es
 p : PvL w es ps lo hi
theorem PwT.len {w : World} {a : Option Addr} {n c : Nat} {es : List (List Value)} {ps : List PrT} {lo hi : Nat} (h : PwT w a n c es ps lo hi) : ps.length = n := by
 rw [← h.p.len, h.e.len]
theorem PwT.kept {w w' : World} {a : Option Addr} {n c : Nat} {es : List (List Value)} {ps : List PrT} {lo hi : Nat} (h : PwT w a n c es ps lo hi) (hg : FrT w w') : PwT w' a n c es ps lo hi := ⟨h.e.kept (by decide) hg, h.p.kept hg⟩
theorem PwT.pair {w : World} {a : Option Addr} {n c : Nat} {es : List (List Value)} {ps : List PrT} {lo hi : Nat} (h : PwT w a n c es ps lo hi) {i : Nat} {p : PrT} (hp : ps[i]? = some p) :
  ∃ b off ka kc va vc, a = some ⟨b, off, none⟩ ∧ w.cell? ⟨b, off + i * 2, none⟩ = some (.slice ka p.key.length kc) ∧ w.cell? ⟨b, off + i * 2 + 1, none⟩ = some (.slice va p.val.length vc) ∧ es[i]? = some [.slice ka p.key.length kc, .slice va p.val.length vc] ∧ Byt w ka p.key.length kc p.key ∧ Byt w va p.val.length vc p.val := by
 obtain ⟨e, lo', hi', h1, _, _, ⟨kv, vv, m, rfl, _, _, h6, h7⟩⟩ := h.p.at hp
 obtain ⟨ka, kc, rfl⟩ := own_shape10 h6.1
 obtain ⟨va, vc, rfl⟩ := own_shape10 h7.1
 obtain ⟨b, off, rfl, _, q⟩ := h.e.cell i _ h1
 exact ⟨b, off, ka, kc, va, vc, rfl, q 0 _ rfl, q 1 _ rfl, h1, own_bytT h6.1, own_bytT h7.1⟩
set_option maxHeartbeats 4000000 in
set_option maxRecDepth 100000 in
theorem search_wk (A B : Nat) (n : Nat) (p : Nat → Bool) (w : World) (hn : n ≤ 10000000)
  (hp : ∀ (k : Nat) (w1 : World), k < n → w.grownBy w1 none → Calls Tryz.prog 50 #[.int .i64 k, .pointer (some ⟨A, 0, none⟩), .pointer (some ⟨B, 0, none⟩)] w1 fun en w' => en = .returned (.bool (p k)) ∧ w1.grownBy w' none) :
  Calls Tryz.prog 49 #[.int .i64 n, .func (.func 50) #[] #[.pointer (some ⟨A, 0, none⟩), .pointer (some ⟨B, 0, none⟩)]] w fun en w' => (∃ k : Nat, en = .returned (.int .i64 k) ∧ k ≤ n ∧ (0 < k → p (k - 1) = false) ∧ (k < n → p k = true)) ∧ w.grownBy w' none := by
 have HP := hid_intro hp
 clear hp
 go_enter Tryz.func49, Tryz.ntmps49
 go_wp2
 go_loopw [5, 6, 7] (fun si sj _ wr => ∃ i j : Nat, i ≤ j ∧ j ≤ n ∧ si = .int .i64 i ∧ sj = .int .i64 j ∧ (0 < i → p (i - 1) = false) ∧ (j < n → p j = true) ∧ w.grownBy wr none) (fun si sj _ _ => (intOf sj).toNat - (intOf si).toNat)
 case atStart => exact ⟨0, n, Nat.zero_le _, Nat.le_refl _, rfl, rfl, fun h => by omega, fun h => by omega, World.grownBy.refl _ _⟩
 case round =>
  obtain ⟨i, j, hij, hj, rfl, rfl, hlo, hhi, hg⟩ := hrel
  have HLO := hid_intro hlo
  have HHI := hid_intro hhi
  have HG := hid_intro hg
  clear hlo hhi hg
  by_cases hlt : i < j
  ·obtain ⟨m, hm⟩ : ∃ m : Nat, (i + j) / 2 = m := ⟨_, rfl⟩
   have h1 : i ≤ m ∧ m < j := by omega
   have e1 : ((i : Int) + (j : Int)) / 2 = (m : Int) := by omega
   have e2 : ((i : Int) + (j : Int)) % 18446744073709551616 = (i : Int) + (j : Int) := by omega
   go_wp2_with fail
   refine (HP.out m _ (by omega) HG.out).mono ?_
   rintro en w2 ⟨rfl, hg2⟩
   have HG2 := hid_intro (grown_trans HG.out hg2)
   clear hg2 HG
   cases hb : p m with
   | false =>
    have HB : Hid (0 < m + 1 → p (m + 1 - 1) = false) := fun _ => hb
    clear hb
    go_wp2
    go_roundw
    case rel => exact ⟨m + 1, j, by omega, hj, by go_num, rfl, HB.out, HHI.out, HG2.out⟩
    case measure => simp [intOf]; omega
   | true =>
    have HB : Hid (m < n → p m = true) := fun _ => hb
    clear hb
    go_wp2
    go_roundw
    case rel => exact ⟨i, m, by omega, by omega, rfl, rfl, HLO.out, HB.out, HG2.out⟩
    case measure => simp [intOf]; omega
  ·have hin : i = j := by omega
   subst hin
   go_wp2
   go_ret
   exact ⟨⟨i, rfl, hj, HLO.out, HHI.out⟩, HG.out⟩
set_option maxHeartbeats 4000000 in
set_option maxRecDepth 100000 in
theorem ahead1_any (A B : Nat) (a : Option Addr) (n c : Nat) (es : List (List Value)) (ps : List PrT) (lo hi : Nat) (ka : Option Addr) (kn kc : Nat) (key : List Int) (k : Nat) (w : World) (hA : w.cell? ⟨A, 0, none⟩ = some (.slice a n c)) (hB : w.cell? ⟨B, 0, none⟩ = some (.slice ka kn kc)) (hl : PwT w a n c es ps lo hi) (hk : k < n)
  (hb : Byt w ka kn kc key) (bt : Bt key) (bl : ∀ p ∈ ps, Bt p.key) :
  Calls Tryz.prog 50 #[.int .i64 k, .pointer (some ⟨A, 0, none⟩), .pointer (some ⟨B, 0, none⟩)] w fun en w' => en = .returned (.bool (decide (0 ≤ cmpZ ((ps.map PrT.key).getD k []) key))) ∧ w.grownBy w' none := by
 have hlen := hl.len
 have hx : ps[k]? = some (ps[k]'(by omega)) := List.getElem?_eq_getElem (by omega)
 have hd : (ps.map PrT.key).getD k [] = (ps[k]'(by omega)).key := by simp [List.getD, hx]
 rw [hd]
 clear hd
 revert hx
 generalize ps[k]'(by omega) = p
 intro hx
 obtain ⟨g, off, qa, qc, va, vc, rfl, c0, _, _, hp, _⟩ := hl.pair hx
 have HC := hid_intro (fun (W : World) (h : W.heap = w.heap) => compare_any qa ka _ kn qc kc p.key key W (hp.heap h) (hb.heap h) (bl _ (List.mem_of_getElem? hx)) bt)
 have hk2 : (0 : Int) ≤ (k : Int) ∧ (k : Int) < (n : Int) := by omega
 clear hb hp hl bl hx
 generalize p.key.length = pl at *
 go_enter Tryz.func50, Tryz.ntmps50
 go_wp2
 go_region_with (go_at_call 51; refine (HC.out w.drew rfl).mono ?_; rintro en w2 ⟨rfl, rfl⟩)
 all_goals (go_wp2; go_ret; exact ⟨rfl, (Qt.refl _).drew.grown none⟩)
set_option maxHeartbeats 4000000 in
set_option maxRecDepth 100000 in
theorem ahead_any (a : Option Addr) (n c : Nat) (es : List (List Value)) (ps : List PrT) (lo hi : Nat) (ka : Option Addr) (kn kc : Nat) (key : List Int) (w : World) (hl : PwT w a n c es ps lo hi) (hm : n ≤ 10000000) (hs : Srt ps)
  (hb : Byt w ka kn kc key) (bt : Bt key) (bl : ∀ p ∈ ps, Bt p.key) :
  Calls Tryz.prog 40 #[.slice a n c, .slice ka kn kc] w fun en w' => en = .returned (.int .i64 ((findT ps key : Nat) : Int)) ∧ w.grownBy w' none := by
 have hlen := hl.len
 have hmf : ∀ (fn : Fn) (first cap : Array Value) (w : World), (Instr.makeFunc fn first cap).run Tryz.prog w = .ok (.func fn first cap) w := fun _ _ _ _ => rfl
 have G1 := hid_intro (World.grownBy_alloc w (.cells #[.slice a n c] 26) none)
 have G2 := hid_intro (grown_trans G1.out (World.grownBy_alloc (w.alloc (.cells #[.slice a n c] 26)) (.cells #[.slice ka kn kc] 23) none))
 have HP : Hid (∀ (k : Nat) (w1 : World), k < n → ((w.alloc (.cells #[.slice a n c] 26)).alloc (.cells #[.slice ka kn kc] 23)).grownBy w1 none → Calls Tryz.prog 50 #[.int .i64 k, .pointer (some ⟨w.heap.size, 0, none⟩), .pointer (some ⟨w.heap.size + 1, 0, none⟩)] w1 fun en w' => en = .returned (.bool (decide (0 ≤ cmpZ ((ps.map PrT.key).getD k []) key))) ∧ w1.grownBy w' none) := by
  intro k w1 hk hg
  have hg2 := grown_trans G2.out hg
  have c1 : ((w.alloc (.cells #[.slice a n c] 26)).alloc (.cells #[.slice ka kn kc] 23)).cell? ⟨w.heap.size + 1, 0, none⟩ = some (.slice ka kn kc) := cell_heap (heap_at1 w _ _ _) rfl
  have c2 : ((w.alloc (.cells #[.slice a n c] 26)).alloc (.cells #[.slice ka kn kc] 23)).cell? ⟨w.heap.size, 0, none⟩ = some (.slice a n c) := cell_heap (heap_old (heap_at0 w _ _)) rfl
  exact ahead1_any _ _ a n c es ps lo hi ka kn kc key k w1 (hg.cell c2 (by simp)) (hg.cell c1 (by simp)) (hl.kept (FrT.of hg2)) hk (hb.keptN hg2) bt bl
 have HS := hid_intro hs
 clear hl hb hs bl
 go_enter Tryz.func40, Tryz.ntmps40
 go_wp2_with fail
 refine (search_wk _ _ n _ _ (by omega) HP.out).mono ?_
 rintro en w2 ⟨⟨k, rfl, h1, h2, h3⟩, hg⟩
 have hf : findT ps key = k := find_at HS.out (by omega) (fun h => by have := h2 h; simpa using this) (fun h => by have := h3 (by omega); simpa using this)
 have HF := hid_intro hf
 have HG := hid_intro (grown_trans G2.out hg)
 clear hf h2 h3 hg HP
 go_wp2
 go_ret
 rw [HF.out]
 exact ⟨rfl, HG.out⟩
theorem findT_le (L : List PrT) (key : List Int) : findT L key ≤ L.length := (List.takeWhile_sublist _).length_le
def upT (ps : List PrT) (hi : List Int) : List PrT := if hi.length = 0 then ps else ps.take (findT ps hi)
def withinT (ps : List PrT) (lo hi : List Int) : List PrT := (upT ps hi).drop (findT (upT ps hi) lo)
theorem upT_sub (ps : List PrT) (hi : List Int) : (upT ps hi).Sublist ps := by
 unfold upT
 split
 ·exact List.Sublist.refl _
 ·exact List.take_sublist _ _
theorem PvL.take {w : World} : ∀ {es : List (List Value)} {ps : List PrT} {lo hi : Nat} (i : Nat), PvL w es ps lo hi → PvL w (es.take i) (ps.take i) lo hi
 | _, _, _, _, 0, h => by rw [List.take_zero, List.take_zero]; exact h.le
 | [], [], _, _, i + 1, h => by simpa using h
 | e :: es, p :: ps, lo, hi, i + 1, h => by
  obtain ⟨m, h1, h2, h3, h4⟩ := h
  rw [List.take_succ_cons, List.take_succ_cons]
  exact ⟨m, h1, h2, h3, h4.take i⟩
 | [], _ :: _, _, _, _ + 1, h => h.elim
 | _ :: _, [], _, _, _ + 1, h => h.elim
theorem PvL.drop {w : World} : ∀ {es : List (List Value)} {ps : List PrT} {lo hi : Nat} (i : Nat), PvL w es ps lo hi → PvL w (es.drop i) (ps.drop i) lo hi
 | _, _, _, _, 0, h => by rw [List.drop_zero, List.drop_zero]; exact h
 | [], [], _, _, i + 1, h => by simpa using h
 | e :: es, p :: ps, lo, hi, i + 1, h => by
  obtain ⟨m, h1, h2, h3, h4⟩ := h
  rw [List.drop_succ_cons, List.drop_succ_cons]
  exact (h4.drop i).low h1
 | [], _ :: _, _, _, _ + 1, h => h.elim
 | _ :: _, [], _, _, _ + 1, h => h.elim
theorem PwT.take {w : World} {a : Option Addr} {n c : Nat} {es : List (List Value)} {ps : List PrT} {lo hi : Nat} (h : PwT w a n c es ps lo hi) {i : Nat} (hi' : i ≤ n) : PwT w a i c (es.take i) (ps.take i) lo hi := ⟨h.e.take hi', h.p.take i⟩
theorem PwT.drop {w : World} {b off n c : Nat} {es : List (List Value)} {ps : List PrT} {lo hi : Nat} (h : PwT w (some ⟨b, off, none⟩) n c es ps lo hi) {i : Nat} (hi' : i ≤ n) : PwT w (some ⟨b, off + i * 2, none⟩) (n - i) (c - i) (es.drop i) (ps.drop i) lo hi := ⟨h.e.drop hi', h.p.drop i⟩
theorem PwT.end {w : World} {b off n c : Nat} {es : List (List Value)} {ps : List PrT} {lo hi : Nat} (h : PwT w (some ⟨b, off, none⟩) n c es ps lo hi) {i : Nat} (hi' : n ≤ i) : PwT w (some ⟨b, off, none⟩) 0 0 (es.drop i) (ps.drop i) lo hi := by
 have h1 := h.e.len
 have h2 := h.len
 rw [List.drop_of_length_le (by omega), List.drop_of_length_le (by omega)]
 exact ⟨EsT.zero _ _ _ _ _ (by omega) (fun e => by cases e) (fun x hx => by cases hx; exact ⟨_, _, rfl⟩), h.p.le⟩
theorem PwT.tail {w : World} {a : Option Addr} {n c : Nat} {es : List (List Value)} {ps : List PrT} {lo hi hi' base k : Nat} (h : PwT w a n c es ps lo hi) (hk : k ≤ n) (hh : hi ≤ hi') (hF : (a = none ∧ c = 0) ∨ ∃ g, a = some ⟨g, 0, none⟩ ∧ base ≤ g) :
  (c = k → (∃ x, PwT w a (n - k) 0 x (ps.drop k) lo hi') ∧ ∀ ad, a = some ad → base ≤ ad.block) ∧ ((∃ x, PwT w (a.map fun x => x.add (k * 2)) (n - k) (c - k) x (ps.drop k) lo hi') ∧ ∀ ad, (a.map fun x => x.add (k * 2)) = some ad → base ≤ ad.block) := by
 have hc := h.e.cap
 have h1 := h.e.len
 have h2 := h.len
 have hp := (h.p.drop k).up hh
 rcases hF with ⟨rfl, rfl⟩ | ⟨g, rfl, hb⟩
 ·have e0 : n - k = 0 := by omega
  rw [e0]
  have e1 : es.drop k = [] := List.drop_of_length_le (by omega)
  have e2 : 0 - k = 0 := by omega
  rw [e1] at hp
  exact ⟨fun _ => ⟨⟨_, EsT.nul _ _ _, hp⟩, fun ad e => by cases e⟩, ⟨_, by rw [e2]; exact EsT.nul _ _ _, hp⟩, fun ad e => by cases e⟩
 ·refine ⟨fun e => ⟨⟨_, ?_, hp⟩, fun ad e => by cases e; exact hb⟩, ⟨_, ?_, hp⟩, fun ad e => ?_⟩
  ·have e0 : n - k = 0 := by omega
   rw [e0, List.drop_of_length_le (by omega)]
   exact EsT.zero _ _ _ _ _ (by omega) (fun e => by cases e) (fun x hx => by cases hx; exact ⟨_, _, rfl⟩)
  ·rw [Option.map_some, Addr.add_lit]
   exact h.e.drop hk
  ·rw [Option.map_some, Addr.add_lit] at e
   cases e
   exact hb
set_option maxHeartbeats 8000000 in
set_option maxRecDepth 100000 in
theorem within_any (t : Option TrT) (p : Nat) (la : Option Addr) (ln lc : Nat) (lo : List Int) (ha : Option Addr) (hn hc : Nat) (hi : List Int) (w : World) (ht : TreeT w p t) (ox : OkO t) (hch : ChkO t) (hs : (tellO t).length ≤ 10000000) (hh : highO t ≤ 1000000) (hf : (flatO t).length ≤ 10000000) (hsr : Srt (flatO t)) (bl : ∀ p ∈ flatO t, Bt p.key)
  (hlo : Byt w la ln lc lo) (btl : Bt lo) (hhi : Byt w ha hn hc hi) (bth : Bt hi) :
  Calls Tryz.prog 34 #[.pointer (some ⟨p, 0, none⟩), .slice la ln lc, .slice ha hn hc] w fun en w' => ∃ a n c es, en = .returned (.slice a n c) ∧ PwT w' a n c es (withinT (flatO t) lo hi) w.heap.size w'.heap.size ∧ (∀ ad, a = some ad → w.heap.size ≤ ad.block) ∧ w.grownBy w' none := by
 have PC := hid_intro (pairs_any t p w ht ox hch hs hh hf)
 have HLO := hid_intro hlo
 have HHI := hid_intro hhi
 have lhi := hhi.len
 clear ht ox hch hs hh hlo hhi
 generalize flatO t = ps at *
 have key : ∀ (w1 : World) (v : Value) (es : List (List Value)), w1.ownsRow w.heap.size 35 2 v ps.length es.flatten → PvL w1 es ps w.heap.size w1.heap.size → ∃ a c, v = .slice a ps.length c ∧ PwT w1 a ps.length c es ps w.heap.size w1.heap.size ∧ ((a = none ∧ c = 0 ∧ ps.length = 0) ∨ ∃ g, a = some ⟨g, 0, none⟩ ∧ w.heap.size ≤ g) := fun w1 v es h1 h2 => by
  obtain ⟨a, c, rfl, he⟩ := EsT.of_owns h1 (by decide) h2.sz (fun e he u hu => h2.one u (List.mem_flatten.2 ⟨e, he, hu⟩))
  refine ⟨a, c, rfl, ⟨he, h2⟩, ?_⟩
  rcases h1.2 with ⟨q1, q0⟩ | ⟨g, cap, cur, q1, q2, _⟩
  ·injection q1 with a1 a2 a3
   exact .inl ⟨a1, a3, q0⟩
  ·injection q1 with a1
   exact .inr ⟨g, a1, q2⟩
 have KEY := hid_intro key
 clear key
 have UL : (upT ps hi).length ≤ ps.length := (upT_sub ps hi).length_le
 have HSR := hid_intro hsr
 have HSU := hid_intro (hsr.sublist (upT_sub ps hi))
 have BL := hid_intro bl
 have BU : Hid (∀ p ∈ upT ps hi, Bt p.key) := fun p hp => bl p ((upT_sub ps hi).mem hp)
 have f1 := findT_le ps hi
 have f2 := findT_le (upT ps hi) lo
 have HW : Hid (withinT ps lo hi = (upT ps hi).drop (findT (upT ps hi) lo)) := rfl
 have HU : Hid (upT ps hi = if hi.length = 0 then ps else ps.take (findT ps hi)) := rfl
 rw [HW.out]
 obtain ⟨N, hN⟩ : ∃ N, ps.length = N := ⟨_, rfl⟩
 clear hsr bl HW
 go_enter Tryz.func34, Tryz.ntmps34
 go_wp2_with fail
 refine PC.out.mono ?_
 rintro en w1 ⟨v, es, rfl, ho, hpv, hg⟩
 obtain ⟨a, c, rfl, hpw, hform⟩ := KEY.out w1 _ es ho hpv
 have hcap := hpw.e.cap
 have HPW := hid_intro hpw
 have HG := hid_intro hg
 have HFM := hid_intro hform
 have AH := hid_intro (ahead_any a ps.length c es ps _ _ ha hn hc hi w1 hpw hf HSR.out (HHI.out.keptN hg) bth BL.out)
 rw [hN] at HPW HFM AH f1 hcap UL hf ⊢
 have HNN := hid_intro hN
 clear ho hpv hpw hg hform KEY PC hN
 have fin : Hid (∀ (w2 : World) (c2 : Nat) (es2 : List (List Value)), w1.grownBy w2 none → PwT w2 a (upT ps hi).length c2 es2 (upT ps hi) w.heap.size w1.heap.size → (upT ps hi).length ≤ c2 → True) := fun _ _ _ _ _ _ => trivial
 clear fin
 by_cases h0 : hn = 0
 ·have hu : upT ps hi = ps := by rw [HU.out, if_pos (by omega)]
  rw [hu] at f2
  have HUU := hid_intro hu
  clear hu
  have i0 : ¬ (0 : Int) < (hn : Int) := by omega
  have AL := hid_intro (ahead_any a N c es ps _ _ la ln lc lo w1 HPW.out hf HSR.out (HLO.out.keptN HG.out) btl BL.out)
  rw [HNN.out] at f2
  obtain ⟨k, hk⟩ : ∃ k, findT ps lo = k := ⟨_, rfl⟩
  rw [hk] at AL f2
  have HK := hid_intro hk
  clear hk
  go_wp2_with fail
  refine AL.out.mono ?_
  rintro en w2 ⟨rfl, hg2⟩
  have G2 := hid_intro hg2
  have P2 := hid_intro (HPW.out.kept (FrT.of hg2))
  have z2 := hg2.size
  clear hg2 AL AH
  have j0 : (0 : Int) ≤ (k : Int) := by omega
  have j1 : (k : Int) ≤ (N : Int) := by omega
  have j2 : (N : Int) ≤ (c : Int) := by omega
  have HF2 : Hid ((a = none ∧ c = 0) ∨ ∃ g, a = some ⟨g, 0, none⟩ ∧ w.heap.size ≤ g) := HFM.out.imp (fun h => ⟨h.1, h.2.1⟩) id
  have HTL := hid_intro (P2.out.tail (k := k) (hi' := w2.heap.size) f2 (by omega) HF2.out)
  have GZ := hid_intro (grown_trans HG.out G2.out)
  go_wp2_with fail
  ·go_ret
   rw [HUU.out, HK.out]
   exact ⟨_, _, _, rfl, (HTL.out.1 (by first | rfl | assumption | omega)).1, (HTL.out.1 (by first | rfl | assumption | omega)).2, GZ.out⟩
  ·go_ret
   rw [HUU.out, HK.out]
   exact ⟨_, _, _, rfl, HTL.out.2.1, HTL.out.2.2, GZ.out⟩
 ·have hu : upT ps hi = ps.take (findT ps hi) := by rw [HU.out, if_neg (by omega)]
  have i0 : (0 : Int) < (hn : Int) := by omega
  obtain ⟨q, hq⟩ : ∃ q, findT ps hi = q := ⟨_, rfl⟩
  rw [hq] at AH f1 hu
  have HUU := hid_intro hu
  have hul : (upT ps hi).length = q := by rw [hu, List.length_take, HNN.out]; omega
  rw [hul] at f2 UL
  clear hq hu hul
  have q0 : (0 : Int) ≤ (q : Int) := by omega
  have q1 : (q : Int) ≤ (N : Int) := by omega
  have j2 : (N : Int) ≤ (c : Int) := by omega
  have q2 : (q : Int) ≤ (c : Int) := by omega
  go_wp2_with fail
  refine AH.out.mono ?_
  rintro en w5 ⟨rfl, hg5⟩
  have P5 := (HPW.out.kept (FrT.of hg5)).take f1
  rw [← HUU.out] at P5
  have HP5 := hid_intro P5
  have G5 := hid_intro (grown_trans HG.out hg5)
  have z5 := hg5.size
  have AL := hid_intro (ahead_any a q c (es.take q) (upT ps hi) _ _ la ln lc lo w5 P5 (by omega) HSU.out (HLO.out.keptN (grown_trans HG.out hg5)) btl BU.out)
  obtain ⟨k, hk⟩ : ∃ k, findT (upT ps hi) lo = k := ⟨_, rfl⟩
  rw [hk] at AL f2
  have HK := hid_intro hk
  clear hk P5 hg5 AH
  go_wp2_with fail
  refine AL.out.mono ?_
  rintro en w2 ⟨rfl, hg2⟩
  have G2 := hid_intro hg2
  have P2 := hid_intro (HP5.out.kept (FrT.of hg2))
  have z2 := hg2.size
  clear hg2 AL
  have j0 : (0 : Int) ≤ (k : Int) := by omega
  have j1 : (k : Int) ≤ (q : Int) := by omega
  have HF2 : Hid ((a = none ∧ c = 0) ∨ ∃ g, a = some ⟨g, 0, none⟩ ∧ w.heap.size ≤ g) := HFM.out.imp (fun h => ⟨h.1, h.2.1⟩) id
  have HTL := hid_intro (P2.out.tail (k := k) (hi' := w2.heap.size) f2 (by omega) HF2.out)
  have GZ := hid_intro (grown_trans G5.out G2.out)
  go_wp2_with fail
  ·go_ret
   rw [HK.out]
   exact ⟨_, _, _, rfl, (HTL.out.1 (by first | rfl | assumption | omega)).1, (HTL.out.1 (by first | rfl | assumption | omega)).2, GZ.out⟩
  ·go_ret
   rw [HK.out]
   exact ⟨_, _, _, rfl, HTL.out.2.1, HTL.out.2.2, GZ.out⟩
structure WkT (t : Option TrT) : Prop where
 ok : OkO t
 ch : ChkO t
 nn : (tellO t).length ≤ 10000000
 hh : highO t ≤ 1000000
 ff : (flatO t).length ≤ 10000000
 sr : Srt (flatO t)
 bt : ∀ p ∈ flatO t, Bt p.key
theorem pw_of {w1 : World} {lo hi N : Nat} {v : Value} {es : List (List Value)} {ps : List PrT} (h1 : w1.ownsRow lo 35 2 v N es.flatten) (h2 : PvL w1 es ps lo hi) : ∃ a c, v = .slice a N c ∧ PwT w1 a N c es ps lo hi ∧ ((a = none ∧ c = 0) ∨ ∃ g, a = some ⟨g, 0, none⟩ ∧ lo ≤ g) := by
 obtain ⟨a, c, rfl, he⟩ := EsT.of_owns h1 (by decide) h2.sz (fun e he u hu => h2.one u (List.mem_flatten.2 ⟨e, he, hu⟩))
 refine ⟨a, c, rfl, ⟨he, h2⟩, ?_⟩
 rcases h1.2 with ⟨q1, q0⟩ | ⟨g, cap, cur, q1, q2, _⟩
 ·injection q1 with a1 a2 a3
  exact .inl ⟨a1, a3⟩
 ·injection q1 with a1
  exact .inr ⟨g, a1, q2⟩
set_option maxHeartbeats 8000000 in
set_option maxRecDepth 100000 in
theorem rank_any (t : Option TrT) (p : Nat) (ka : Option Addr) (kn kc : Nat) (key : List Int) (w : World) (ht : TreeT w p t) (hw : WkT t) (hk : Byt w ka kn kc key) (bk : Bt key) :
  Calls Tryz.prog 23 #[.pointer (some ⟨p, 0, none⟩), .slice ka kn kc] w fun en w' => en = .returned (.int .i64 ((findT (flatO t) key : Nat) : Int)) ∧ w.grownBy w' none := by
 have PC := hid_intro (pairs_any t p w ht hw.ok hw.ch hw.nn hw.hh hw.ff)
 have HW := hid_intro hw
 have HK := hid_intro hk
 clear ht hw hk
 go_enter Tryz.func23, Tryz.ntmps23
 go_wp2_with fail
 refine PC.out.mono ?_
 rintro en w1 ⟨v, es, rfl, ho, hpv, hg⟩
 obtain ⟨a, c, rfl, hpw, _⟩ := pw_of ho hpv
 have AH := hid_intro (ahead_any a _ c es (flatO t) _ _ ka kn kc key w1 hpw HW.out.ff HW.out.sr (HK.out.keptN hg) bk HW.out.bt)
 have HG := hid_intro hg
 clear ho hpv hg hpw PC
 go_wp2_with fail
 refine AH.out.mono ?_
 rintro en w2 ⟨rfl, hg2⟩
 have G2 := hid_intro (grown_trans HG.out hg2)
 clear hg2
 go_wp2
 go_ret
 exact ⟨rfl, G2.out⟩
set_option maxHeartbeats 8000000 in
set_option maxRecDepth 100000 in
theorem count_any (t : Option TrT) (p : Nat) (la : Option Addr) (ln lc : Nat) (lo : List Int) (ha : Option Addr) (hn hc : Nat) (hi : List Int) (w : World) (ht : TreeT w p t) (hw : WkT t) (hlo : Byt w la ln lc lo) (btl : Bt lo) (hhi : Byt w ha hn hc hi) (bth : Bt hi) :
  Calls Tryz.prog 24 #[.pointer (some ⟨p, 0, none⟩), .slice la ln lc, .slice ha hn hc] w fun en w' => en = .returned (.int .i64 ((withinT (flatO t) lo hi).length : Nat)) ∧ w.grownBy w' none := by
 have WC := hid_intro (within_any t p la ln lc lo ha hn hc hi w ht hw.ok hw.ch hw.nn hw.hh hw.ff hw.sr hw.bt hlo btl hhi bth)
 clear ht hw hlo hhi
 go_enter Tryz.func24, Tryz.ntmps24
 go_wp2_with fail
 refine WC.out.mono ?_
 rintro en w1 ⟨a, n, c, es, rfl, hpw, _, hg⟩
 have HL := hid_intro hpw.len
 have HG := hid_intro hg
 clear hpw hg WC
 go_wp2
 go_ret
 rw [HL.out]
 exact ⟨rfl, HG.out⟩
end Go.Proofs.YtndanifjommpdaaGreat
namespace Go.Proofs.YtndanifjommpdaaGreat
theorem down_lv : ∀ (n : Nat) (x : NdT n), (downT n x).lv ≤ n
 | 0, _ => Nat.le_refl _
 | n + 1, x => by
  rw [downT]
  split
  ·have := down_lv n ‹NdT n›
   omega
  ·exact Nat.le_refl _
theorem rooted_high (n : Nat) (r : RwT (NdT n)) : highO (rootedT n r) ≤ n + 2 := by
 unfold rootedT
 split
 ·simp [highO]
 ·rename_i x _
  have := down_lv n x
  simp only [highO]
  omega
 ·simp [highO]
theorem tree_high {t u : Option TrT} {key : List Int} {now : List PrT} (h : treeT t key now = some u) : highO u ≤ highO t + 2 := by
 cases t with
 | none =>
  simp only [treeT, Option.map_eq_some_iff] at h
  obtain ⟨r, _, rfl⟩ := h
  have := rooted_high 0 r
  have e : highO none = 0 := rfl
  omega
 | some t =>
  obtain ⟨n, x⟩ := t
  simp only [treeT, Option.map_eq_some_iff] at h
  obtain ⟨r, _, rfl⟩ := h
  have := rooted_high n r
  have e : highO (some ⟨n, x⟩) = n + 1 := rfl
  omega
structure GwT (k : Nat) (t : Option TrT) (L : List PrT) : Prop where
 ok : OkO t
 fl : flatO t = L
 hi : highO t ≤ 2 * k
 le : L.length ≤ k
 ch : ∀ p ∈ L, p.chain = []
theorem flatO_srt {t : Option TrT} (h : OkO t) : Srt (flatO t) := by
 cases t with
 | none => exact List.Pairwise.nil
 | some t => exact flat_srt _ _ h
theorem flatO_vp {t : Option TrT} (h : OkO t) : ∀ p ∈ flatO t, Vp p := by
 cases t with
 | none => intro p hp; cases hp
 | some t => exact flat_vp _ _ h
theorem GwT.srt {k : Nat} {t : Option TrT} {L : List PrT} (h : GwT k t L) : Srt L := by rw [← h.fl]; exact flatO_srt h.ok
theorem GwT.vp {k : Nat} {t : Option TrT} {L : List PrT} (h : GwT k t L) : ∀ p ∈ L, Vp p := by rw [← h.fl]; exact flatO_vp h.ok
theorem GwT.walk {k : Nat} {t : Option TrT} {L : List PrT} (h : GwT k t L) (hk : k ≤ 400) : WkT t := by
 have hl := h.le
 have hh := h.hi
 refine ⟨h.ok, ?_, ?_, by omega, by rw [h.fl]; omega, flatO_srt h.ok, fun p hp => (flatO_vp h.ok p hp).kb⟩
 ·cases t with
  | none => trivial
  | some t => exact fun p hp => by rw [h.ch p (by rw [← h.fl]; exact hp)]; simp
 ·cases t with
  | none => simp [tellO]
  | some t =>
   have h1 := size_le t.lv t.root h.ok
   have h2 : (flatT t.lv t.root).length = L.length := by rw [← h.fl]; rfl
   have h3 : t.lv + 1 ≤ 800 := by simp only [highO] at hh; omega
   rw [h2] at h1
   have h4 : (t.lv + 1) * L.length ≤ 800 * 400 := Nat.mul_le_mul h3 (by omega)
   show (tellT t.lv 0 t.root).length ≤ _
   rw [tell_len]
   omega
theorem GwT.start : GwT 0 none [] := ⟨trivial, rfl, by simp [highO], Nat.le_refl _, fun p hp => by cases hp⟩
theorem GwT.more {k : Nat} {t : Option TrT} {L : List PrT} (h : GwT k t L) : GwT (k + 1) t L := ⟨h.ok, h.fl, by have := h.hi; omega, by have := h.le; omega, h.ch⟩
theorem upd_same {L : List PrT} {key : List Int} (h : Srt L) : updT L key (midT L key) = L := by
 obtain ⟨_, _, e3⟩ := leaf_cut (key := key) h
 have e := upd_leaf (key := key) (now := midT L key) h
 rw [← e, ← e3]
 have hfe := find_end L key
 have h4 : (L.take (endT L key)).drop (findT L key) ++ L.drop (endT L key) = L.drop (findT L key) := by
  have h5 := congrArg (List.drop (findT L key)) (List.take_append_drop (endT L key) L)
  rw [List.drop_append] at h5
  have h6 : findT L key - (L.take (endT L key)).length = 0 := by
   rw [List.length_take]
   have := find_le L key
   omega
  rw [h6, List.drop_zero] at h5
  exact h5
 rw [h4, List.take_append_drop]
theorem upd_len2 {L : List PrT} {key : List Int} {now : List PrT} (h : Srt L) (h1 : now.length ≤ 1) : (updT L key now).length ≤ L.length + 1 := by
 rw [← upd_leaf h, List.length_append, List.length_append, List.length_take, List.length_drop]
 have := find_end L key
 have := find_le L key
 omega
theorem GwT.step {k : Nat} {t u : Option TrT} {L : List PrT} {key : List Int} {now : List PrT} (h : GwT k t L) (hn : NowT key now) (hc : ∀ p ∈ now, p.chain = []) (e : treeT t key now = some u) : GwT (k + 1) u (updT L key now) := by
 obtain ⟨k1, k2⟩ := tree_all h.ok hn e
 have h1 := tree_high e
 have h2 := h.hi
 have h3 := upd_len2 (key := key) h.srt hn.one
 have h4 := h.le
 refine ⟨k1, by rw [k2, h.fl], by omega, by omega, fun p hp => ?_⟩
 rcases upd_mem hp with h | h'
 ·exact hc p h
 ·exact h.ch p h'
theorem GwT.same {k : Nat} {t : Option TrT} {L : List PrT} {key : List Int} {now : List PrT} (h : GwT k t L) (hn : NowT key now) (hc : ∀ p ∈ now, p.chain = []) (e : treeT t key now = none) : GwT (k + 1) t (updT L key now) := by
 have e2 := (tree_none h.ok).1 e
 rw [h.fl] at e2
 have e3 : midT L key = now := by
  have hm : ∀ p ∈ midT L key, p.key = key ∧ p.chain = [] := fun p hp => by
   obtain ⟨p1, p2⟩ := List.mem_filter.1 hp
   exact ⟨cmp_zero (by simpa using p2), h.ch p p1⟩
  have hk : ∀ p ∈ now, p.key = key ∧ p.chain = [] := fun p hp => ⟨hn.key p hp, hc p hp⟩
  revert e2 hm hk
  generalize midT L key = A
  clear h hn hc e
  induction A generalizing now with
  | nil =>
   intro e2 _ _
   cases now with
   | nil => rfl
   | cons p ps => simp at e2
  | cons x A ih =>
   intro e2 hm hk
   cases now with
   | nil => simp at e2
   | cons p ps =>
    simp only [List.map_cons, List.cons.injEq] at e2
    have a1 := hm x List.mem_cons_self
    have a2 := hk p List.mem_cons_self
    rw [ih e2.2 (fun q hq => hm q (List.mem_cons_of_mem _ hq)) (fun q hq => hk q (List.mem_cons_of_mem _ hq))]
    obtain ⟨xk, xv, xc⟩ := x
    obtain ⟨pk, pv, pc⟩ := p
    simp only at a1 a2 e2
    rw [a1.1, a1.2, a2.1, a2.2, e2.1]
 rw [← e3, upd_same h.srt]
 exact h.more
def nowD (key val : List Int) (gone : Bool) : List PrT := if gone then [] else [⟨key, val, []⟩]
def badD (key val : List Int) (gone : Bool) : Bool := decide (key.length < 1) || decide (255 < key.length) || (!gone && decide (262144 < val.length))
def doneD (L : List PrT) (key val : List Int) (gone : Bool) : List PrT := if badD key val gone then L else updT L key (nowD key val gone)
theorem now_ok {key val : List Int} {gone : Bool} (h : badD key val gone = false) (bk : Bt key) (bv : Bt val) : NowT key (nowD key val gone) ∧ ∀ p ∈ nowD key val gone, p.chain = [] := by
 unfold badD at h
 unfold nowD
 cases gone with
 | true => exact ⟨⟨by simp, (fun p hp => by cases hp), (fun p hp => by cases hp)⟩, fun p hp => by cases hp⟩
 | false =>
  simp only [Bool.or_eq_false_iff, decide_eq_false_iff_not, Bool.not_false, Bool.true_and] at h
  refine ⟨⟨by simp, fun p hp => ?_, fun p hp => ?_⟩, fun p hp => ?_⟩
  ·simp at hp; rw [hp]
  ·simp at hp; rw [hp]; exact ⟨by show 1 ≤ key.length; omega, by show key.length ≤ 255; omega, by show val.length ≤ 262144; omega, bk, bv⟩
  ·simp at hp; rw [hp]
end Go.Proofs.YtndanifjommpdaaGreat
namespace Go.Proofs.YtndanifjommpdaaGreat
theorem getO_look {t : Option TrT} (h : OkO t) (key : List Int) : getO t key = lookT (flatO t) key := by
 cases t with
 | none => rfl
 | some t => exact get_look t.lv t.root key h
theorem find_self : ∀ {L : List PrT} {i : Nat} {p : PrT}, Srt L → L[i]? = some p → findT L p.key = i
 | [], _, _, _, h => by simp at h
 | x :: L, 0, p, _, h => by
  simp at h
  subst h
  rw [find_consW, if_neg (by rw [cmp_self]; omega)]
 | x :: L, i + 1, p, hs, h => by
  have hp : p ∈ L := List.mem_of_getElem? (by simpa using h)
  have h1 := (List.pairwise_cons.1 hs).1 p hp
  rw [find_consW, if_pos h1, find_self (List.pairwise_cons.1 hs).2 (by simpa using h)]
theorem look_self {L : List PrT} {i : Nat} {p : PrT} (hs : Srt L) (h : L[i]? = some p) : lookT L p.key = some p.val := by
 have hi := (List.getElem?_eq_some_iff.1 h).1
 have hf := find_self hs h
 have hh : hasT L p.key = true := by
  unfold hasT
  rw [hf, h]
  simp [cmp_self]
 rw [← has_mid hs, if_pos hh, hf]
 simp [List.getD, h]
end Go.Proofs.YtndanifjommpdaaGreat
