import Derived.Laws.CopyRow
import Derived.Test.YtkiopabcnemgnaaGreatDoorK37
import Derived.Great.Walk
set_option maxRecDepth 100000
set_option maxHeartbeats 8000000
namespace Go.Proofs.YtkiopabcnemgnaaGreatDoor
open Go.RowKit
def over {α : Type} (xs ys : List α) : List α := ys.take xs.length ++ xs.drop ys.length
theorem over_len {α : Type} (xs ys : List α) : (over xs ys).length = xs.length := by
 simp only [over, List.length_append, List.length_take, List.length_drop]; omega
theorem over_bt {xs ys : List Int} (h : Bt xs) (k : Bt ys) : Bt (over xs ys) := fun z hz => by
 rcases List.mem_append.1 hz with e | e
 ·exact k z (List.mem_of_mem_take e)
 ·exact h z (List.mem_of_mem_drop e)
theorem drop_over {α : Type} (xs ys ms : List α) : ys.take xs.length ++ (xs ++ ms).drop (ys.take xs.length).length = over xs ys ++ ms := by
 unfold over;rw [List.append_assoc, List.length_take]
 congr 1
 by_cases h : ys.length ≤ xs.length
 ·rw [Nat.min_eq_right h, List.drop_append_of_le_length h]
 ·rw [Nat.min_eq_left (by omega), List.drop_append_of_le_length (Nat.le_refl _), List.drop_eq_nil_of_le (Nat.le_refl _), List.drop_eq_nil_of_le (by omega)]
theorem kc_app : ∀ (K M : List Kd), kc (K ++ M) = kc K ++ kc M
 | [], _ => rfl
 | k :: K, M => by simp [kc, kc_app K M]
theorem kc_drop : ∀ (n : Nat) (K : List Kd), (kc K).drop (n * 2) = kc (K.drop n)
 | 0, K => by simp
 | n + 1, [] => by simp [kc]
 | n + 1, k :: K => by
  have := kc_drop n K;rw [show (n + 1) * 2 = n * 2 + 2 by omega];simpa [kc] using this
theorem run_copy8 {P : Program} (w : World) (dT sT ty elem : TypeId) (sz g dLen dCap : Nat) (sp : Option Addr) (sLen sCap : Nat) (cur : Array Value) (t : TypeId) (cs : List Value)
  (hu : P.underlying dT = some (.slice elem)) (hs : (P.info? elem).map (·.size) = some sz) (hz : 0 < sz)
  (hg : w.heap[g]? = some (.cells cur t (0, 0))) (hn : cs.length = Nat.min sLen dLen * sz)
  (hsrc : 0 < cs.length → ∃ a, sp = some a ∧ ∀ j v, cs[j]? = some v → w.cell? (a.add j) = some v) (hfit : cs.length ≤ cur.size) (h1 : ∀ v ∈ cs, v.oneCell' = true) :
  (Builtin.copy_ #[dT, sT] ty #[.slice (some ⟨g, 0, none⟩) dLen dCap, .slice sp sLen sCap]).run P w =
   .ok (goInt (Nat.min sLen dLen)) (w.setRow g (cs ++ cur.toList.drop cs.length).toArray) := by
 cases hq : P.info? elem with
 | none => simp [hq] at hs
 | some i =>
  have hi : i.size = sz := by simpa [hq] using hs
  by_cases h0 : cs.length = 0
  ·obtain rfl : cs = [] := List.eq_nil_of_length_eq_zero h0
   have hm : Nat.min sLen dLen = 0 := by
    rcases Nat.eq_zero_or_pos (Nat.min sLen dLen) with e | e
    ·exact e
    ·have := Nat.mul_pos e hz; simp at hn; omega
   have hl : ∀ (x : Addr), (loadCells x 0).run P w = .ok #[] w := fun x => by simpa using run_loadCells_list (P := P) w x [] (by simp)
   have hself := setRow_self w g cur t (0, 0) hg;cases sp <;> simp [Builtin.copy_, run_underlying hu, Builtin.lenOf, Builtin.firstCells, sizeOf, typeInfo, hq, hm, storeCells, hl, hself]
  ·obtain ⟨a, rfl, hs2⟩ := hsrc (by omega)
   have hl := run_loadCells_list (P := P) w a cs hs2;have hst := run_storeCells_at P g 0 t cs 0 cur w hg (by simpa using hfit) h1;simp only [Nat.zero_add, List.take_zero, List.nil_append, Nat.add_zero] at hst;simp [Builtin.copy_, run_underlying hu, Builtin.lenOf, Builtin.firstCells, sizeOf, typeInfo, hq, hi, ← hn, hl, hst]
theorem step_copy8 {ops : Array Oper} {o : Oper} {a : Act} {w : World} {K : Act → World → Prop} {Q : Exit → Act → World → Prop} {E : Prop} (hgd : o.guard = none) (d s : Operand) (dT elem t : TypeId) (sz : Nat)
  (ho : o.op = .call { callee := .builtin .copy, args := #[d, s], argTypes := #[dT, dT] }) (hu : Tryz.prog.underlying dT = some (.slice elem)) (hs : (Tryz.prog.info? elem).map (·.size) = some sz) (hz : 0 < sz)
  (g dLen dCap : Nat) (sp : Option Addr) (sLen sCap : Nat) (hd : a.eval d = .slice (some ⟨g, 0, none⟩) dLen dCap) (hsv : a.eval s = .slice sp sLen sCap)
  (cur : Array Value) (hg : w.heap[g]? = some (.cells cur t (0, 0))) (cs : List Value) (hn : cs.length = Nat.min sLen dLen * sz)
  (hsrc : 0 < cs.length → ∃ a, sp = some a ∧ ∀ j v, cs[j]? = some v → w.cell? (a.add j) = some v) (hfit : cs.length ≤ cur.size) (h1 : ∀ v ∈ cs, v.oneCell' = true)
  (h : ∀ w', w'.heap[g]? = some (.cells (cs ++ cur.toList.drop cs.length).toArray t (0, 0)) → w.grownBy w' (some g) → K (a.put o.dst (goInt (Nat.min sLen dLen))) w') :
  if Region.wanted o (yielded ops a.tmps) = true then Oper.wp Tryz.prog o a w K Q else E := by
 have hw : Region.wanted o (yielded ops a.tmps) = true := by simp [Region.wanted, hgd]
 rw [if_pos hw];have hrun := run_copy8 (P := Tryz.prog) w dT dT o.type elem sz g dLen dCap sp sLen sCap cur t cs hu hs hz hg hn hsrc hfit h1;unfold Oper.wp;simp [execOp, ho, resolve, invoke, builtin, hd, hsv, hrun, Result.andThen];exact h _ (setRow_heap w g _ _ _ _ hg) ⟨rfl, rfl, rfl, by simp [World.setRow], fun k _ hk => setRow_other w g k _ (fun e => hk (by rw [e]))⟩
theorem own_over {w w' : World} {base A c sz N : Nat} {t : TypeId} {xs cs : List Value} {cur : Array Value} (h : w.ownsRow base t sz (.slice (some ⟨A, 0, none⟩) N c) N xs) (hc : w.heap[A]? = some (.cells cur t (0, 0))) (hl : cs.length ≤ N * sz) (hw : w'.heap[A]? = some (.cells (cs ++ cur.toList.drop cs.length).toArray t (0, 0))) :
  w'.ownsRow base t sz (.slice (some ⟨A, 0, none⟩) N c) N (cs ++ xs.drop cs.length) ∧ N * sz ≤ cur.size := by
 have hx := h.1;rcases h.2 with ⟨e, _⟩ | ⟨g, cap', cur', hv, hb, hg, hcc, hm, hs, ht⟩
 ·cases e
 ·injection hv with e1 _ e3
  injection e1 with e1
  injection e1 with e1 _ _
  subst e1 e3;rw [hg] at hc;simp only [Option.some.injEq, Obj.cells.injEq] at hc;obtain ⟨rfl, _⟩ := hc;have hN : N * sz ≤ cur'.size := by rw [hs]; exact Nat.mul_le_mul_right _ hcc
  refine ⟨⟨?_, .inr ⟨A, c, _, rfl, hb, hw, hcc, hm, ?_, ?_⟩⟩, hN⟩
  ·rw [List.length_append, List.length_drop, hx]; omega
  ·simp only [List.size_toArray, List.length_append, List.length_drop, Array.length_toList]; omega
  ·rw [← ht, List.take_append, List.take_of_length_le hl, List.drop_take]
theorem own_rowc {w : World} {base A c sz N : Nat} {t : TypeId} {xs : List Value} (h : w.ownsRow base t sz (.slice (some ⟨A, 0, none⟩) N c) N xs) : ∃ cur, w.heap[A]? = some (.cells cur t (0, 0)) ∧ N * sz ≤ cur.size := by
 rcases h.2 with ⟨e, _⟩ | ⟨g, cap', cur', hv, hb, hg, hcc, hm, hs, ht⟩
 ·cases e
 ·injection hv with e1 _ e3
  injection e1 with e1
  injection e1 with e1 _ _
  subst e1 e3;exact ⟨cur', hg, by rw [hs]; exact Nat.mul_le_mul_right _ hcc⟩
theorem ow_over {w w' : World} {g cap : Nat} {zs ts mk : List Int} {cur : Array Value} (h : Ow w g cap (zs ++ mk)) (hc : w.heap[g]? = some (.cells cur 5 (0, 0))) (hw : w'.heap[g]? = some (.cells ((ts.take zs.length).map (Value.int .u8) ++ cur.toList.drop ((ts.take zs.length).map (Value.int .u8)).length).toArray 5 (0, 0))) : Ow w' g cap (over zs ts ++ mk) := by
 obtain ⟨cur', h1, h2, h3⟩ := h.ex
 have e : cur' = cur := by
  rw [h1] at hc;simp only [Option.some.injEq, Obj.cells.injEq] at hc;exact hc.1
 subst e;have hle := h.le;rw [List.length_append] at hle;have hk : (ts.take zs.length).length ≤ zs.length := by rw [List.length_take]; omega
 refine ⟨⟨_, hw, ?_, fun j hj => ?_⟩, by rw [List.length_append, over_len]; exact hle, h.max⟩
 ·simp only [List.size_toArray, List.length_append, List.length_map, List.length_drop, Array.length_toList]
  omega
 ·rw [List.length_append, over_len] at hj
  rw [← drop_over];simp only [List.getElem?_toArray, List.length_map]
  by_cases hj2 : j < (ts.take zs.length).length
  ·rw [List.getElem?_append_left (by simpa using hj2)]
   simp only [List.getD, List.getElem?_append_left hj2, List.getElem?_map, List.getElem?_eq_getElem hj2, Option.map_some, Option.getD_some]
  ·have h4 := h3 j (by rw [List.length_append]; omega)
   rw [List.getElem?_append_right (by simpa using hj2), List.length_map, List.getElem?_drop];have e5 : (ts.take zs.length).length + (j - (ts.take zs.length).length) = j := by omega
   rw [e5, Array.getElem?_toList, h4];simp only [List.getD];rw [List.getElem?_append_right (l₁ := ts.take zs.length) (by omega), List.getElem?_drop, e5]
theorem Fits.setItem {p : Pg} (h : Fits p) (i : Nat) (z : It) (hz : z.key.length ≤ 65536 ∧ z.val.length ≤ 65536) : Fits { p with items := p.items.set i z } :=
 ⟨by show (p.items.set i z).length ≤ 2000; rw [List.length_set]; exact h.items, h.seps, h.kids, h.data, h.list, fun x hx => by
  rcases List.mem_or_eq_of_mem_set hx with e | e
  ·exact h.each x e
  ·rw [e]; exact hz, h.sep⟩
theorem Fits.setSep {p : Pg} (h : Fits p) (i : Nat) (z : List Int) (hz : z.length ≤ 65536) : Fits { p with seps := p.seps.set i z } :=
 ⟨h.items, by show (p.seps.set i z).length ≤ 2000; rw [List.length_set]; exact h.seps, h.kids, h.data, h.list, h.each, fun x hx => by
  rcases List.mem_or_eq_of_mem_set hx with e | e
  ·exact h.sep x e
  ·rw [e]; exact hz⟩
theorem Lt8.low {w w' : World} {base g cap : Nat} {zs : List Int} {y : Pv} {p : Pg} {b : Bk8} (h : Lt8 w base y p b) (ho : Ow w g cap zs) (hlt : g < b.m1) (hg : w.grownBy w' (some g)) :
  Sp8 w' b.m1 b.B b.d p.seps.length p.seps.length b.h b.gs b.ys p.seps ∧ w'.ownsRow base 67 2 (.slice (some ⟨b.K, 0, none⟩) (p.kids.length + 1) b.e) (p.kids.length + 1) (kc p.kids ++ [.int .i64 201, .int .i64 0]) ∧ Ow w' b.D b.f (p.data ++ [201]) ∧ w'.ownsRow base 3 1 (.slice (some ⟨b.T, 0, none⟩) (p.list.length + 1) b.t) (p.list.length + 1) ((p.list ++ [201]).map (Value.int .i64)) := by
 have hb := h.sp.hb;have hd := h.dm;have hm := h.mm;refine ⟨h.sp.kept hg (fun e => ow_own8 h.sp.own (by decide) ho (Option.some.inj e)) (fun e => ?_) (fun j hj e => ?_), own_other8 h.kd hg (fun e => ow_own8 h.kd (by decide) ho e.symm), h.da.kept hg (fun e => ?_), own_other8 h.li hg (fun e => ow_own8 h.li (by decide) ho e.symm)⟩
 ·have := Option.some.inj e; omega
 ·have := Option.some.inj e; have := h.sp.lo j hj; omega
 ·have := Option.some.inj e; omega
theorem Ib.set {L : List It} (h : Ib L) (i : Nat) (z : It) (hz : Itb z) : Ib (L.set i z) := fun x hx => by
 rcases List.mem_or_eq_of_mem_set hx with e | e
 ·exact h x e
 ·rw [e]; exact hz
theorem Lb.set {L : List (List Int)} (h : Lb L) (i : Nat) (z : List Int) (hz : Bt z) : Lb (L.set i z) := fun x hx => by
 rcases List.mem_or_eq_of_mem_set hx with e | e
 ·exact h x e
 ·rw [e]; exact hz
theorem Lt8.setKey {w w' : World} {base : Nat} {y : Pv} {p : Pg} {b : Bk8} (h : Lt8 w base y p b) (i : Nat) (hi : i < p.items.length) (key : List Int) (hk : key.length = (p.items.getD i it0).key.length) (hb : Itb ⟨key, (p.items.getD i it0).val, (p.items.getD i it0).size, (p.items.getD i it0).first⟩) (hg : w.grownBy w' (some (b.gk i).1)) (ho : Ow w' (b.gk i).1 (b.gk i).2 (key ++ [201])) :
  Lt8 w' base y { p with items := p.items.set i ⟨key, (p.items.getD i it0).val, (p.items.getD i it0).size, (p.items.getD i it0).first⟩ } b := by
 obtain ⟨k1, k2, k3, k4⟩ := h.low (h.it.ko i hi).1 (Nat.lt_trans (h.it.lo i hi).2 (h.im i hi)) hg;have hl : (p.items.set i ⟨key, (p.items.getD i it0).val, (p.items.getD i it0).size, (p.items.getD i it0).first⟩).length = p.items.length := List.length_set;refine ⟨h.kind, h.level, h.next, h.head, ?_, ?_, h.ib.set i _ hb, ?_, h.ys, k1, h.sb, h.bm, h.sm, h.yd, k2, h.yb, k3, h.db, h.dm, h.mm, h.yt, k4⟩
 ·simp only [hl]; exact h.yi
 ·simp only [hl]; exact h.it.setKey i hi key hk hg ho
 ·simp only [hl]; exact h.im
theorem Lt8.setVal {w w' : World} {base : Nat} {y : Pv} {p : Pg} {b : Bk8} (h : Lt8 w base y p b) (i : Nat) (hi : i < p.items.length) (val : List Int) (hk : val.length = (p.items.getD i it0).val.length) (hb : Itb ⟨(p.items.getD i it0).key, val, (p.items.getD i it0).size, (p.items.getD i it0).first⟩) (hg : w.grownBy w' (some (b.gv i).1)) (ho : Ow w' (b.gv i).1 (b.gv i).2 (val ++ [201])) :
  Lt8 w' base y { p with items := p.items.set i ⟨(p.items.getD i it0).key, val, (p.items.getD i it0).size, (p.items.getD i it0).first⟩ } b := by
 obtain ⟨k1, k2, k3, k4⟩ := h.low (h.it.ko i hi).2 (h.im i hi) hg;have hl : (p.items.set i ⟨(p.items.getD i it0).key, val, (p.items.getD i it0).size, (p.items.getD i it0).first⟩).length = p.items.length := List.length_set;refine ⟨h.kind, h.level, h.next, h.head, ?_, ?_, h.ib.set i _ hb, ?_, h.ys, k1, h.sb, h.bm, h.sm, h.yd, k2, h.yb, k3, h.db, h.dm, h.mm, h.yt, k4⟩
 ·simp only [hl]; exact h.yi
 ·simp only [hl]; exact h.it.setVal i hi val hk hg ho
 ·simp only [hl]; exact h.im
theorem Lt8.high {w w' : World} {base g cap : Nat} {zs : List Int} {y : Pv} {p : Pg} {b : Bk8} (h : Lt8 w base y p b) (ho : Ow w g cap zs) (hlt : b.m1 ≤ g) (hg : w.grownBy w' (some g)) :
  It8 w' base b.A b.c p.items.length p.items.length b.gk b.gv b.xs p.items ∧ w'.ownsRow base 67 2 (.slice (some ⟨b.K, 0, none⟩) (p.kids.length + 1) b.e) (p.kids.length + 1) (kc p.kids ++ [.int .i64 201, .int .i64 0]) ∧ w'.ownsRow base 3 1 (.slice (some ⟨b.T, 0, none⟩) (p.list.length + 1) b.t) (p.list.length + 1) ((p.list ++ [201]).map (Value.int .i64)) := by
 refine ⟨h.it.kept hg (fun e => ow_own8 h.it.own (by decide) ho (Option.some.inj e)) (fun j hj => ⟨fun e => ?_, fun e => ?_⟩), own_other8 h.kd hg (fun e => ow_own8 h.kd (by decide) ho e.symm), own_other8 h.li hg (fun e => ow_own8 h.li (by decide) ho e.symm)⟩
 ·have := Option.some.inj e; have := h.it.lo j hj; have := h.im j hj; omega
 ·have := Option.some.inj e; have := h.im j hj; omega
theorem Lt8.setSep {w w' : World} {base : Nat} {y : Pv} {p : Pg} {b : Bk8} (h : Lt8 w base y p b) (i : Nat) (hi : i < p.seps.length) (key : List Int) (hk : key.length = (p.seps.getD i []).length) (hb : Bt key) (hg : w.grownBy w' (some (b.gs i).1)) (ho : Ow w' (b.gs i).1 (b.gs i).2 (key ++ [201])) :
  Lt8 w' base y { p with seps := p.seps.set i key } b := by
 have h1 := h.sp.hb;have h2 := h.sp.lo i hi;have h3 := h.sm.2 i hi;have h4 := h.dm;obtain ⟨k1, k2, k3⟩ := h.high (h.sp.ko i hi) (by omega) hg;have hl : (p.seps.set i key).length = p.seps.length := List.length_set;refine ⟨h.kind, h.level, h.next, h.head, h.yi, k1, h.ib, h.im, ?_, ?_, h.sb.set i _ hb, h.bm, ?_, h.yd, k2, h.yb, h.da.kept hg (fun e => by have := Option.some.inj e; omega), h.db, h.dm, h.mm, h.yt, k3⟩
 ·simp only [hl]; exact h.ys
 ·simp only [hl]; exact h.sp.set i hi key hk hg ho
 ·simp only [hl]; exact h.sm
theorem Lt8.setData {w w' : World} {base : Nat} {y : Pv} {p : Pg} {b : Bk8} (h : Lt8 w base y p b) (zs : List Int) (hk : zs.length = p.data.length) (hb : Bt zs) (hg : w.grownBy w' (some b.D)) (ho : Ow w' b.D b.f (zs ++ [201])) : Lt8 w' base y { p with data := zs } b := by
 have h1 := h.sm;have h4 := h.dm;have h5 := h.mm;obtain ⟨k1, k2, k3⟩ := h.high h.da (by omega) hg;refine ⟨h.kind, h.level, h.next, h.head, h.yi, k1, h.ib, h.im, h.ys, h.sp.kept hg (fun e => ow_own8 h.sp.own (by decide) h.da (Option.some.inj e)) (fun e => by have := Option.some.inj e; omega) (fun j hj e => by have := Option.some.inj e; have := h1.2 j hj; omega), h.sb, h.bm, h.sm, h.yd, k2, ?_, ho, hb, h.dm, h.mm, h.yt, k3⟩;simp only [hk]; exact h.yb
theorem Lt8.setKids {w w' : World} {base : Nat} {y : Pv} {p : Pg} {b : Bk8} (h : Lt8 w base y p b) (L : List Kd) (hk : L.length = p.kids.length) (hg : w.grownBy w' (some b.K)) (ho : w'.ownsRow base 67 2 (.slice (some ⟨b.K, 0, none⟩) (p.kids.length + 1) b.e) (p.kids.length + 1) (kc L ++ [.int .i64 201, .int .i64 0])) : Lt8 w' base y { p with kids := L } b := by
 refine ⟨h.kind, h.level, h.next, h.head, h.yi, h.it.row h.kd (by decide) (by decide) hg, h.ib, h.im, h.ys, h.sp.row h.kd (by decide) (by decide) hg, h.sb, h.bm, h.sm, ?_, ?_, h.yb, h.da.row8 h.kd (by decide) hg, h.db, h.dm, h.mm, h.yt, own_row8 h.li h.kd (by decide) hg⟩
 ·simp only [hk]; exact h.yd
 ·simp only [hk]; exact ho
theorem Lt8.setList {w w' : World} {base : Nat} {y : Pv} {p : Pg} {b : Bk8} (h : Lt8 w base y p b) (L : List Int) (hk : L.length = p.list.length) (hg : w.grownBy w' (some b.T)) (ho : w'.ownsRow base 3 1 (.slice (some ⟨b.T, 0, none⟩) (p.list.length + 1) b.t) (p.list.length + 1) ((L ++ [201]).map (Value.int .i64))) : Lt8 w' base y { p with list := L } b := by
 refine ⟨h.kind, h.level, h.next, h.head, h.yi, h.it.row h.li (by decide) (by decide) hg, h.ib, h.im, h.ys, h.sp.row h.li (by decide) (by decide) hg, h.sb, h.bm, h.sm, h.yd, own_row8 h.kd h.li (by decide) hg, h.yb, h.da.row8 h.li (by decide) hg, h.db, h.dm, h.mm, ?_, ?_⟩
 ·simp only [hk]; exact h.yt
 ·simp only [hk]; exact ho
theorem own_boxv {w w' : World} {base n sz Q : Nat} {t : TypeId} {v : Value} {xs : List Value} {y : Pv} (h : w.ownsRow base t sz v n xs) (hx : Px w Q y) (ht : 30 ≠ t) (hg : w.grownBy w' (some Q)) : w'.ownsRow base t sz v n xs := h.kept hg (.inr (fun e => own_ne h hx ht e.symm))
theorem Sx.boxv {w w' : World} {Q : Nat} {xs : List Value} {M : List (List Int)} {y : Pv} (h : Sx w xs M) (hx : Px w Q y) (hg : w.grownBy w' (some Q)) : Sx w' xs M := by
 refine ⟨h.len, fun j hj => ?_⟩;obtain ⟨b, v, h1, h2⟩ := h.el j hj;exact ⟨b, v, h1, own_boxv h2 hx (by decide) hg⟩
theorem own_ints8 {w : World} {base n : Nat} {v : Value} {K : List Int} (h : w.ownsRow base 3 1 v n (K.map (Value.int .i64))) : ∃ a cap, v = .slice a n cap ∧ Nt w a K ∧ K.length = n ∧ n ≤ cap ∧ cap ≤ 9223372036854775807 := by
 have hl : K.length = n := by have := h.1; simpa using this
 rcases h.2 with ⟨rfl, rfl⟩ | ⟨g, cap, cur, rfl, _, _, hc, hm, _⟩
 ·exact ⟨none, 0, rfl, ⟨fun i hi => by omega⟩, hl, Nat.le_refl _, by omega⟩
 ·refine ⟨some ⟨g, 0, none⟩, cap, rfl, ⟨fun i hi => ⟨g, 0, rfl, ?_⟩⟩, hl, hc, by unfold maxLen at hm; omega⟩
  rw [Nat.zero_add, h.cellAt _ (by omega), List.getElem?_map];simp [List.getD, List.getElem?_eq_getElem hi]
theorem Ls8.begin (w : World) (x : Pv) : Ls8 w (((w.alloc (.cells #[.int .i64 x.k, .slice x.i.a x.i.n x.i.c, .int .i64 x.l, .slice x.s.a x.s.n x.s.c, .slice x.d.a x.d.n x.d.c, .int .i64 x.x, .slice x.b.a x.b.n x.b.c, .slice x.t.a x.t.n x.t.c, .int .i64 x.h.v, .int .i64 x.h.c, .int .i64 x.h.r, .int .i64 x.h.h, .int .i64 x.h.k, .int .i64 x.h.f, .int .i64 x.h.n] 30)).alloc (.cells #[.int .i64 zV.k, .slice zV.i.a zV.i.n zV.i.c, .int .i64 zV.l, .slice zV.s.a zV.s.n zV.s.c, .slice zV.d.a zV.d.n zV.d.c, .int .i64 zV.x, .slice zV.b.a zV.b.n zV.b.c, .slice zV.t.a zV.t.n zV.t.c, .int .i64 zV.h.v, .int .i64 zV.h.c, .int .i64 zV.h.r, .int .i64 zV.h.h, .int .i64 zV.h.k, .int .i64 zV.h.f, .int .i64 zV.h.n] 30)).alloc (.cells #[.int .i64 x.k, .slice x.i.a x.i.n x.i.c, .int .i64 x.l, .slice x.s.a x.s.n x.s.c, .slice x.d.a x.d.n x.d.c, .int .i64 x.x, .slice x.b.a x.b.n x.b.c, .slice x.t.a x.t.n x.t.c, .int .i64 x.h.v, .int .i64 x.h.c, .int .i64 x.h.r, .int .i64 x.h.h, .int .i64 x.h.k, .int .i64 x.h.f, .int .i64 x.h.n] 30)) w.heap.size (w.heap.size + 1) (w.heap.size + 1 + 1) x x := by
 have g1 := gP w x;have g2 := World.grownBy_alloc (w.alloc (.cells #[.int .i64 x.k, .slice x.i.a x.i.n x.i.c, .int .i64 x.l, .slice x.s.a x.s.n x.s.c, .slice x.d.a x.d.n x.d.c, .int .i64 x.x, .slice x.b.a x.b.n x.b.c, .slice x.t.a x.t.n x.t.c, .int .i64 x.h.v, .int .i64 x.h.c, .int .i64 x.h.r, .int .i64 x.h.h, .int .i64 x.h.k, .int .i64 x.h.f, .int .i64 x.h.n] 30)) (.cells #[.int .i64 zV.k, .slice zV.i.a zV.i.n zV.i.c, .int .i64 zV.l, .slice zV.s.a zV.s.n zV.s.c, .slice zV.d.a zV.d.n zV.d.c, .int .i64 zV.x, .slice zV.b.a zV.b.n zV.b.c, .slice zV.t.a zV.t.n zV.t.c, .int .i64 zV.h.v, .int .i64 zV.h.c, .int .i64 zV.h.r, .int .i64 zV.h.h, .int .i64 zV.h.k, .int .i64 zV.h.f, .int .i64 zV.h.n] 30) none;have g3 := World.grownBy_alloc ((w.alloc (.cells #[.int .i64 x.k, .slice x.i.a x.i.n x.i.c, .int .i64 x.l, .slice x.s.a x.s.n x.s.c, .slice x.d.a x.d.n x.d.c, .int .i64 x.x, .slice x.b.a x.b.n x.b.c, .slice x.t.a x.t.n x.t.c, .int .i64 x.h.v, .int .i64 x.h.c, .int .i64 x.h.r, .int .i64 x.h.h, .int .i64 x.h.k, .int .i64 x.h.f, .int .i64 x.h.n] 30)).alloc (.cells #[.int .i64 zV.k, .slice zV.i.a zV.i.n zV.i.c, .int .i64 zV.l, .slice zV.s.a zV.s.n zV.s.c, .slice zV.d.a zV.d.n zV.d.c, .int .i64 zV.x, .slice zV.b.a zV.b.n zV.b.c, .slice zV.t.a zV.t.n zV.t.c, .int .i64 zV.h.v, .int .i64 zV.h.c, .int .i64 zV.h.r, .int .i64 zV.h.h, .int .i64 zV.h.k, .int .i64 zV.h.f, .int .i64 zV.h.n] 30)) (.cells #[.int .i64 x.k, .slice x.i.a x.i.n x.i.c, .int .i64 x.l, .slice x.s.a x.s.n x.s.c, .slice x.d.a x.d.n x.d.c, .int .i64 x.x, .slice x.b.a x.b.n x.b.c, .slice x.t.a x.t.n x.t.c, .int .i64 x.h.v, .int .i64 x.h.c, .int .i64 x.h.r, .int .i64 x.h.h, .int .i64 x.h.k, .int .i64 x.h.f, .int .i64 x.h.n] 30) none;have s1 : (w.alloc (.cells #[.int .i64 x.k, .slice x.i.a x.i.n x.i.c, .int .i64 x.l, .slice x.s.a x.s.n x.s.c, .slice x.d.a x.d.n x.d.c, .int .i64 x.x, .slice x.b.a x.b.n x.b.c, .slice x.t.a x.t.n x.t.c, .int .i64 x.h.v, .int .i64 x.h.c, .int .i64 x.h.r, .int .i64 x.h.h, .int .i64 x.h.k, .int .i64 x.h.f, .int .i64 x.h.n] 30)).heap.size = w.heap.size + 1 := by simp
 have s2 : ((w.alloc (.cells #[.int .i64 x.k, .slice x.i.a x.i.n x.i.c, .int .i64 x.l, .slice x.s.a x.s.n x.s.c, .slice x.d.a x.d.n x.d.c, .int .i64 x.x, .slice x.b.a x.b.n x.b.c, .slice x.t.a x.t.n x.t.c, .int .i64 x.h.v, .int .i64 x.h.c, .int .i64 x.h.r, .int .i64 x.h.h, .int .i64 x.h.k, .int .i64 x.h.f, .int .i64 x.h.n] 30)).alloc (.cells #[.int .i64 zV.k, .slice zV.i.a zV.i.n zV.i.c, .int .i64 zV.l, .slice zV.s.a zV.s.n zV.s.c, .slice zV.d.a zV.d.n zV.d.c, .int .i64 zV.x, .slice zV.b.a zV.b.n zV.b.c, .slice zV.t.a zV.t.n zV.t.c, .int .i64 zV.h.v, .int .i64 zV.h.c, .int .i64 zV.h.r, .int .i64 zV.h.h, .int .i64 zV.h.k, .int .i64 zV.h.f, .int .i64 zV.h.n] 30)).heap.size = w.heap.size + 2 := by simp
 refine ⟨((Px.new w x).keptN g2).keptN g3, ?_, ?_, gQ (gQ g1 g2) g3, ⟨Nat.le_refl _, by omega, by omega⟩⟩
 ·have := (Px.new (w.alloc (.cells #[.int .i64 x.k, .slice x.i.a x.i.n x.i.c, .int .i64 x.l, .slice x.s.a x.s.n x.s.c, .slice x.d.a x.d.n x.d.c, .int .i64 x.x, .slice x.b.a x.b.n x.b.c, .slice x.t.a x.t.n x.t.c, .int .i64 x.h.v, .int .i64 x.h.c, .int .i64 x.h.r, .int .i64 x.h.h, .int .i64 x.h.k, .int .i64 x.h.f, .int .i64 x.h.n] 30)) zV).keptN g3
  rw [s1] at this; exact this
 ·have := Px.new ((w.alloc (.cells #[.int .i64 x.k, .slice x.i.a x.i.n x.i.c, .int .i64 x.l, .slice x.s.a x.s.n x.s.c, .slice x.d.a x.d.n x.d.c, .int .i64 x.x, .slice x.b.a x.b.n x.b.c, .slice x.t.a x.t.n x.t.c, .int .i64 x.h.v, .int .i64 x.h.c, .int .i64 x.h.r, .int .i64 x.h.h, .int .i64 x.h.k, .int .i64 x.h.f, .int .i64 x.h.n] 30)).alloc (.cells #[.int .i64 zV.k, .slice zV.i.a zV.i.n zV.i.c, .int .i64 zV.l, .slice zV.s.a zV.s.n zV.s.c, .slice zV.d.a zV.d.n zV.d.c, .int .i64 zV.x, .slice zV.b.a zV.b.n zV.b.c, .slice zV.t.a zV.t.n zV.t.c, .int .i64 zV.h.v, .int .i64 zV.h.c, .int .i64 zV.h.r, .int .i64 zV.h.h, .int .i64 zV.h.k, .int .i64 zV.h.f, .int .i64 zV.h.n] 30)) x
  rw [s2] at this; exact this
theorem refPage8_any (x : Pv) (p : Pg) (w : World) (hp : Pm w x p) (hf : Fits p) : Calls Tryz.prog 15 #[.agg #[.int .i64 x.k, .slice x.i.a x.i.n x.i.c, .int .i64 x.l, .slice x.s.a x.s.n x.s.c, .slice x.d.a x.d.n x.d.c, .int .i64 x.x, .slice x.b.a x.b.n x.b.c, .slice x.t.a x.t.n x.t.c, .int .i64 x.h.v, .int .i64 x.h.c, .int .i64 x.h.r, .int .i64 x.h.h, .int .i64 x.h.k, .int .i64 x.h.f, .int .i64 x.h.n]] w fun en w' => (∃ z, en = .returned (.agg #[.int .i64 z.k, .slice z.i.a z.i.n z.i.c, .int .i64 z.l, .slice z.s.a z.s.n z.s.c, .slice z.d.a z.d.n z.d.c, .int .i64 z.x, .slice z.b.a z.b.n z.b.c, .slice z.t.a z.t.n z.t.c, .int .i64 z.h.v, .int .i64 z.h.c, .int .i64 z.h.r, .int .i64 z.h.h, .int .i64 z.h.k, .int .i64 z.h.f, .int .i64 z.h.n]) ∧ Pm w' z p) ∧ w.grownBy w' none := by
 have HP := hJ hp;have HF := hJ hf;have hin := hp.il;have hin2 := hf.items;have hsn := hp.sl;have hsn2 := hf.seps;have hkn := hp.kl;have hkn2 := hf.kids;have hdn := hp.data.len;have hdn2 := hf.data;have htn := hp.tl;have htn2 := hf.list;have HSI : Hid (∀ y ∈ p.items, y.key.length ≤ 100000 ∧ y.val.length ≤ 100000) := fun y hy => by have := hf.each y hy; omega
 have HSS : Hid (∀ s ∈ p.seps, s.length ≤ 100000) := fun s hs => by have := hf.sep s hs; omega
 clear hp hf;go_enter Tryz.func15, Tryz.ntmps15;go_upto_region 2 with fail
 have L1 := hJ (Ls8.begin w x);simp only [zV, nS, zH] at L1;generalize ((w.alloc (.cells #[.int .i64 x.k, .slice x.i.a x.i.n x.i.c, .int .i64 x.l, .slice x.s.a x.s.n x.s.c, .slice x.d.a x.d.n x.d.c, .int .i64 x.x, .slice x.b.a x.b.n x.b.c, .slice x.t.a x.t.n x.t.c, .int .i64 x.h.v, .int .i64 x.h.c, .int .i64 x.h.r, .int .i64 x.h.h, .int .i64 x.h.k, .int .i64 x.h.f, .int .i64 x.h.n] 30)).alloc (.cells #[.int .i64 0, .slice none 0 0, .int .i64 0, .slice none 0 0, .slice none 0 0, .int .i64 0, .slice none 0 0, .slice none 0 0, .int .i64 0, .int .i64 0, .int .i64 0, .int .i64 0, .int .i64 0, .int .i64 0, .int .i64 0] 30)).alloc (.cells #[.int .i64 x.k, .slice x.i.a x.i.n x.i.c, .int .i64 x.l, .slice x.s.a x.s.n x.s.c, .slice x.d.a x.d.n x.d.c, .int .i64 x.x, .slice x.b.a x.b.n x.b.c, .slice x.t.a x.t.n x.t.c, .int .i64 x.h.v, .int .i64 x.h.c, .int .i64 x.h.r, .int .i64 x.h.h, .int .i64 x.h.k, .int .i64 x.h.f, .int .i64 x.h.n] 30) = w1 at *;generalize w.heap.size + 1 + 1 = Q at *;generalize w.heap.size + 1 = U at *;have c1 := L1.out.px.cells.2.1
 go_wp2_with fail
 refine (refItems_big x.i.a x.i.n x.i.c p.items _ (HP.out.items.keptN L1.out.gr) hin (by omega) HSI.out).mono ?_;rintro en w2 ⟨A, c, gk, gv, xs, rfl, hq2, hnc, hcm, hg2⟩;have L2 := hJ (L1.out.keptN hg2);have hQ : Q < w1.heap.size := L1.out.pq.lt;have d1 := L2.out.pq.cells.2.1;have f1 := L2.out.pq.frozen 1;have hgF := grown_cell w2 Q 1 (.slice (some ⟨A, 0, none⟩) x.i.n c);have L3 := hJ (L2.out.set hgF (L2.out.pq.set1 ⟨some ⟨A, 0, none⟩, x.i.n, c⟩));have I3 := hJ (hq2.below hgF hQ);clear hq2 hg2 L1 hgF c1;go_upto_region 3 with fail
 generalize w2.setCell ⟨Q, 1, none⟩ (.slice (some ⟨A, 0, none⟩) x.i.n c) = w3 at *;clear L2 d1 f1;have c3 := L3.out.px.cells.2.2.2.1
 go_wp2_with fail
 refine (refLists_own x.s.a x.s.n x.s.c p.seps _ (HP.out.seps.keptN L3.out.gr) hsn (by omega) HSS.out).mono ?_;rintro en w4 ⟨⟨v, ys, rfl, hown, hsx⟩, hg4⟩;obtain ⟨ag, cs, rfl, _, _, hsc1, hsc2⟩ := hsx.lz hown;have L4 := hJ (L3.out.keptN hg4);have d3 := L4.out.pq.cells.2.2.2.1;have f3 := L4.out.pq.frozen 3;have hgF := grown_cell w4 Q 3 (.slice ag x.s.n cs);have L5 := hJ (L4.out.set hgF (L4.out.pq.set3 ⟨ag, x.s.n, cs⟩));have I5 := hJ ((I3.out.keptN hg4).below hgF hQ);have S5 := hJ (hsx.boxv L4.out.pq hgF);have O5 := hJ (own_boxv hown L4.out.pq (by decide) hgF);clear hown hsx hg4 L3 I3 hgF c3;go_upto_region 4 with fail
 generalize w4.setCell ⟨Q, 3, none⟩ (.slice ag x.s.n cs) = w5 at *;clear L4 d3 f3;have c4 := L5.out.px.cells.2.2.2.2.1
 go_wp2_with fail
 refine (refKids_any x.d.a x.d.n x.d.c p.kids _ (HP.out.kids.keptN L5.out.gr) hkn (by omega)).mono ?_;rintro en w6 ⟨⟨v, rfl, hown⟩, hg6, _⟩;obtain ⟨ak, ck, rfl, _, _, hkc1, hkc2⟩ := kc_kl hown;have L6 := hJ (L5.out.keptN hg6);have d4 := L6.out.pq.cells.2.2.2.2.1;have f4 := L6.out.pq.frozen 4;have hgF := grown_cell w6 Q 4 (.slice ak x.d.n ck);have L7 := hJ (L6.out.set hgF (L6.out.pq.set4 ⟨ak, x.d.n, ck⟩));have I7 := hJ ((I5.out.keptN hg6).below hgF hQ);have S7 := hJ ((S5.out.keptN hg6).boxv L6.out.pq hgF);have O7 := hJ (own_boxv (own_kept5 O5.out hg6) L6.out.pq (by decide) hgF);have K7 := hJ (own_boxv hown L6.out.pq (by decide) hgF);clear hown hg6 L5 I5 S5 O5 hgF c4;go_upto_region 5 with fail
 generalize w6.setCell ⟨Q, 4, none⟩ (.slice ak x.d.n ck) = w7 at *;clear L6 d4 f4;have c6 := L7.out.px.cells.2.2.2.2.2.2.1
 go_wp2_with fail
 refine (refBytes_any x.b.a x.b.n x.b.c p.data _ (HP.out.data.keptN L7.out.gr) (by omega)).mono ?_;rintro en w8 ⟨rfl, hown, hg8, _⟩;have L8 := hJ (L7.out.keptN hg8);have d6 := L8.out.pq.cells.2.2.2.2.2.2.1;have f6 := L8.out.pq.frozen 6;generalize w7.heap.size = D at *;have hgF := grown_cell w8 Q 6 (.slice (some ⟨D, 0, none⟩) x.b.n x.b.n);have L9 := hJ (L8.out.set hgF (L8.out.pq.set6 ⟨some ⟨D, 0, none⟩, x.b.n, x.b.n⟩));have I9 := hJ ((I7.out.keptN hg8).below hgF hQ);have S9 := hJ ((S7.out.keptN hg8).boxv L8.out.pq hgF);have O9 := hJ (own_boxv (own_kept5 O7.out hg8) L8.out.pq (by decide) hgF);have K9 := hJ (own_boxv (own_kept5 K7.out hg8) L8.out.pq (by decide) hgF);have B9 := hJ (own_boxv hown L8.out.pq (by decide) hgF);clear hown hg8 L7 I7 S7 O7 K7 hgF c6;go_upto_region 6 with fail
 generalize w8.setCell ⟨Q, 6, none⟩ (.slice (some ⟨D, 0, none⟩) x.b.n x.b.n) = w9 at *;clear L8 d6 f6;have c7 := L9.out.px.cells.2.2.2.2.2.2.2.1
 go_wp2_with fail
 refine (refInts_any x.t.a x.t.n x.t.c p.list _ (HP.out.list.keptN L9.out.gr) htn (by omega)).mono ?_;rintro en w10 ⟨⟨v, rfl, hown⟩, hg10, _⟩;obtain ⟨at', ct, rfl, _, _, htc1, htc2⟩ := own_ints8 hown;have L10 := hJ (L9.out.keptN hg10);have d7 := L10.out.pq.cells.2.2.2.2.2.2.2.1;have f7 := L10.out.pq.frozen 7;have hgF := grown_cell w10 Q 7 (.slice at' x.t.n ct);have L11 := hJ (L10.out.set hgF (L10.out.pq.set7 ⟨at', x.t.n, ct⟩));have I11 := hJ ((I9.out.keptN hg10).below hgF hQ);have S11 := hJ ((S9.out.keptN hg10).boxv L10.out.pq hgF);have O11 := hJ (own_boxv (own_kept5 O9.out hg10) L10.out.pq (by decide) hgF);have K11 := hJ (own_boxv (own_kept5 K9.out hg10) L10.out.pq (by decide) hgF);have B11 := hJ (own_boxv (own_kept5 B9.out hg10) L10.out.pq (by decide) hgF);have T11 := hJ (own_boxv hown L10.out.pq (by decide) hgF);clear hown hg10 L9 I9 S9 O9 K9 B9 hgF c7;go_upto_region 7 with fail
 generalize w10.setCell ⟨Q, 7, none⟩ (.slice at' x.t.n ct) = w11 at *;clear L10 d7 f7;obtain ⟨z, hz⟩ : ∃ z : Pv, z = { x with i := ⟨some ⟨A, 0, none⟩, x.i.n, c⟩, s := ⟨ag, x.s.n, cs⟩, d := ⟨ak, x.d.n, ck⟩, b := ⟨some ⟨D, 0, none⟩, x.b.n, x.b.n⟩, t := ⟨at', x.t.n, ct⟩ } := ⟨_, rfl⟩;have PQ : Hid (Px w11 Q z) := by rw [hz]; exact L11.out.pq
 have HZ := hJ hz;clear hz;have hU : U < w1.heap.size := by have := L11.out.lt; omega
 go_wp2_with (refine wpList_load_page rfl _ rfl Q z rfl PQ.out (wpList_store_page rfl _ _ rfl U z zV rfl rfl L11.out.pu ?_))
 intro w12 hx12 hg12 _;have hz := HZ.out;have I12 := hJ (I11.out.below hg12 hU);have S12 := hJ (S11.out.boxv L11.out.pu hg12);have O12 := hJ (own_boxv O11.out L11.out.pu (by decide) hg12);have K12 := hJ (own_boxv K11.out L11.out.pu (by decide) hg12);have B12 := hJ (own_boxv B11.out L11.out.pu (by decide) hg12);have T12 := hJ (own_boxv T11.out L11.out.pu (by decide) hg12)
 have PM : Hid (Pm w12 z p) := by
  obtain ⟨_, _, e1, hlz, _, _, _⟩ := S12.out.lz O12.out;injection e1 with e1 _ _
  subst e1;obtain ⟨_, _, e2, hkl, _, _, _⟩ := kc_kl K12.out;injection e2 with e2 _ _
  subst e2;obtain ⟨_, _, e3, hnt, _, _, _⟩ := own_ints8 T12.out;injection e3 with e3 _ _
  subst e3;rw [hz];exact ⟨HP.out.kind, HP.out.level, HP.out.next, HP.out.head, I12.out.il, HP.out.ib, hin, by show x.i.n ≤ _; omega, hlz, HP.out.sb, hsn, by show x.s.n ≤ _; omega, hkl, hkn, by show x.d.n ≤ _; omega, own_byt B12.out, HP.out.db, by show x.b.n ≤ _; omega, hnt, htn, by show x.t.n ≤ _; omega⟩
 have G12 := hJ (grown_new L11.out.gr hg12 (by have := L11.out.lt; omega));clear I11 S11 O11 K11 B11 T11 I12 S12 O12 K12 B12 T12 hg12 L11 PQ hz;go_wp2;refine bodyPost_ret (ret_page rfl _ _ U z rfl hx12) rfl ?_;exact ⟨⟨z, rfl, PM.out⟩, G12.out⟩
attribute [local go_sem ↓] Go.wp_at_zero Go.wp_at_succ
theorem wpList_copy8 {w : World} {ops : Array Oper} {rest : List Oper} {o : Oper} {a : Act} {Q : Exit → Act → World → Prop} (hgd : o.guard = none) (d s : Operand) (dT elem t : TypeId) (sz : Nat)
  (ho : o.op = .call { callee := .builtin .copy, args := #[d, s], argTypes := #[dT, dT] }) (hu : Tryz.prog.underlying dT = some (.slice elem)) (hs : (Tryz.prog.info? elem).map (·.size) = some sz) (hz : 0 < sz)
  (g dLen dCap : Nat) (sp : Option Addr) (sLen sCap : Nat) (hd : a.eval d = .slice (some ⟨g, 0, none⟩) dLen dCap) (hsv : a.eval s = .slice sp sLen sCap)
  (cur : Array Value) (hg : w.heap[g]? = some (.cells cur t (0, 0))) (cs : List Value) (hn : cs.length = Nat.min sLen dLen * sz)
  (hsrc : 0 < cs.length → ∃ a, sp = some a ∧ ∀ j v, cs[j]? = some v → w.cell? (a.add j) = some v) (hfit : cs.length ≤ cur.size) (h1 : ∀ v ∈ cs, v.oneCell' = true) (Z : Array Value) (hZ : (cs ++ cur.toList.drop cs.length).toArray = Z)
  (h : ∀ w', w'.heap[g]? = some (.cells Z t (0, 0)) → w.grownBy w' (some g) → wpList Tryz.prog ops Q rest (a.put o.dst (goInt (Nat.min sLen dLen))) w') :
  wpList Tryz.prog ops Q (o :: rest) a w := by
 subst hZ;refine wpList_plain hgd fun K hK => ?_
 have hrun := run_copy8 (P := Tryz.prog) w dT dT o.type elem sz g dLen dCap sp sLen sCap cur t cs hu hs hz hg hn hsrc hfit h1;unfold Oper.wp;simp [execOp, ho, resolve, invoke, builtin, hd, hsv, hrun, Result.andThen];exact hK _ _ (h _ (setRow_heap w g _ _ _ _ hg) ⟨rfl, rfl, rfl, by simp [World.setRow], fun k _ hk => setRow_other w g k _ (fun e => hk (by rw [e]))⟩)
structure Tn8 (wa w0 wr : World) (base Y X : Nat) (y x : Pv) (b : Bk8) (p : Pg) : Prop where
 lt : Lt8 wr base y p b
 fit : Fits p
 gr : w0.grownBy wr none
 py : Px wr Y y
 px : Px wr X x
 bx : ∀ (T : Nat) (z : Pv), Px wa T z → Px wr T z
theorem Tn8.keptN {wa w0 wr w' : World} {base Y X : Nat} {y x : Pv} {b : Bk8} {p : Pg} (h : Tn8 wa w0 wr base Y X y x b p) (hg : wr.grownBy w' none) : Tn8 wa w0 w' base Y X y x b p :=
 ⟨h.lt.keptN hg, h.fit, gQ h.gr hg, h.py.keptN hg, h.px.keptN hg, fun T z hz => (h.bx T z hz).keptN hg⟩
theorem Tn8.bytes {wa w0 wr w' : World} {base Y X g cap : Nat} {y x : Pv} {b : Bk8} {p p' : Pg} {zs : List Int} (h : Tn8 wa w0 wr base Y X y x b p) (ho : Ow wr g cap zs) (hb : w0.heap.size ≤ g) (hg : wr.grownBy w' (some g)) (hl : Lt8 w' base y p' b) (hf : Fits p') : Tn8 wa w0 w' base Y X y x b p' := by
 obtain ⟨cur, hc⟩ := ho.blk;exact ⟨hl, hf, grown_new h.gr hg hb, h.py.kept hg (fun e => h.py.other hc (by decide) (Option.some.inj e).symm), h.px.kept hg (fun e => h.px.other hc (by decide) (Option.some.inj e).symm), fun T z hz => (h.bx T z hz).kept hg (fun e => (h.bx T z hz).other hc (by decide) (Option.some.inj e).symm)⟩
theorem Tn8.row {wa w0 wr w' : World} {base Y X A c n sz : Nat} {t : TypeId} {xs : List Value} {y x : Pv} {b : Bk8} {p p' : Pg} (h : Tn8 wa w0 wr base Y X y x b p) (h0 : w0.heap.size ≤ base) (ho : wr.ownsRow base t sz (.slice (some ⟨A, 0, none⟩) n c) n xs) (ht : t ≠ 30) (hg : wr.grownBy w' (some A)) (hl : Lt8 w' base y p' b) (hf : Fits p') : Tn8 wa w0 w' base Y X y x b p' := by
 obtain ⟨_, _, hb, _, cur, hc⟩ := own_cap8 ho;exact ⟨hl, hf, grown_new h.gr hg (by omega), h.py.kept hg (fun e => h.py.other hc ht (Option.some.inj e).symm), h.px.kept hg (fun e => h.px.other hc ht (Option.some.inj e).symm), fun T z hz => (h.bx T z hz).kept hg (fun e => (h.bx T z hz).other hc ht (Option.some.inj e).symm)⟩
theorem getD_each {p : Pg} (h : Fits p) {i : Nat} (hi : i < p.items.length) : (p.items.getD i it0).key.length ≤ 65536 ∧ (p.items.getD i it0).val.length ≤ 65536 := h.each _ (getD_mem hi)
theorem Tn8.key {wa w0 wr w' : World} {base Y X : Nat} {y x : Pv} {b : Bk8} {p : Pg} (h : Tn8 wa w0 wr base Y X y x b p) (h0 : w0.heap.size ≤ base) (i : Nat) (hi : i < p.items.length) (ts : List Int) (hts : Bt ts) {cur : Array Value} (hc : wr.heap[(b.gk i).1]? = some (.cells cur 5 (0, 0)))
  (hw : w'.heap[(b.gk i).1]? = some (.cells ((ts.take (p.items.getD i it0).key.length).map (Value.int .u8) ++ cur.toList.drop ((ts.take (p.items.getD i it0).key.length).map (Value.int .u8)).length).toArray 5 (0, 0))) (hg : wr.grownBy w' (some (b.gk i).1)) : ∃ p', Tn8 wa w0 w' base Y X y x b p' ∧ (p'.items.getD i it0).val.length = (p.items.getD i it0).val.length := by
 have o1 := (h.lt.it.ko i hi).1;have l1 := h.lt.it.lo i hi;have hb := h.lt.ib _ (getD_mem hi);refine ⟨_, h.bytes o1 (by omega) hg (h.lt.setKey i hi (over (p.items.getD i it0).key ts) (over_len _ _) ⟨over_bt hb.key hts, hb.val, hb.s1, hb.s2, hb.f1, hb.f2⟩ hg (ow_over o1 hc hw)) (h.fit.setItem i _ ⟨by simp only [over_len]; exact (getD_each h.fit hi).1, (getD_each h.fit hi).2⟩), ?_⟩;simp only [List.getD, List.getElem?_set_self hi, Option.getD_some]
theorem Tn8.val {wa w0 wr w' : World} {base Y X : Nat} {y x : Pv} {b : Bk8} {p : Pg} (h : Tn8 wa w0 wr base Y X y x b p) (h0 : w0.heap.size ≤ base) (i : Nat) (hi : i < p.items.length) (ts : List Int) (hts : Bt ts) {cur : Array Value} (hc : wr.heap[(b.gv i).1]? = some (.cells cur 5 (0, 0)))
  (hw : w'.heap[(b.gv i).1]? = some (.cells ((ts.take (p.items.getD i it0).val.length).map (Value.int .u8) ++ cur.toList.drop ((ts.take (p.items.getD i it0).val.length).map (Value.int .u8)).length).toArray 5 (0, 0))) (hg : wr.grownBy w' (some (b.gv i).1)) : ∃ p', Tn8 wa w0 w' base Y X y x b p' := by
 have o1 := (h.lt.it.ko i hi).2;have l1 := h.lt.it.lo i hi;have hb := h.lt.ib _ (getD_mem hi);exact ⟨_, h.bytes o1 (by omega) hg (h.lt.setVal i hi (over (p.items.getD i it0).val ts) (over_len _ _) ⟨hb.key, over_bt hb.val hts, hb.s1, hb.s2, hb.f1, hb.f2⟩ hg (ow_over o1 hc hw)) (h.fit.setItem i _ ⟨(getD_each h.fit hi).1, by simp only [over_len]; exact (getD_each h.fit hi).2⟩)⟩
theorem getD_memL {L : List (List Int)} {i : Nat} (hi : i < L.length) : L.getD i [] ∈ L := by
 simp only [List.getD, List.getElem?_eq_getElem hi, Option.getD_some]; exact List.getElem_mem hi
theorem Tn8.sep {wa w0 wr w' : World} {base Y X : Nat} {y x : Pv} {b : Bk8} {p : Pg} (h : Tn8 wa w0 wr base Y X y x b p) (h0 : w0.heap.size ≤ base) (i : Nat) (hi : i < p.seps.length) (ts : List Int) (hts : Bt ts) {cur : Array Value} (hc : wr.heap[(b.gs i).1]? = some (.cells cur 5 (0, 0)))
  (hw : w'.heap[(b.gs i).1]? = some (.cells ((ts.take (p.seps.getD i []).length).map (Value.int .u8) ++ cur.toList.drop ((ts.take (p.seps.getD i []).length).map (Value.int .u8)).length).toArray 5 (0, 0))) (hg : wr.grownBy w' (some (b.gs i).1)) : ∃ p', Tn8 wa w0 w' base Y X y x b p' := by
 have o1 := h.lt.sp.ko i hi;have l1 := h.lt.sp.lo i hi;have l2 := h.lt.sp.hb;have l3 := h.lt.bm;have hb := h.lt.sb _ (getD_memL hi);exact ⟨_, h.bytes o1 (by omega) hg (h.lt.setSep i hi (over (p.seps.getD i []) ts) (over_len _ _) (over_bt hb hts) hg (ow_over o1 hc hw)) (h.fit.setSep i _ (by rw [over_len]; exact h.fit.sep _ (getD_memL hi)))⟩
theorem Tn8.dat {wa w0 wr w' : World} {base Y X : Nat} {y x : Pv} {b : Bk8} {p : Pg} (h : Tn8 wa w0 wr base Y X y x b p) (h0 : w0.heap.size ≤ base) (ts : List Int) (hts : Bt ts) {cur : Array Value} (hc : wr.heap[b.D]? = some (.cells cur 5 (0, 0)))
  (hw : w'.heap[b.D]? = some (.cells ((ts.take p.data.length).map (Value.int .u8) ++ cur.toList.drop ((ts.take p.data.length).map (Value.int .u8)).length).toArray 5 (0, 0))) (hg : wr.grownBy w' (some b.D)) : ∃ p', Tn8 wa w0 w' base Y X y x b p' := by
 have l2 := h.lt.dm;have l3 := h.lt.bm;have l4 := h.lt.mm;exact ⟨_, h.bytes h.lt.da (by omega) hg (h.lt.setData (over p.data ts) (over_len _ _) (over_bt h.lt.db hts) hg (ow_over h.lt.da hc hw)) ⟨h.fit.items, h.fit.seps, h.fit.kids, by rw [over_len]; exact h.fit.data, h.fit.list, h.fit.each, h.fit.sep⟩⟩
theorem Tn8.kid {wa w0 wr w' : World} {base Y X : Nat} {y x : Pv} {b : Bk8} {p : Pg} (h : Tn8 wa w0 wr base Y X y x b p) (h0 : w0.heap.size ≤ base) (K : List Kd) {cur : Array Value} (hc : wr.heap[b.K]? = some (.cells cur 67 (0, 0)))
  (hw : w'.heap[b.K]? = some (.cells (kc (K.take p.kids.length) ++ cur.toList.drop (kc (K.take p.kids.length)).length).toArray 67 (0, 0))) (hg : wr.grownBy w' (some b.K)) : ∃ p', Tn8 wa w0 w' base Y X y x b p' := by
 have hl : (kc (K.take p.kids.length)).length ≤ (p.kids.length + 1) * 2 := by rw [kc_len, List.length_take]; omega
 have ho := (own_over h.lt.kd hc hl hw).1
 have e : kc (K.take p.kids.length) ++ (kc p.kids ++ [Value.int .i64 201, Value.int .i64 0]).drop (kc (K.take p.kids.length)).length = kc (over p.kids K) ++ [Value.int .i64 201, Value.int .i64 0] := by
  have := drop_over p.kids K [⟨201, 0⟩];have := congrArg kc this;rw [kc_app, kc_app, ← kc_drop, kc_app] at this;rw [kc_len];exact this
 rw [e] at ho;exact ⟨_, h.row h0 h.lt.kd (by decide) hg (h.lt.setKids (over p.kids K) (over_len _ _) hg ho) ⟨h.fit.items, h.fit.seps, by rw [over_len]; exact h.fit.kids, h.fit.data, h.fit.list, h.fit.each, h.fit.sep⟩⟩
theorem Tn8.int {wa w0 wr w' : World} {base Y X : Nat} {y x : Pv} {b : Bk8} {p : Pg} (h : Tn8 wa w0 wr base Y X y x b p) (h0 : w0.heap.size ≤ base) (K : List Int) {cur : Array Value} (hc : wr.heap[b.T]? = some (.cells cur 3 (0, 0)))
  (hw : w'.heap[b.T]? = some (.cells ((K.take p.list.length).map (Value.int .i64) ++ cur.toList.drop ((K.take p.list.length).map (Value.int .i64)).length).toArray 3 (0, 0))) (hg : wr.grownBy w' (some b.T)) : ∃ p', Tn8 wa w0 w' base Y X y x b p' := by
 have hl : ((K.take p.list.length).map (Value.int .i64)).length ≤ (p.list.length + 1) * 1 := by rw [List.length_map, List.length_take]; omega
 have ho := (own_over h.lt.li hc hl hw).1
 have e : (K.take p.list.length).map (Value.int .i64) ++ ((p.list ++ [201]).map (Value.int .i64)).drop ((K.take p.list.length).map (Value.int .i64)).length = (over p.list K ++ [201]).map (Value.int .i64) := by
  rw [← drop_over p.list K [201], List.map_append (l₁ := K.take p.list.length), List.map_drop, List.length_map]
 rw [e] at ho;exact ⟨_, h.row h0 h.lt.li (by decide) hg (h.lt.setList (over p.list K) (over_len _ _) hg ho) ⟨h.fit.items, h.fit.seps, h.fit.kids, h.fit.data, by rw [over_len]; exact h.fit.list, h.fit.each, h.fit.sep⟩⟩
theorem byt_take {w : World} {ao : Option Addr} {n c : Nat} {zs : List Int} (h : Byt w ao n c zs) (m : Nat) : 0 < ((zs.take m).map (Value.int .u8)).length → ∃ a, ao = some a ∧ ∀ j v, ((zs.take m).map (Value.int .u8))[j]? = some v → w.cell? (a.add j) = some v := fun h0 => by
 have hn := h.len;have h2 : 0 < zs.length := by rw [List.length_map, List.length_take] at h0; omega
 cases ao with
 | none => have := h.nil rfl; omega
 | some a =>
  refine ⟨a, rfl, fun j v hj => h.cells a rfl j v ?_⟩;rw [List.getElem?_map, List.getElem?_take] at hj;rw [List.getElem?_map]
  by_cases e : j < m
  ·rw [if_pos e] at hj; exact hj
  ·rw [if_neg e] at hj; cases hj
theorem take_lenB {zs : List Int} {n : Nat} (h : zs.length = n) (m : Nat) : ((zs.take m).map (Value.int .u8)).length = Nat.min n m * 1 := by rw [List.length_map, List.length_take, h, Nat.mul_one]; exact Nat.min_comm _ _
end Go.Proofs.YtkiopabcnemgnaaGreatDoor
