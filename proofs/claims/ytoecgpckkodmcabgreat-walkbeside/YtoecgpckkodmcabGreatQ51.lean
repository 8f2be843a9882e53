import Derived.Test.YtoecgpckkodmcabGreatQ1
import Derived.Test.YtoecgpckkodmcabGreatQ2
import Derived.Test.YtoecgpckkodmcabGreatQ3
import Derived.Test.YtoecgpckkodmcabGreatQ4
import Derived.Test.YtoecgpckkodmcabGreatQ5
import Derived.Test.YtoecgpckkodmcabGreatQ6
import Derived.Test.YtoecgpckkodmcabGreatQ7
import Derived.Test.YtoecgpckkodmcabGreatQ8
import Derived.Test.YtoecgpckkodmcabGreatQ9
import Derived.Test.YtoecgpckkodmcabGreatQ10
import Derived.Test.YtoecgpckkodmcabGreatQ11
import Derived.Test.YtoecgpckkodmcabGreatQ12
import Derived.Test.YtoecgpckkodmcabGreatQ13
import Derived.Test.YtoecgpckkodmcabGreatQ14
import Derived.Test.YtoecgpckkodmcabGreatQ15
import Derived.Test.YtoecgpckkodmcabGreatQ17
import Derived.Test.YtoecgpckkodmcabGreatQ16
import Derived.Test.YtoecgpckkodmcabGreatQ18
import Derived.Test.YtoecgpckkodmcabGreatQ19
import Derived.Test.YtoecgpckkodmcabGreatQ20
import Derived.Test.YtoecgpckkodmcabGreatQ21
import Derived.Test.YtoecgpckkodmcabGreatQ35
import Derived.Test.YtoecgpckkodmcabGreatQ36
import Derived.Test.YtoecgpckkodmcabGreatQ22
import Derived.Test.YtoecgpckkodmcabGreatQ23
import Derived.Test.YtoecgpckkodmcabGreatQ24
import Derived.Test.YtoecgpckkodmcabGreatQ33
import Derived.Test.YtoecgpckkodmcabGreatQ34
import Derived.Test.YtoecgpckkodmcabGreatQ37
import Derived.Test.YtoecgpckkodmcabGreatQ38
import Derived.Test.YtoecgpckkodmcabGreatQ25
import Derived.Test.YtoecgpckkodmcabGreatQ26
import Derived.Test.YtoecgpckkodmcabGreatQ27
import Derived.Test.YtoecgpckkodmcabGreatQ28
import Derived.Test.YtoecgpckkodmcabGreatQ29
import Derived.Test.YtoecgpckkodmcabGreatQ30
import Derived.Test.YtoecgpckkodmcabGreatQ31
import Derived.Test.YtoecgpckkodmcabGreatQ32
import Derived.Test.YtoecgpckkodmcabGreatQ39
import Derived.Test.YtoecgpckkodmcabGreatQ40
import Derived.Test.YtoecgpckkodmcabGreatQ41
import Derived.Test.YtoecgpckkodmcabGreatQ42
import Derived.Test.YtoecgpckkodmcabGreatQ47
import Derived.Lib.Bytealg
import Derived.Lib.BytesEntry
import Derived.Laws.CopyOwn
import Derived.Laws.AppendOwnNone
import Derived.Deep.RegionHeld3
import Derived.Deep.CutBlock
import Derived.Deep.DeepCutAuto
import Derived.Deep.CutRange
import Derived.Deep.QuietTactic
import Derived.Recover
import Derived.Laws.Pointers
import Derived.Lib.ConvBytes
namespace Go.Proofs.YtoecgpckkodmcabGreat
open Go.RowKit
theorem cmp_lt {a b : List Int} {i : Nat} (ha : i < a.length) (hb : i < b.length) (h : a.getD i 0 < b.getD i 0) : cmpZ (a.drop i) (b.drop i) = -1 := by
 rw [drop_cons ha, drop_cons hb, cmp_cons, if_pos h]
theorem cmp_gt {a b : List Int} {i : Nat} (ha : i < a.length) (hb : i < b.length) (h : b.getD i 0 < a.getD i 0) : cmpZ (a.drop i) (b.drop i) = 1 := by
 rw [drop_cons ha, drop_cons hb, cmp_cons, if_neg (by omega), if_pos h]
theorem cmp_on {a b : List Int} {i : Nat} (ha : i < a.length) (hb : i < b.length) (h1 : ¬ a.getD i 0 < b.getD i 0) (h2 : ¬ b.getD i 0 < a.getD i 0) : cmpZ (a.drop (i + 1)) (b.drop (i + 1)) = cmpZ (a.drop i) (b.drop i) := by
 rw [drop_cons ha, drop_cons hb, cmp_cons, if_neg h1, if_neg h2]
theorem cmp_end {a b : List Int} {i : Nat} (hi : i ≤ a.length) (hj : i ≤ b.length) (h : ¬ (i < a.length ∧ i < b.length)) :
  cmpZ (a.drop i) (b.drop i) = if a.length < b.length then -1 else if b.length < a.length then 1 else 0 := by
 by_cases ha : i < a.length
 ·have hb : i = b.length := by omega
  rw [List.drop_of_length_le (Nat.le_of_eq hb.symm), drop_cons ha, if_neg (by omega), if_pos (by omega)]; rfl
 ·rw [List.drop_of_length_le (show a.length ≤ i by omega)]
  by_cases hb : i < b.length
  ·rw [drop_cons hb, if_pos (by omega)]; rfl
  ·rw [List.drop_of_length_le (show b.length ≤ i by omega), if_neg (by omega), if_neg (by omega)]; rfl
def getT : (n : Nat) → NdT n → List Int → Option (List Int)
 | 0, x, key => if hasT (LfT.ps x) key then some ((LfT.ps x).getD (findT (LfT.ps x) key) pr0).val else none
 | n + 1, x, key => match (BnT.row (T := NdT n) x).ns[placeT (BnT.row (T := NdT n) x).ss key]? with
  | none => none
  | some k => getT n k key
def lookT (L : List PrT) (key : List Int) : Option (List Int) := (midT L key).head?.map PrT.val
theorem has_mid {L : List PrT} {key : List Int} (h : Srt L) : (if hasT L key then some (L.getD (findT L key) pr0).val else none) = lookT L key := by
 unfold lookT
 rw [← (leaf_cut h).2.2]
 unfold endT
 by_cases k : hasT L key = true
 ·simp only [k, if_true]
  have hl : findT L key < L.length := by
   unfold hasT at k
   cases e : L[findT L key]? with
   | none => rw [e] at k; simp at k
   | some p => exact (List.getElem?_eq_some_iff.1 e).1
  rw [List.drop_take, Nat.add_sub_cancel_left, List.drop_eq_getElem_cons hl]
  simp only [List.take_succ_cons, List.take_zero, List.head?_cons, Option.map_some]
  simp [List.getD, List.getElem?_eq_getElem hl]
 ·simp only [k, Bool.false_eq_true, if_false]
  rw [List.drop_take, Nat.sub_self]
  simp
theorem get_look : ∀ (n : Nat) (x : NdT n) (key : List Int), OkT n x → getT n x key = lookT (flatT n x) key
 | 0, x, key, hx => by
  rw [getT, flatT]
  exact has_mid hx.2.1
 | n + 1, x, key, hx => by
  obtain ⟨x1, x2, x3, x4, x5⟩ := hx
  obtain ⟨k, hk⟩ := at_place x3 x1 key
  obtain ⟨s1, s2, s3⟩ := hk.sides
  rw [getT, hk.at_]
  show getT n k key = _
  rw [get_look n k key (x2 k (List.mem_of_getElem? hk.at_)), flatT, s1]
  unfold lookT midT
  simp only [List.filter_append]
  rw [filter_none (L := (List.take (placeT (BnT.row (T := NdT n) x).ss key) (BnT.row (T := NdT n) x).ns).flatMap (flatT n)) (fun p hp => by have := s2 p hp; simp; omega), filter_none (L := (List.drop (placeT (BnT.row (T := NdT n) x).ss key + 1) (BnT.row (T := NdT n) x).ns).flatMap (flatT n)) (fun p hp => by have := s3 p hp; have := cmp_anti p.key key; simp; omega)]
  simp
theorem wpList_append_byt {w : World} {ops : Array Oper} {rest : List Oper} {o : Oper} {a : Act} {Q : Exit → Act → World → Prop} (hgd : o.guard = none) (s x : Operand)
  (ho : o.op = .call { callee := .builtin .append, args := #[s, x], argTypes := #[23, 23] })
  (base : Nat) (v : Value) (n : Nat) (zs : List Int) (hs : a.eval s = v) (hown : w.ownsRow base 5 1 v n (zs.map (Value.int .u8)))
  (ao : Option Addr) (m c : Nat) (ts : List Int) (hx : a.eval x = .slice ao m c) (hb : Byt w ao m c ts) (h63 : n + m ≤ 140737488355328) (hbase : base ≤ w.heap.size)
  (h : ∀ v' w', w'.ownsRow base 5 1 v' (n + m) ((zs ++ ts).map (Value.int .u8)) → w.grownBy w' v.ownBlock → wpList Tryz.prog ops Q rest (a.put o.dst v') w') : wpList Tryz.prog ops Q (o :: rest) a w := by
 obtain ⟨i0, hi, hz0, hz1, hz2⟩ := info_parts info_u8
 cases ao with
 | none =>
  obtain ⟨rfl, rfl⟩ := hb.nil rfl
  have ht : ts = [] := List.length_eq_zero_iff.1 hb.len
  subst ht
  refine wpList_append_own_none hgd s x 23 ho base 5 i0 1 Tryz.underlying23 hi v n _ hs hown hx ?_
  exact h v w (by rw [List.append_nil]; exact hown) (World.grownBy.refl _ _)
 | some ad =>
  refine wpList_append_own w hgd s x 23 ho base 5 i0 (.int .u8 0) 1 1 Tryz.underlying23 hi hz0 hz1 hz2 rfl (by decide) v n _ hs hown ad m c (ts.map (Value.int .u8)) hx (by rw [List.length_map, hb.len, Nat.mul_one]) (hb.cells ad rfl) (ints_oneCell _ _) (by unfold maxLen; omega) (by omega) hbase ?_
  intro v' w' h1 h2 _
  exact h v' w' (by rw [List.map_append]; exact h1) h2
set_option maxHeartbeats 4000000 in
set_option maxRecDepth 100000 in
theorem lget_any (b : Nat) (x : LfT) (ka : Option Addr) (kn kc : Nat) (key : List Int) (w : World) (hx : NodeT 0 w (.iface 99 (.pointer (some ⟨b, 0, none⟩))) x) (hL : LokT x.ps) (hk : Byt w ka kn kc key) (bt : Bt key) :
  Calls Tryz.prog 110 #[.pointer (some ⟨b, 0, none⟩), .slice ka kn kc] w fun en w' => (∃ ao n c, en = .returned (.tuple #[.slice ao n c, .bool (getT 0 x key).isSome]) ∧ BtyT w' ao n c ((getT 0 x key).getD [])) ∧ w.grownBy w' none := by
 obtain ⟨b', a, m, c, e, hb, hps⟩ := hx
 simp only [Value.iface.injEq, Value.pointer.injEq, Option.some.injEq, Addr.mk.injEq, true_and, and_true] at e
 subst e
 have hlen := hps.len
 have hle := hL.len
 have hc0 := cell_heap (i := 1) hb rfl
 have LF := hid_intro (lfind_any b _ m c ka kn kc x.ps key _ hc0 hps (by omega) hL.s hk bt (fun p hp => (hL.v p hp).kb))
 have HG : Hid (getT 0 x key = if hasT x.ps key then some (x.ps.getD (findT x.ps key) pr0).val else none) := rfl
 cases hh : hasT x.ps key with
 | false =>
  rw [HG.out, hh]
  rw [hh] at LF
  clear hb hps hk
  go_enter Tryz.func110, Tryz.ntmps110
  go_wp2_with fail
  refine LF.out.mono ?_
  rintro en w2 ⟨rfl, hg2⟩
  have G2 := hid_intro hg2
  clear hg2 LF
  go_wp2
  go_ret2
  exact ⟨⟨_, _, _, rfl, BtyT.nil _⟩, G2.out⟩
 | true =>
  have hp : ∃ p, x.ps[findT x.ps key]? = some p := by
   unfold hasT at hh
   cases e : x.ps[findT x.ps key]? with
   | none => rw [e] at hh; simp at hh
   | some p => exact ⟨p, rfl⟩
  obtain ⟨p, hp⟩ := hp
  have hlt := (List.getElem?_eq_some_iff.1 hp).1
  have hgd : x.ps.getD (findT x.ps key) pr0 = p := by simp [List.getD, hp]
  rw [HG.out, hh, hgd]
  rw [hh] at LF
  generalize findT x.ps key = f at *
  obtain ⟨g, off, ka2, kn2, kc2, va, vn, vc, ca, cn, cc, rfl, _, c1, _, hip⟩ := hps.pair hp
  have hi1 : (0 : Int) ≤ (f : Int) ∧ (f : Int) < (m : Int) := by omega
  have HI := hid_intro hip
  clear hb hps hk hip
  go_enter Tryz.func110, Tryz.ntmps110
  go_wp2_with fail
  refine LF.out.mono ?_
  rintro en w2 ⟨rfl, hg2⟩
  have G2 := hid_intro hg2
  have c2 := hg2.cell hc0 (by simp)
  have d1 := hg2.cell c1 (by simp)
  clear hg2 LF c1 hc0
  go_wp2
  go_ret2
  exact ⟨⟨_, _, _, rfl, HI.out.v.kept (FrT.of G2.out)⟩, G2.out⟩
theorem mL_get (v : Value) (w : World) : (method 279 99 v "coppice/tree.get").run Tryz.prog w = .ok (110, v) w := by kernel_rfl
theorem mB_get (v : Value) (w : World) : (method 279 114 v "coppice/tree.get").run Tryz.prog w = .ok (121, v) w := by kernel_rfl
def fGet : Nat → Nat
 | 0 => 110
 | _ + 1 => 121
def GetC (n : Nat) : Prop := ∀ (b : Nat) (x : NdT n) (ka : Option Addr) (kn kc : Nat) (key : List Int) (w : World), NodeT n w (.iface (tyN n) (.pointer (some ⟨b, 0, none⟩))) x → OkT n x → Byt w ka kn kc key → Bt key →
 Calls Tryz.prog (fGet n) #[.pointer (some ⟨b, 0, none⟩), .slice ka kn kc] w fun en w' => (∃ ao n' c, en = .returned (.tuple #[.slice ao n' c, .bool (getT n x key).isSome]) ∧ BtyT w' ao n' c ((getT n x key).getD [])) ∧ w.grownBy w' none
theorem get_at {n : Nat} {x : NdT (n + 1)} {y : NdT n} {key : List Int} (h : (BnT.row (T := NdT n) x).ns[placeT (BnT.row (T := NdT n) x).ss key]? = some y) : getT (n + 1) x key = getT n y key := by rw [getT, h]
theorem getC0 : GetC 0 := fun b x ka kn kc key w hx ox hk bt => lget_any b x ka kn kc key w hx (LokT.of ox) hk bt
set_option maxHeartbeats 8000000 in
set_option maxRecDepth 100000 in
theorem getC_L (hG : GetC 0) : GetC 1 := by
 intro b x ka kn kc key w hx ox hk bt
 obtain ⟨b', a, m, c, sa, sm, sc, e, hb, hns, hss⟩ := hx
 simp only [tyN, Value.iface.injEq, Value.pointer.injEq, Option.some.injEq, Addr.mk.injEq, true_and, and_true] at e
 subst e
 obtain ⟨x1, x2, x3, x4, x5⟩ := ox
 obtain ⟨y, hy⟩ := at_place x3 x1 key
 have ls := hss.len
 have ln := hns.len
 have f1 := seps_few x4
 have k1 := cell_heap (i := 1) hb rfl
 have k2 := cell_heap (i := 2) hb rfl
 have G0 := hid_intro ((Qt.refl w).drew.grown none)
 have PL := hid_intro (fun (W : World) (h : w.grownBy W none) => place_any b sa sm sc ka kn kc (BnT.row (T := NdT 0) x).ss key W (h.cell k2 (by simp)) (hss.kept (FrT.of h)) (by omega) (rise_of x3) (hk.keptN h) bt (fun s hs => (x5 s hs).kb))
 obtain ⟨g, off, u, rfl, c1, hu⟩ := NsT.node (n := 0) hns hy.at_
 obtain ⟨b1, rfl⟩ := hu.atL
 have hlt := hy.lt
 have KG : Hid (∀ (W : World), w.grownBy W none → Calls Tryz.prog 110 #[.pointer (some ⟨b1, 0, none⟩), .slice ka kn kc] W fun en w' => (∃ ao n' c, en = .returned (.tuple #[.slice ao n' c, .bool (getT 0 y key).isSome]) ∧ BtyT w' ao n' c ((getT 0 y key).getD [])) ∧ W.grownBy w' none) := fun W h => hG b1 y ka kn kc key W (NodeT.kept _ hu (FrT.of h)) (x2 y (List.mem_of_getElem? hy.at_)) (hk.keptN h) bt
 have he : getT 1 x key = getT 0 y key := get_at hy.at_
 have HE := hid_intro he
 clear he
 rw [HE.out]
 generalize placeT (BnT.row (T := NdT 0) x).ss key = i at *
 have v1 : (0 : Int) ≤ (i : Int) ∧ (i : Int) < (m : Int) := by omega
 have hme := mL_get
 show Calls Tryz.prog 121 _ _ _
 clear hb hns hss hk hu x2 x3 x5 hy
 go_enter Tryz.func121, Tryz.ntmps121
 go_wp2_with fail
 go_region_held3 (fun w' => w'.cell? ⟨b, 1, none⟩ = some (.slice (some ⟨g, off, none⟩) m c) ∧ w'.cell? ⟨g, off + i, none⟩ = some (.iface 99 (.pointer (some ⟨b1, 0, none⟩)))) (first | exact ⟨k1, c1⟩ | exact S1 | exact S2 | go_keep) (first
  | (go_at_call 128; (with_reducible refine (PL.out _ G0.out).mono ?_); rintro en w4 ⟨rfl, hg4⟩; have GA := grown_trans G0.out hg4; have S1 := And.intro (GA.cell k1 (by simp)) (GA.cell c1 (by simp)))
  | (go_at_call 110; (with_reducible refine (KG.out _ GA).mono ?_); rintro en w5 ⟨⟨ao, n', c', rfl, hv⟩, hg5⟩; have GB := grown_trans GA hg5; have S2 := And.intro (GB.cell k1 (by simp)) (GB.cell c1 (by simp))))
 all_goals go_wp2
 all_goals (go_ret2; exact ⟨⟨_, _, _, rfl, hv⟩, GB⟩)
set_option maxHeartbeats 8000000 in
set_option maxRecDepth 100000 in
theorem getC_B {n : Nat} (hG : GetC (n + 1)) : GetC (n + 1 + 1) := by
 intro b x ka kn kc key w hx ox hk bt
 obtain ⟨b', a, m, c, sa, sm, sc, e, hb, hns, hss⟩ := hx
 simp only [tyN, Value.iface.injEq, Value.pointer.injEq, Option.some.injEq, Addr.mk.injEq, true_and, and_true] at e
 subst e
 obtain ⟨x1, x2, x3, x4, x5⟩ := ox
 obtain ⟨y, hy⟩ := at_place x3 x1 key
 have ls := hss.len
 have ln := hns.len
 have f1 := seps_few x4
 have k1 := cell_heap (i := 1) hb rfl
 have k2 := cell_heap (i := 2) hb rfl
 have G0 := hid_intro ((Qt.refl w).drew.grown none)
 have PL := hid_intro (fun (W : World) (h : w.grownBy W none) => place_any b sa sm sc ka kn kc (BnT.row (T := NdT (n + 1)) x).ss key W (h.cell k2 (by simp)) (hss.kept (FrT.of h)) (by omega) (rise_of x3) (hk.keptN h) bt (fun s hs => (x5 s hs).kb))
 obtain ⟨g, off, u, rfl, c1, hu⟩ := NsT.node (n := (n + 1)) hns hy.at_
 obtain ⟨b1, rfl⟩ := hu.atB
 have hlt := hy.lt
 have KG : Hid (∀ (W : World), w.grownBy W none → Calls Tryz.prog 121 #[.pointer (some ⟨b1, 0, none⟩), .slice ka kn kc] W fun en w' => (∃ ao n' c, en = .returned (.tuple #[.slice ao n' c, .bool (getT (n + 1) y key).isSome]) ∧ BtyT w' ao n' c ((getT (n + 1) y key).getD [])) ∧ W.grownBy w' none) := fun W h => hG b1 y ka kn kc key W (NodeT.kept _ hu (FrT.of h)) (x2 y (List.mem_of_getElem? hy.at_)) (hk.keptN h) bt
 have he : getT (n + 1 + 1) x key = getT (n + 1) y key := get_at hy.at_
 have HE := hid_intro he
 clear he
 rw [HE.out]
 generalize placeT (BnT.row (T := NdT (n + 1)) x).ss key = i at *
 have v1 : (0 : Int) ≤ (i : Int) ∧ (i : Int) < (m : Int) := by omega
 have hme := mB_get
 show Calls Tryz.prog 121 _ _ _
 clear hb hns hss hk hu x2 x3 x5 hy
 go_enter Tryz.func121, Tryz.ntmps121
 go_wp2_with fail
 go_region_held3 (fun w' => w'.cell? ⟨b, 1, none⟩ = some (.slice (some ⟨g, off, none⟩) m c) ∧ w'.cell? ⟨g, off + i, none⟩ = some (.iface 114 (.pointer (some ⟨b1, 0, none⟩)))) (first | exact ⟨k1, c1⟩ | exact S1 | exact S2 | go_keep) (first
  | (go_at_call 128; (with_reducible refine (PL.out _ G0.out).mono ?_); rintro en w4 ⟨rfl, hg4⟩; have GA := grown_trans G0.out hg4; have S1 := And.intro (GA.cell k1 (by simp)) (GA.cell c1 (by simp)))
  | (go_at_call 121; (with_reducible refine (KG.out _ GA).mono ?_); rintro en w5 ⟨⟨ao, n', c', rfl, hv⟩, hg5⟩; have GB := grown_trans GA hg5; have S2 := And.intro (GB.cell k1 (by simp)) (GB.cell c1 (by simp))))
 all_goals go_wp2
 all_goals (go_ret2; exact ⟨⟨_, _, _, rfl, hv⟩, GB⟩)
theorem getC : ∀ n, GetC n
 | 0 => getC0
 | 1 => getC_L getC0
 | n + 1 + 1 => getC_B (getC (n + 1))
def getO (t : Option TrT) (key : List Int) : Option (List Int) := match t with
 | none => none
 | some t => getT t.lv t.root key
theorem get_small : ∀ (n : Nat) (x : NdT n) (key v : List Int), OkT n x → getT n x key = some v → v.length ≤ 262144
 | 0, x, key, v, hx, h => by
  rw [get_look 0 x key hx] at h
  unfold lookT at h
  rw [Option.map_eq_some_iff] at h
  obtain ⟨q, h1, rfl⟩ := h
  have hq : q ∈ LfT.ps x := (List.mem_filter.1 (List.mem_of_mem_head? h1)).1
  exact (hx.2.2.2 q hq).v1
 | n + 1, x, key, v, hx, h => by
  rw [getT] at h
  split at h
  ·cases h
  ·rename_i k hk
   exact get_small n k key v (hx.2.1 k (List.mem_of_getElem? hk)) h
set_option maxHeartbeats 8000000 in
set_option maxRecDepth 100000 in
theorem tget_nil (p : Nat) (ka : Option Addr) (kn kc : Nat) (w : World) (ht : TreeT w p none) :
  Calls Tryz.prog 9 #[.pointer (some ⟨p, 0, none⟩), .slice ka kn kc] w fun en w' => en = .returned (.tuple #[.slice none 0 0, .bool false]) ∧ w = w' := by
 obtain ⟨a, m, c, sa, sm, sc, hp, hm⟩ := ht
 have hm0 : m = 0 := hm
 subst hm0
 have k1 := cell_heap (i := 0) hp rfl
 clear hp hm
 go_enter Tryz.func9, Tryz.ntmps9
 go_wp2_with fail
 go_loopw [16] (fun si wr => si = .int .i64 0 ∧ w = wr) (fun _ _ => 0)
 case atStart => exact ⟨rfl, rfl⟩
 case round =>
  obtain ⟨rfl, rfl⟩ := hrel
  go_wp2
  go_ret2
  exact ⟨rfl, rfl⟩
set_option maxHeartbeats 8000000 in
set_option maxRecDepth 100000 in
theorem tget_L (p : Nat) (x : NdT 0) (ka : Option Addr) (kn kc : Nat) (key : List Int) (w : World) (ht : TreeT w p (some ⟨0, x⟩)) (ox : OkT 0 x) (hk : Byt w ka kn kc key) (bt : Bt key) :
  Calls Tryz.prog 9 #[.pointer (some ⟨p, 0, none⟩), .slice ka kn kc] w fun en w' => (∃ ao nn cc, en = .returned (.tuple #[.slice ao nn cc, .bool (getT 0 x key).isSome]) ∧ BtyT w' ao nn cc ((getT 0 x key).getD [])) ∧ w.grownBy w' none := by
 obtain ⟨a, m, c, sa, sm, sc, hp, htop⟩ := ht
 have hns : NsT 0 w a m c [x] := htop
 have ln := hns.len
 have hm : m = 1 := by simpa using ln.symm
 subst hm
 have k1 := cell_heap (i := 0) hp rfl
 obtain ⟨g, off, u, rfl, c1, hu⟩ := hns.node (i := 0) (x := x) rfl
 rw [Nat.add_zero] at c1
 obtain ⟨b1, rfl⟩ := hu.atL
 have VL := hid_intro (fun (v : List Int) (h : getT 0 x key = some v) => get_small 0 x key v ox h)
 have KG : Hid (∀ (W : World), w.grownBy W none → Calls Tryz.prog 110 #[.pointer (some ⟨b1, 0, none⟩), .slice ka kn kc] W fun en w' => (∃ ao n' c, en = .returned (.tuple #[.slice ao n' c, .bool (getT 0 x key).isSome]) ∧ BtyT w' ao n' c ((getT 0 x key).getD [])) ∧ W.grownBy w' none) := fun W hg => getC 0 b1 x ka kn kc key W (hu.kept _ (FrT.of hg)) ox (hk.keptN hg) bt
 have hme := mL_get
 clear hp hk htop hns hu
 cases hq : getT 0 x key with
 | none =>
  rw [hq] at KG
  clear VL hq
  go_enter Tryz.func9, Tryz.ntmps9
  go_wp2_with fail
  go_loopw [16] (fun si wr => ∃ k : Nat, k ≤ 1 ∧ si = .int .i64 k ∧ w.grownBy wr none) (fun si _ => 1 - (intOf si).toNat)
  case atStart => exact ⟨0, by omega, rfl, World.grownBy.refl _ _⟩
  case round =>
   obtain ⟨k, hk1, rfl, hg⟩ := hrel
   have HG := hid_intro hg
   have d1 := hg.cell c1 (by simp)
   clear hg
   by_cases hk0 : k = 0
   ·subst hk0
    go_wp2_with fail
    refine (KG.out wr HG.out).mono ?_
    rintro en w5 ⟨⟨ao, n', c', rfl, hv⟩, hg5⟩
    clear hv
    go_wp2
    exact ⟨⟨1, by omega, by go_num, grown_trans HG.out hg5⟩, by simp [intOf]⟩
   ·have hk2 : k = 1 := by omega
    subst hk2
    go_wp2
    go_ret2
    exact ⟨⟨none, 0, 0, rfl, BtyT.nil _⟩, HG.out⟩
 | some v =>
  have vl := VL.out v hq
  rw [hq] at KG
  clear VL hq
  go_enter Tryz.func9, Tryz.ntmps9
  go_wp2_with fail
  go_loopw [16] (fun si wr => si = .int .i64 0 ∧ w = wr) (fun _ _ => 0)
  case atStart => exact ⟨rfl, rfl⟩
  case round =>
   obtain ⟨rfl, rfl⟩ := hrel
   go_wp2_with fail
   refine (KG.out w (World.grownBy.refl _ _)).mono ?_
   rintro en w5 ⟨⟨ao, n', c', rfl, hv⟩, hg5⟩
   have hvl := hv.b.len
   have HV := hid_intro hv
   have G5 := hid_intro hg5
   clear hv hg5
   go_wp2_with fail
   refine (clone_bty ao n' c' v w5 HV.out.b (by have : v.length = n' := hvl; omega)).mono ?_
   rintro en w6 ⟨⟨a6, c6, rfl, h6⟩, hg6⟩
   have H6 := hid_intro h6
   have G6 := hid_intro (grown_trans G5.out hg6)
   clear h6 hg6
   go_wp2
   go_ret2
   exact ⟨⟨_, _, _, rfl, H6.out⟩, G6.out⟩
set_option maxHeartbeats 8000000 in
set_option maxRecDepth 100000 in
theorem tget_B {n : Nat} (p : Nat) (x : NdT (n + 1)) (ka : Option Addr) (kn kc : Nat) (key : List Int) (w : World) (ht : TreeT w p (some ⟨(n + 1), x⟩)) (ox : OkT (n + 1) x) (hk : Byt w ka kn kc key) (bt : Bt key) :
  Calls Tryz.prog 9 #[.pointer (some ⟨p, 0, none⟩), .slice ka kn kc] w fun en w' => (∃ ao nn cc, en = .returned (.tuple #[.slice ao nn cc, .bool (getT (n + 1) x key).isSome]) ∧ BtyT w' ao nn cc ((getT (n + 1) x key).getD [])) ∧ w.grownBy w' none := by
 obtain ⟨a, m, c, sa, sm, sc, hp, htop⟩ := ht
 have hns : NsT (n + 1) w a m c [x] := htop
 have ln := hns.len
 have hm : m = 1 := by simpa using ln.symm
 subst hm
 have k1 := cell_heap (i := 0) hp rfl
 obtain ⟨g, off, u, rfl, c1, hu⟩ := hns.node (i := 0) (x := x) rfl
 rw [Nat.add_zero] at c1
 obtain ⟨b1, rfl⟩ := hu.atB
 have VL := hid_intro (fun (v : List Int) (h : getT (n + 1) x key = some v) => get_small (n + 1) x key v ox h)
 have KG : Hid (∀ (W : World), w.grownBy W none → Calls Tryz.prog 121 #[.pointer (some ⟨b1, 0, none⟩), .slice ka kn kc] W fun en w' => (∃ ao n' c, en = .returned (.tuple #[.slice ao n' c, .bool (getT (n + 1) x key).isSome]) ∧ BtyT w' ao n' c ((getT (n + 1) x key).getD [])) ∧ W.grownBy w' none) := fun W hg => getC (n + 1) b1 x ka kn kc key W (hu.kept _ (FrT.of hg)) ox (hk.keptN hg) bt
 have hme := mB_get
 clear hp hk htop hns hu
 cases hq : getT (n + 1) x key with
 | none =>
  rw [hq] at KG
  clear VL hq
  go_enter Tryz.func9, Tryz.ntmps9
  go_wp2_with fail
  go_loopw [16] (fun si wr => ∃ k : Nat, k ≤ 1 ∧ si = .int .i64 k ∧ w.grownBy wr none) (fun si _ => 1 - (intOf si).toNat)
  case atStart => exact ⟨0, by omega, rfl, World.grownBy.refl _ _⟩
  case round =>
   obtain ⟨k, hk1, rfl, hg⟩ := hrel
   have HG := hid_intro hg
   have d1 := hg.cell c1 (by simp)
   clear hg
   by_cases hk0 : k = 0
   ·subst hk0
    go_wp2_with fail
    refine (KG.out wr HG.out).mono ?_
    rintro en w5 ⟨⟨ao, n', c', rfl, hv⟩, hg5⟩
    clear hv
    go_wp2
    exact ⟨⟨1, by omega, by go_num, grown_trans HG.out hg5⟩, by simp [intOf]⟩
   ·have hk2 : k = 1 := by omega
    subst hk2
    go_wp2
    go_ret2
    exact ⟨⟨none, 0, 0, rfl, BtyT.nil _⟩, HG.out⟩
 | some v =>
  have vl := VL.out v hq
  rw [hq] at KG
  clear VL hq
  go_enter Tryz.func9, Tryz.ntmps9
  go_wp2_with fail
  go_loopw [16] (fun si wr => si = .int .i64 0 ∧ w = wr) (fun _ _ => 0)
  case atStart => exact ⟨rfl, rfl⟩
  case round =>
   obtain ⟨rfl, rfl⟩ := hrel
   go_wp2_with fail
   refine (KG.out w (World.grownBy.refl _ _)).mono ?_
   rintro en w5 ⟨⟨ao, n', c', rfl, hv⟩, hg5⟩
   have hvl := hv.b.len
   have HV := hid_intro hv
   have G5 := hid_intro hg5
   clear hv hg5
   go_wp2_with fail
   refine (clone_bty ao n' c' v w5 HV.out.b (by have : v.length = n' := hvl; omega)).mono ?_
   rintro en w6 ⟨⟨a6, c6, rfl, h6⟩, hg6⟩
   have H6 := hid_intro h6
   have G6 := hid_intro (grown_trans G5.out hg6)
   clear h6 hg6
   go_wp2
   go_ret2
   exact ⟨⟨_, _, _, rfl, H6.out⟩, G6.out⟩
theorem tget_any (t : Option TrT) (p : Nat) (ka : Option Addr) (kn kc : Nat) (key : List Int) (w : World) (ht : TreeT w p t) (ox : OkO t) (hk : Byt w ka kn kc key) (bt : Bt key) :
  Calls Tryz.prog 9 #[.pointer (some ⟨p, 0, none⟩), .slice ka kn kc] w fun en w' => (∃ ao nn cc, en = .returned (.tuple #[.slice ao nn cc, .bool (getO t key).isSome]) ∧ BtyT w' ao nn cc ((getO t key).getD [])) ∧ w.grownBy w' none := by
 match t, ht, ox with
 | none, ht, _ =>
  refine (tget_nil p ka kn kc w ht).mono ?_
  rintro en w' ⟨rfl, rfl⟩
  exact ⟨⟨none, 0, 0, rfl, BtyT.nil _⟩, World.grownBy.refl _ _⟩
 | some ⟨0, x⟩, ht, ox => exact tget_L p x ka kn kc key w ht ox hk bt
 | some ⟨n + 1, x⟩, ht, ox => exact tget_B p x ka kn kc key w ht ox hk bt
set_option maxHeartbeats 4000000 in
set_option maxRecDepth 100000 in
theorem less11 (ao bo : Option Addr) (n m c d : Nat) (za zb : List Int) (w : World) (ha : Byt w ao n c za) (hb : Byt w bo m d zb) (hn : n ≤ 100000000) :
  Calls Tryz.prog 16 #[.slice ao n c, .slice bo m d] w fun en w' => en = .returned (.bool (decide (cmpZ za zb < 0))) ∧ w.grownBy w' none := by
 have la := ha.len
 have lb := hb.len
 have HA := hid_intro ha
 have HB := hid_intro hb
 have HLA := hid_intro la
 have HLB := hid_intro lb
 clear ha hb la lb
 go_enter Tryz.func16, Tryz.ntmps16
 go_wp2
 go_loopw [5] (fun si wr => ∃ i : Nat, i ≤ n ∧ i ≤ m ∧ si = .int .i64 (i : Nat) ∧ Qt w wr ∧ cmpZ za zb = cmpZ (za.drop i) (zb.drop i)) (fun si _ => n - (intOf si).toNat)
 case atStart => exact ⟨0, Nat.zero_le _, Nat.zero_le _, rfl, Qt.refl _, by simp⟩
 case round =>
  obtain ⟨i, hi, hj, rfl, hq, hc⟩ := hrel
  have HQ := hid_intro hq
  have HC := hid_intro hc
  clear hc
  by_cases h1 : i < n ∧ i < m
  ·obtain ⟨l1, l2⟩ := h1
   have la := HLA.out
   have lb := HLB.out
   obtain ⟨x, hx⟩ : ∃ x, za[i]? = some x := ⟨_, List.getElem?_eq_getElem (by omega)⟩
   obtain ⟨y, hy⟩ : ∃ y, zb[i]? = some y := ⟨_, List.getElem?_eq_getElem (by omega)⟩
   obtain ⟨a1, e1⟩ : ∃ a1, ao = some a1 := by
    cases ao with
    | none => have := (HA.out.nil rfl).1; omega
    | some a1 => exact ⟨_, rfl⟩
   obtain ⟨b1, e2⟩ : ∃ b1, bo = some b1 := by
    cases bo with
    | none => have := (HB.out.nil rfl).1; omega
    | some b1 => exact ⟨_, rfl⟩
   subst e1 e2
   have c0 : wr.cell? (a1.add i) = some (.int .u8 x) := (hq.cell _).trans (HA.out.cells a1 rfl i _ (by simp [hx]))
   have c1 : wr.cell? (b1.add i) = some (.int .u8 y) := (hq.cell _).trans (HB.out.cells b1 rfl i _ (by simp [hy]))
   have i0 : (0 : Int) ≤ (i : Int) := by omega
   have i1 : (i : Int) < (n : Int) := by omega
   have i2 : (i : Int) < (m : Int) := by omega
   have gx : za.getD i 0 = x := by simp [List.getD, hx]
   have gy : zb.getD i 0 = y := by simp [List.getD, hy]
   have HX := hid_intro gx
   have HY := hid_intro gy
   have HI := hid_intro (And.intro (show i < za.length by omega) (show i < zb.length by omega))
   clear hx hy gx gy la lb hq
   by_cases hxy : x = y
   ·have k1 : (x != y) = false := by rw [hxy]; simp
    have HXY := hid_intro hxy
    clear hxy
    go_wp2
    go_quiet (fail)
    go_wp2_with fail
    go_roundw
    case rel =>
     refine ⟨i + 1, by omega, by omega, by go_num, HQ.out.trans (Qt.drewN _ _), ?_⟩
     rw [HC.out]
     have h5 := HX.out
     have h6 := HY.out
     have h7 := HXY.out
     exact (cmp_on HI.out.1 HI.out.2 (by omega) (by omega)).symm
    case measure => simp [intOf]; omega
   ·have k1 : (x != y) = true := by simpa using hxy
    have HR : Hid (decide (cmpZ za zb < 0) = decide (x < y)) := by
     show _ = _
     have h5 := HX.out
     have h6 := HY.out
     rw [HC.out]
     by_cases hl : x < y
     ·rw [cmp_lt HI.out.1 HI.out.2 (by omega)]; simp [hl]
     ·rw [cmp_gt HI.out.1 HI.out.2 (by omega)]; simp [hl]
    clear hxy
    go_wp2
    go_quiet (fail)
    go_wp2
    generalize hw2 : wr.drewN _ = w2 at *
    have q2 : Qt wr w2 := by rw [← hw2]; exact Qt.drewN _ _
    have c2 := (q2.cell (a1.add i)).trans c0
    have c3 := (q2.cell (b1.add i)).trans c1
    have Q2 := hid_intro q2
    clear hw2 q2 c0 c1
    go_quiet (fail)
    go_wp2
    go_ret
    exact ⟨by rw [HR.out]; first | rfl | simp | (congr 2; simp), ((HQ.out.trans Q2.out).trans (Qt.drewN _ _)).grown none⟩
  ·have HR : Hid (decide (cmpZ za zb < 0) = decide ((n : Int) < (m : Int))) := by
    show _ = _
    have la := HLA.out
    have lb := HLB.out
    have h5 := cmp_end (a := za) (b := zb) (i := i) (by omega) (by omega) (by omega)
    rw [HC.out]
    rw [h5, la, lb]
    by_cases hl : n < m
    ·have h6 : (n : Int) < (m : Int) := by omega
     simp [hl, h6]
    ·have h6 : ¬ (n : Int) < (m : Int) := by omega
     rw [if_neg hl]
     by_cases hl2 : m < n <;> simp [hl2, h6]
   by_cases l1 : i < n
   ·have i1 : (i : Int) < (n : Int) := by omega
    have i2 : ¬ (i : Int) < (m : Int) := by omega
    go_wp2
    go_ret
    exact ⟨by rw [HR.out]; first | rfl | simp, HQ.out.grown none⟩
   ·have i1 : ¬ (i : Int) < (n : Int) := by omega
    go_wp2
    go_ret
    exact ⟨by rw [HR.out]; first | rfl | simp, HQ.out.grown none⟩
end Go.Proofs.YtoecgpckkodmcabGreat
