import Derived.Test.YtoecgpckkodmcabGreatQ51
import Derived.Test.YtoecgpckkodmcabGreatQ31
import Derived.Test.YtoecgpckkodmcabGreatQ40
import Derived.Test.YtoecgpckkodmcabGreatQ49
import Derived.Test.YtoecgpckkodmcabGreatQ42
namespace Go.Proofs.YtoecgpckkodmcabGreat
open Go.RowKit
set_option maxHeartbeats 8000000 in
set_option maxRecDepth 100000 in
theorem upto_any (t : Option TrT) (p : Nat) (ka : Option Addr) (kn kc : Nat) (key : List Int) (w : World) (ht : TreeT w p t) (hw : WkT t) (hk : Byt w ka kn kc key) (bk : Bt key) (h1 : kn ≤ 10000) :
  Calls Tryz.prog 8 #[.pointer (some ⟨p, 0, none⟩), .slice ka kn kc] w fun en w' => w.grownBy w' none ∧ (((withinT (flatO t) [] (key ++ [0])).reverse = [] ∧ en = .returned (.tuple #[.agg #[.slice none 0 0, .slice none 0 0], .bool false])) ∨ ∃ (x : PgT) (n0 m : Nat), [x.2.2] <+: (withinT (flatO t) [] (key ++ [0])).reverse ∧ en = .returned (.tuple #[.agg #[x.1, x.2.1], .bool true]) ∧ PxP n0 m x w' ∧ w.heap.size ≤ n0) := by
 obtain ⟨W1, hW1⟩ : ∃ W1, ((w.alloc (.cells #[.slice none 0 0, .slice none 0 0] 30)).alloc (.cells #[.int .u8 0] 5)).alloc (.cells #[.slice ka kn kc, .slice (some ⟨w.heap.size + 1, 0, none⟩) 1 1] 23) = W1 := ⟨_, rfl⟩
 have ga := World.grownBy_alloc w (.cells #[.slice none 0 0, .slice none 0 0] 30) none
 have gb := World.grownBy_alloc (w.alloc (.cells #[.slice none 0 0, .slice none 0 0] 30)) (.cells #[.int .u8 0] 5) none
 have gc := World.grownBy_alloc ((w.alloc (.cells #[.slice none 0 0, .slice none 0 0] 30)).alloc (.cells #[.int .u8 0] 5)) (.cells #[.slice ka kn kc, .slice (some ⟨w.heap.size + 1, 0, none⟩) 1 1] 23) none
 have g0 : w.grownBy W1 none := by rw [← hW1]; exact grown_trans ga (grown_trans gb gc)
 have x0 : W1.heap[w.heap.size]? = some (.cells #[.slice none 0 0, .slice none 0 0] 30 (0, 0)) := by rw [← hW1]; exact heap_kept (heap_kept (heap_at0 w _ _) gb) gc
 have rC : W1.heap[w.heap.size + 2]? = some (.cells #[.slice ka kn kc, .slice (some ⟨w.heap.size + 1, 0, none⟩) 1 1] 23 (0, 0)) := by
  rw [← hW1]
  exact heap_at2 w _ _ _ _
 have bz : Byt W1 (some ⟨w.heap.size + 1, 0, none⟩) 1 1 [0] := by
  rw [← hW1]
  exact (litW (w.alloc (.cells #[.slice none 0 0, .slice none 0 0] 30)) 5 #[.int .u8 0] (0, 0) [0] 1 (w.heap.size + 1) rfl rfl (by simp)).keptN gc
 have CC := hid_intro (concat01 (w.heap.size + 2) (w.heap.size + 1) ka kn kc key W1 (cell_heap rC rfl) (cell_heap rC rfl) (hk.keptN g0) bz h1)
 have X0' := hid_intro x0
 have HT' := hid_intro (ht.kept (FrT.of g0))
 have HW := hid_intro hw
 have G0' := hid_intro g0
 have bk2 : Bt (key ++ [0]) := fun z hz => by
  rcases List.mem_append.1 hz with h | h
  ·exact bk z h
  ·simp at h; subst h; decide
 have HBK := hid_intro bk2
 clear ht hw hk g0 ga gb gc x0 rC bz bk2
 go_enter Tryz.func8, Tryz.ntmps8
 go_wp2_with fail
 refine CC.out.mono ?_
 rintro en W2 ⟨na, nc, rfl, hb2, hg2⟩
 have RC := hid_intro (back_any p none 0 0 [] na (kn + 1) nc (key ++ [0]) W2 (Byt.empty _) hb2 (by omega) (by omega))
 have HT := hid_intro (HT'.out.kept (FrT.of hg2))
 have X0 := hid_intro (heap_kept X0'.out hg2)
 have G0 := hid_intro (grown_trans G0'.out hg2)
 clear hb2 hg2 CC HT' X0' G0' hW1
 go_wp2_with fail
 refine RC.out.mono ?_
 rintro en w1 ⟨A1, A2, A3, rfl, hr⟩
 obtain ⟨a2, c2, y2, b2⟩ := hr.k2
 obtain ⟨a3, c3, y3, b3⟩ := hr.k3
 have SQ := hid_intro (first_seq w1 (enters_of Tryz.func39 (by kernel_rfl) rfl) (back1_seq 4 (by decide) t p A1 A2 A3 a2 0 c2 [] a3 (kn + 1) c3 (key ++ [0]) w1 hr.k1 y2 y3 (HT.out.kept (FrT.of hr.gr)) HW.out b2 (fun z hz => by cases hz) b3 HBK.out) (Below.refl _ _))
 have X1 := hid_intro (heap_kept X0.out hr.gr)
 have G1 := hid_intro (grown_trans G0.out hr.gr)
 clear hr y2 y3 b2 b3 RC
 go_wp2_with fail
 refine SQ.out.mono ?_
 rintro en w2 ⟨hce, hcs⟩
 have x2 := heap_kept X1.out hce
 have HCE := hid_intro (grown_trans G1.out hce)
 have X2 := hid_intro x2
 have d0 := cell_heap (i := 0) x2 rfl
 have d1 := cell_heap (i := 1) x2 rfl
 have z0 := frozen_of_row w2 w.heap.size 0 _ _ x2
 have z1 := frozen_of_row w2 w.heap.size 1 _ _ x2
 have fin : Hid (∀ u v : Value, w.grownBy ((w2.setCell ⟨w.heap.size, 0, none⟩ u).setCell ⟨w.heap.size, 1, none⟩ v) none) := fun u v => gr_set (gr_set HCE.out 0 u (Nat.le_refl _)) 1 v (Nat.le_refl _)
 have hz1 := G1.out.size
 clear hce x2 SQ
 rcases hcs with ⟨hS, rfl⟩ | ⟨⟨kv, vv, pr⟩, n0, m, hSp, rfl, hpx, hn0⟩
 ·have HS := hid_intro hS
  clear hS
  go_wp2_with fail
  obtain ⟨y1, y2⟩ := pair_put X2.out (.slice none 0 0) (.slice none 0 0)
  refine bodyPost_ret (results_pair_tmp rfl _ _ w.heap.size _ _ rfl y1) rfl ?_
  exact ⟨fin.out _ _, .inl ⟨by have := HS.out; simpa using this.symm, rfl⟩⟩
 ·have HSP := hid_intro hSp
  have hpx0 := hid_intro hpx
  obtain ⟨lo, hi, b1, b2, kv', vv', mm, e1, _, _, h6, h7⟩ := hpx
  obtain ⟨ka', kc', e2⟩ := own_shape10 h6.1
  obtain ⟨va', vc', e3⟩ := own_shape10 h7.1
  injection e1 with e4 e5
  injection e5 with e5 _
  have ek : kv = .slice ka' pr.key.length kc' := e4.trans e2
  have ev : vv = .slice va' pr.val.length vc' := e5.trans e3
  subst ek ev
  clear h6 h7 e2 e3 e4 e5 hSp
  go_wp2_with fail
  obtain ⟨y1, y2⟩ := pair_put X2.out (.slice ka' pr.key.length kc') (.slice va' pr.val.length vc')
  refine bodyPost_ret (results_pair_tmp rfl _ _ w.heap.size _ _ rfl y1) rfl ?_
  obtain ⟨lo, hi, b1, b2, hpt⟩ := hpx0.out
  exact ⟨fin.out _ _, .inr ⟨(_, _, pr), n0, m, by simpa using HSP.out, rfl, ⟨lo, hi, b1, b2, pv_put hpt X2.out y2⟩, by omega⟩⟩
def pz : PrT := ⟨[], [], []⟩
theorem bp_none (w : World) : BpW w [.slice none 0 0, .slice none 0 0] pz := ⟨none, 0, none, 0, rfl, Byt.empty w, Byt.empty w⟩
def VpW (w : World) (kv vv : Value) (q : PrT) : Prop := (∃ lo hi, PvT w lo hi [kv, vv] q) ∨ (kv = .slice none 0 0 ∧ vv = .slice none 0 0 ∧ q = pz)
theorem VpW.bp {w : World} {kv vv : Value} {q : PrT} (h : VpW w kv vv q) : BpW w [kv, vv] q := by
 rcases h with ⟨lo, hi, h⟩ | ⟨rfl, rfl, rfl⟩
 ·exact pv_bp h
 ·exact bp_none w
theorem VpW.put {w w' : World} {kv vv : Value} {q : PrT} {g : Nat} {cs : Array Value} (h : VpW w kv vv q) (e : w.heap[g]? = some (.cells cs 30 (0, 0))) (hg : w.grownBy w' (some g)) : VpW w' kv vv q := by
 rcases h with ⟨lo, hi, h⟩ | h
 ·exact .inl ⟨lo, hi, pv_put h e hg⟩
 ·exact .inr h
theorem VpW.kept {w w' : World} {kv vv : Value} {q : PrT} (h : VpW w kv vv q) (hg : w.grownBy w' none) : VpW w' kv vv q := by
 rcases h with ⟨lo, hi, h⟩ | h
 ·obtain ⟨lo', hi', _, _, h'⟩ := px_cef (n0 := lo) (m := hi) (x := (kv, vv, q)) ⟨lo, hi, Nat.le_refl _, Nat.le_refl _, h⟩ (CeF.of hg)
  exact .inl ⟨lo', hi', h'⟩
 ·exact .inr h
def AnP (w : World) (q : PrT) (x : Value) (en : Ending) (w' : World) : Prop := ∃ kv vv, en = .returned (.tuple #[.agg #[kv, vv], x]) ∧ VpW w' kv vv q ∧ w.grownBy w' none
theorem find_ltR {key : List Int} : ∀ {L : List PrT} {i : Nat} {p : PrT}, Srt L → L[i]? = some p → (cmpZ p.key key < 0 ↔ i < findT L key)
 | [], _, _, _, h => by simp at h
 | x :: L, 0, p, _, h => by
  simp at h
  subst h
  rw [find_consW]
  split <;> simp_all
 | x :: L, i + 1, p, hs, h => by
  have hp : p ∈ L := List.mem_of_getElem? (by simpa using h)
  rw [find_consW]
  split
  ·rw [find_ltR (List.pairwise_cons.1 hs).2 (i := i) (p := p) (by simpa using h)]
   omega
  ·rename_i h1
   have := above_all hs h1 p hp
   omega
theorem within_from (L : List PrT) (key : List Int) : withinT L key [] = L.drop (findT L key) := by
 unfold withinT upT
 simp
theorem within_upto (L : List PrT) (key : List Int) : withinT L [] (key ++ [0]) = L.take (findT L (key ++ [0])) := by
 unfold withinT upT
 rw [if_neg (by simp), find_nil, List.drop_zero]
theorem head_from (L : List PrT) (key : List Int) : (withinT L key []).head? = L[findT L key]? := by
 rw [within_from, List.head?_drop]
theorem head_upto (L : List PrT) (key : List Int) (f : Nat) (h : findT L (key ++ [0]) = f + 1) : (withinT L [] (key ++ [0])).reverse.head? = L[f]? := by
 have h1 := findT_le L (key ++ [0])
 rw [within_upto, h, List.head?_reverse, List.getLast?_eq_getElem?, List.length_take, List.getElem?_take]
 rw [if_pos (by omega)]
 congr 1
 omega
theorem head_upto0 (L : List PrT) (key : List Int) (h : findT L (key ++ [0]) = 0) : (withinT L [] (key ++ [0])).reverse.head? = none := by
 rw [within_upto, h]
 rfl
theorem from_an (t : Option TrT) (p : Nat) (ka : Option Addr) (kn kc : Nat) (key : List Int) (w : World) (ht : TreeT w p t) (hw : WkT t) (hk : Byt w ka kn kc key) (bk : Bt key) (h1 : kn ≤ 140737488355328) :
  Calls Tryz.prog 7 #[.pointer (some ⟨p, 0, none⟩), .slice ka kn kc] w fun en w' => AnP w ((withinT (flatO t) key []).head?.getD pz) (.bool (withinT (flatO t) key []).head?.isSome) en w' := by
 refine (from_any t p ka kn kc key w ht hw hk bk h1).mono ?_
 rintro en w' ⟨hg, ⟨h2, rfl⟩ | ⟨x, n0, m, hx, rfl, ⟨lo, hi, _, _, hp⟩, _⟩⟩
 ·rw [h2]
  exact ⟨_, _, rfl, .inr ⟨rfl, rfl, rfl⟩, hg⟩
 ·obtain ⟨l, hl⟩ := hx
  rw [← hl]
  exact ⟨_, _, rfl, .inl ⟨_, _, hp⟩, hg⟩
theorem upto_an (t : Option TrT) (p : Nat) (ka : Option Addr) (kn kc : Nat) (key : List Int) (w : World) (ht : TreeT w p t) (hw : WkT t) (hk : Byt w ka kn kc key) (bk : Bt key) (h1 : kn ≤ 10000) :
  Calls Tryz.prog 8 #[.pointer (some ⟨p, 0, none⟩), .slice ka kn kc] w fun en w' => AnP w ((withinT (flatO t) [] (key ++ [0])).reverse.head?.getD pz) (.bool (withinT (flatO t) [] (key ++ [0])).reverse.head?.isSome) en w' := by
 refine (upto_any t p ka kn kc key w ht hw hk bk h1).mono ?_
 rintro en w' ⟨hg, ⟨h2, rfl⟩ | ⟨x, n0, m, hx, rfl, ⟨lo, hi, _, _, hp⟩, _⟩⟩
 ·rw [h2]
  exact ⟨_, _, rfl, .inr ⟨rfl, rfl, rfl⟩, hg⟩
 ·obtain ⟨l, hl⟩ := hx
  rw [← hl]
  exact ⟨_, _, rfl, .inl ⟨_, _, hp⟩, hg⟩
def nthO (L : List PrT) (i : Int) : Option PrT := if i < 0 then none else L[i.toNat]?
theorem nth_an (t : Option TrT) (p : Nat) (i : Int) (w : World) (ht : TreeT w p t) (hw : WkT t) :
  Calls Tryz.prog 13 #[.pointer (some ⟨p, 0, none⟩), .int .i64 i] w fun en w' => AnP w ((nthO (flatO t) i).getD pz) (.int .i64 (if (nthO (flatO t) i).isSome then 0 else 110)) en w' := by
 by_cases h : i < 0 ∨ ((flatO t).length : Int) ≤ i
 ·have e : nthO (flatO t) i = none := by
   unfold nthO
   split
   ·rfl
   ·exact List.getElem?_eq_none (by omega)
  rw [e]
  refine (nth_no t p i w ht hw h).mono ?_
  rintro en w' ⟨rfl, hg⟩
  exact ⟨_, _, rfl, .inr ⟨rfl, rfl, rfl⟩, hg⟩
 ·obtain ⟨k, rfl⟩ : ∃ k : Nat, i = (k : Int) := ⟨i.toNat, by omega⟩
  obtain ⟨pr, hk⟩ : ∃ pr, (flatO t)[k]? = some pr := ⟨_, List.getElem?_eq_getElem (by omega)⟩
  have e : nthO (flatO t) (k : Int) = some pr := by
   unfold nthO
   rw [if_neg (by omega)]
   exact hk
  rw [e]
  refine (nth_ok t p k pr w ht hw hk).mono ?_
  rintro en w' ⟨kv, vv, lo, hi, rfl, hp, _, _, hg⟩
  exact ⟨_, _, rfl, .inl ⟨_, _, hp⟩, hg⟩
theorem srt_at {L : List PrT} (hs : Srt L) {i : Nat} {p q : PrT} (hp : L[i]? = some p) (hq : L[i + 1]? = some q) : cmpZ p.key q.key < 0 := by
 obtain ⟨h1, rfl⟩ := List.getElem?_eq_some_iff.1 hp
 obtain ⟨h2, rfl⟩ := List.getElem?_eq_some_iff.1 hq
 exact List.pairwise_iff_getElem.1 hs i (i + 1) h1 h2 (by omega)
theorem next_at {L : List PrT} (hs : Srt L) (hb : ∀ p ∈ L, Bt p.key) {key : List Int} {i : Nat} {p : PrT} (hp : L[i]? = some p) : i < findT L (key ++ [0]) ↔ cmpZ p.key key ≤ 0 := by
 rw [← find_ltR hs hp, cmp_next _ _ (hb p (List.mem_of_getElem? hp))]
theorem next_has {L : List PrT} (hs : Srt L) (hb : ∀ p ∈ L, Bt p.key) {key : List Int} {p : PrT} (hp : L[findT L key]? = some p) (hk : cmpZ p.key key = 0) : findT L (key ++ [0]) = findT L key + 1 := by
 have h1 := (next_at hs hb (key := key) hp).2 (by omega)
 rcases Nat.lt_or_ge (findT L key + 1) (findT L (key ++ [0])) with h | h
 ·have hle := findT_le L (key ++ [0])
  obtain ⟨q, hq⟩ : ∃ q, L[findT L key + 1]? = some q := ⟨_, List.getElem?_eq_getElem (by omega)⟩
  have h2 := (next_at hs hb (key := key) hq).1 h
  have h3 := srt_at hs hp hq
  rw [cmp_zero hk] at h3
  have h4 := cmp_anti key q.key
  omega
 ·omega
theorem next_no {L : List PrT} (hs : Srt L) (hb : ∀ p ∈ L, Bt p.key) {key : List Int} (hk : hasT L key = false) : findT L (key ++ [0]) = findT L key := by
 have hle := findT_le L (key ++ [0])
 have hle2 := findT_le L key
 rcases Nat.lt_trichotomy (findT L (key ++ [0])) (findT L key) with h | h | h
 ·obtain ⟨q, hq⟩ : ∃ q, L[findT L (key ++ [0])]? = some q := ⟨_, List.getElem?_eq_getElem (by omega)⟩
  have h1 := (find_ltR hs hq).2 h
  have h2 := (next_at hs hb (key := key) hq).2 (by omega)
  omega
 ·exact h
 ·obtain ⟨q, hq⟩ : ∃ q, L[findT L key]? = some q := ⟨_, List.getElem?_eq_getElem (by omega)⟩
  have h1 := (next_at hs hb (key := key) hq).1 h
  have h2 : ¬ cmpZ q.key key < 0 := fun e => by have := (find_ltR hs hq).1 e; omega
  have h3 : hasT L key = true := by
   unfold hasT
   rw [hq]
   simp
   omega
  rw [hk] at h3
  cases h3
theorem beside_has {L : List PrT} (hs : Srt L) (hb : ∀ p ∈ L, Bt p.key) {key : List Int} (h : (lookT L key).isSome = true) :
  ∃ p : PrT, p.key = key ∧ lookT L key = some p.val ∧ (withinT L key []).head? = some p ∧ (withinT L [] (key ++ [0])).reverse.head? = some p := by
 rw [← has_mid hs] at h
 cases hh : hasT L key with
 | false => rw [hh] at h; simp at h
 | true =>
  have h0 := hh
  unfold hasT at hh
  cases hp : L[findT L key]? with
  | none => rw [hp] at hh; simp at hh
  | some p =>
   rw [hp] at hh
   have hk : cmpZ p.key key = 0 := by simpa using hh
   refine ⟨p, cmp_zero hk, ?_, ?_, ?_⟩
   ·rw [← has_mid hs, if_pos h0]
    simp [List.getD, hp]
   ·rw [head_from, hp]
   ·rw [head_upto L key _ (next_has hs hb hp hk), hp]
theorem beside_no {L : List PrT} (hs : Srt L) (hb : ∀ p ∈ L, Bt p.key) {key : List Int} (h : (lookT L key).isSome = false) :
  (withinT L key []).head? = nthO L (findT L key : Nat) ∧ (withinT L [] (key ++ [0])).reverse.head? = nthO L ((findT L key : Nat) - 1 : Int) ∧ decide (((findT L key : Nat) : Int) < ((L.length : Nat) : Int)) = (nthO L (findT L key : Nat)).isSome ∧ decide ((0 : Int) < ((findT L key : Nat) : Int)) = (nthO L ((findT L key : Nat) - 1 : Int)).isSome ∧ ((nthO L (findT L key : Nat)).isSome = true → cmpZ key ((nthO L (findT L key : Nat)).getD pz).key < 0) ∧ ((nthO L ((findT L key : Nat) - 1 : Int)).isSome = true → cmpZ ((nthO L ((findT L key : Nat) - 1 : Int)).getD pz).key key < 0) := by
 have hh : hasT L key = false := by
  rw [← has_mid hs] at h
  cases hh : hasT L key with
  | false => rfl
  | true => rw [hh] at h; simp at h
 have hn := next_no hs hb hh
 have hle := findT_le L key
 have e1 : nthO L (findT L key : Nat) = L[findT L key]? := by
  unfold nthO
  rw [if_neg (by omega)]
  rfl
 rw [e1]
 have h1 : decide (((findT L key : Nat) : Int) < ((L.length : Nat) : Int)) = (L[findT L key]?).isSome := by
  cases hp : L[findT L key]? with
  | none => have := List.getElem?_eq_none_iff.1 hp; simp; omega
  | some p => have := (List.getElem?_eq_some_iff.1 hp).1; simp; omega
 have h2 : (L[findT L key]?).isSome = true → cmpZ key ((L[findT L key]?).getD pz).key < 0 := fun hx => by
  cases hp : L[findT L key]? with
  | none => rw [hp] at hx; simp at hx
  | some p =>
   have k1 : ¬ cmpZ p.key key < 0 := fun e => by have := (find_ltR hs hp).1 e; omega
   have k2 : cmpZ p.key key ≠ 0 := fun e => by unfold hasT at hh; rw [hp] at hh; simp [e] at hh
   have k3 := cmp_anti key p.key
   show cmpZ key p.key < 0
   omega
 refine ⟨head_from L key, ?_, h1, ?_, h2, ?_⟩
 ·cases hF : findT L key with
  | zero =>
   rw [head_upto0 L key (by omega)]
   rfl
  | succ f =>
   rw [head_upto L key f (by omega)]
   unfold nthO
   rw [if_neg (by omega)]
   congr 1
   omega
 ·cases hF : findT L key with
  | zero => rfl
  | succ f =>
   have : nthO L (((f + 1 : Nat) : Int) - 1) = L[f]? := by
    unfold nthO
    rw [if_neg (by omega)]
    congr 1
    omega
   rw [this, List.getElem?_eq_getElem (by omega)]
   simp
 ·cases hF : findT L key with
  | zero => intro hx; simp [nthO] at hx
  | succ f =>
   have : nthO L (((f + 1 : Nat) : Int) - 1) = L[f]? := by
    unfold nthO
    rw [if_neg (by omega)]
    congr 1
    omega
   rw [this]
   obtain ⟨q, hq⟩ : ∃ q, L[f]? = some q := ⟨_, List.getElem?_eq_getElem (by omega)⟩
   rw [hq]
   intro _
   exact (find_ltR hs hq).2 (by omega)
theorem bp_shapeB {w : World} {kv vv : Value} {q : PrT} (h : BpW w [kv, vv] q) : ∃ ka kc va vc, kv = .slice ka q.key.length kc ∧ vv = .slice va q.val.length vc ∧ Byt w ka q.key.length kc q.key ∧ Byt w va q.val.length vc q.val := by
 obtain ⟨ka, kc, va, vc, e, h1, h2⟩ := h
 injection e with e1 e2
 injection e2 with e2 _
 exact ⟨ka, kc, va, vc, e1, e2, h1, h2⟩
theorem samePairC (kv vv kq vq : Value) (q : PrT) (w : World) (h1 : BpW w [kv, vv] q) (h2 : BpW w [kq, vq] q) :
  Calls Tryz.prog 15 #[.agg #[kv, vv], .agg #[kq, vq]] w fun en w' => en = .returned (.bool true) ∧ w.grownBy w' none := by
 obtain ⟨a1, c1, b1, d1, rfl, rfl, x1, x2⟩ := bp_shapeB h1
 obtain ⟨a2, c2, b2, d2, rfl, rfl, y1, y2⟩ := bp_shapeB h2
 exact samePair11 a1 b1 a2 b2 _ _ c1 d1 c2 d2 q.key q.val w x1 x2 y1 y2
end Go.Proofs.YtoecgpckkodmcabGreat
