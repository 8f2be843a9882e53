import Derived.Test.YtoecgpckkodmcaaGreatQ31
import Derived.Test.YtoecgpckkodmcaaGreatQ40
import Derived.Test.YtoecgpckkodmcaaGreatQ45
import Derived.Test.YtoecgpckkodmcaaGreatQ42
namespace Go.Proofs.YtoecgpckkodmcaaGreat
open Go.RowKit
set_option maxHeartbeats 8000000 in
set_option maxRecDepth 100000 in
theorem upto_any (t : Option TrT) (p : Nat) (ka : Option Addr) (kn kc : Nat) (key : List Int) (w : World) (ht : TreeT w p t) (hw : WkT t) (hk : Byt w ka kn kc key) (bk : Bt key) (h1 : kn ≤ 10000) :
  Calls Tryz.prog 30 #[.pointer (some ⟨p, 0, none⟩), .slice ka kn kc] w fun en w' => w.grownBy w' none ∧ (((withinT (flatO t) [] (key ++ [0])).reverse = [] ∧ en = .returned (.tuple #[.agg #[.slice none 0 0, .slice none 0 0], .bool false])) ∨ ∃ (x : PgT) (n0 m : Nat), [x.2.2] <+: (withinT (flatO t) [] (key ++ [0])).reverse ∧ en = .returned (.tuple #[.agg #[x.1, x.2.1], .bool true]) ∧ PxP n0 m x w' ∧ w.heap.size ≤ n0) := by
 obtain ⟨W1, hW1⟩ : ∃ W1, ((w.alloc (.cells #[.slice none 0 0, .slice none 0 0] 38)).alloc (.cells #[.int .u8 0] 5)).alloc (.cells #[.slice ka kn kc, .slice (some ⟨w.heap.size + 1, 0, none⟩) 1 1] 23) = W1 := ⟨_, rfl⟩
 have ga := World.grownBy_alloc w (.cells #[.slice none 0 0, .slice none 0 0] 38) none
 have gb := World.grownBy_alloc (w.alloc (.cells #[.slice none 0 0, .slice none 0 0] 38)) (.cells #[.int .u8 0] 5) none
 have gc := World.grownBy_alloc ((w.alloc (.cells #[.slice none 0 0, .slice none 0 0] 38)).alloc (.cells #[.int .u8 0] 5)) (.cells #[.slice ka kn kc, .slice (some ⟨w.heap.size + 1, 0, none⟩) 1 1] 23) none
 have g0 : w.grownBy W1 none := by rw [← hW1]; exact grown_trans ga (grown_trans gb gc)
 have x0 : W1.heap[w.heap.size]? = some (.cells #[.slice none 0 0, .slice none 0 0] 38 (0, 0)) := by rw [← hW1]; exact heap_kept (heap_kept (heap_at0 w _ _) gb) gc
 have rC : W1.heap[w.heap.size + 2]? = some (.cells #[.slice ka kn kc, .slice (some ⟨w.heap.size + 1, 0, none⟩) 1 1] 23 (0, 0)) := by
  rw [← hW1]
  exact heap_at2 w _ _ _ _
 have bz : Byt W1 (some ⟨w.heap.size + 1, 0, none⟩) 1 1 [0] := by
  rw [← hW1]
  exact (litW (w.alloc (.cells #[.slice none 0 0, .slice none 0 0] 38)) 5 #[.int .u8 0] (0, 0) [0] 1 (w.heap.size + 1) rfl rfl (by simp)).keptN gc
 have CC := hid_intro (concat01 (w.heap.size + 2) (w.heap.size + 1) ka kn kc key W1 (cell_heap rC rfl) (cell_heap rC rfl) (hk.keptN g0) bz h1)
 have X0' := hid_intro x0
 have HT' := hid_intro (ht.kept (FrT.of g0))
 have HW := hid_intro hw
 have G0' := hid_intro g0
 have bk2 : Bt (key ++ [0]) := fun z hz => by
  rcases List.mem_append.1 hz with h | h
  ·exact bk z h
  ·simp at h; subst h; decide
 have HBK := hid_intro bk2
 clear ht hw hk g0 ga gb gc x0 rC bz bk2
 go_enter Tryz.func30, Tryz.ntmps30
 go_wp2_with fail
 refine CC.out.mono ?_
 rintro en W2 ⟨na, nc, rfl, hb2, hg2⟩
 have RC := hid_intro (back_any p none 0 0 [] na (kn + 1) nc (key ++ [0]) W2 (Byt.empty _) hb2 (by omega) (by omega))
 have HT := hid_intro (HT'.out.kept (FrT.of hg2))
 have X0 := hid_intro (heap_kept X0'.out hg2)
 have G0 := hid_intro (grown_trans G0'.out hg2)
 clear hb2 hg2 CC HT' X0' G0' hW1
 go_wp2_with fail
 refine RC.out.mono ?_
 rintro en w1 ⟨A1, A2, A3, rfl, hr⟩
 obtain ⟨a2, c2, y2, b2⟩ := hr.k2
 obtain ⟨a3, c3, y3, b3⟩ := hr.k3
 have SQ := hid_intro (first_seq w1 (enters_of Tryz.func48 (by kernel_rfl) rfl) (back1_seq 4 (by decide) t p A1 A2 A3 a2 0 c2 [] a3 (kn + 1) c3 (key ++ [0]) w1 hr.k1 y2 y3 (HT.out.kept (FrT.of hr.gr)) HW.out b2 (fun z hz => by cases hz) b3 HBK.out) (Below.refl _ _))
 have X1 := hid_intro (heap_kept X0.out hr.gr)
 have G1 := hid_intro (grown_trans G0.out hr.gr)
 clear hr y2 y3 b2 b3 RC
 go_wp2_with fail
 refine SQ.out.mono ?_
 rintro en w2 ⟨hce, hcs⟩
 have x2 := heap_kept X1.out hce
 have HCE := hid_intro (grown_trans G1.out hce)
 have X2 := hid_intro x2
 have d0 := cell_heap (i := 0) x2 rfl
 have d1 := cell_heap (i := 1) x2 rfl
 have z0 := frozen_of_row w2 w.heap.size 0 _ _ x2
 have z1 := frozen_of_row w2 w.heap.size 1 _ _ x2
 have fin : Hid (∀ u v : Value, w.grownBy ((w2.setCell ⟨w.heap.size, 0, none⟩ u).setCell ⟨w.heap.size, 1, none⟩ v) none) := fun u v => gr_set (gr_set HCE.out 0 u (Nat.le_refl _)) 1 v (Nat.le_refl _)
 have hz1 := G1.out.size
 clear hce x2 SQ
 rcases hcs with ⟨hS, rfl⟩ | ⟨⟨kv, vv, pr⟩, n0, m, hSp, rfl, hpx, hn0⟩
 ·have HS := hid_intro hS
  clear hS
  go_wp2_with fail
  obtain ⟨y1, y2⟩ := pair_put X2.out (.slice none 0 0) (.slice none 0 0)
  refine bodyPost_ret (results_pair_tmp rfl _ _ w.heap.size _ _ rfl y1) rfl ?_
  exact ⟨fin.out _ _, .inl ⟨by have := HS.out; simpa using this.symm, rfl⟩⟩
 ·have HSP := hid_intro hSp
  have hpx0 := hid_intro hpx
  obtain ⟨lo, hi, b1, b2, kv', vv', mm, e1, _, _, h6, h7⟩ := hpx
  obtain ⟨ka', kc', e2⟩ := own_shape10 h6.1
  obtain ⟨va', vc', e3⟩ := own_shape10 h7.1
  injection e1 with e4 e5
  injection e5 with e5 _
  have ek : kv = .slice ka' pr.key.length kc' := e4.trans e2
  have ev : vv = .slice va' pr.val.length vc' := e5.trans e3
  subst ek ev
  clear h6 h7 e2 e3 e4 e5 hSp
  go_wp2_with fail
  obtain ⟨y1, y2⟩ := pair_put X2.out (.slice ka' pr.key.length kc') (.slice va' pr.val.length vc')
  refine bodyPost_ret (results_pair_tmp rfl _ _ w.heap.size _ _ rfl y1) rfl ?_
  obtain ⟨lo, hi, b1, b2, hpt⟩ := hpx0.out
  exact ⟨fin.out _ _, .inr ⟨(_, _, pr), n0, m, by simpa using HSP.out, rfl, ⟨lo, hi, b1, b2, pv_put hpt X2.out y2⟩, by omega⟩⟩
def pz : PrT := ⟨[], [], []⟩
theorem bp_none (w : World) : BpW w [.slice none 0 0, .slice none 0 0] pz := ⟨none, 0, none, 0, rfl, Byt.empty w, Byt.empty w⟩
def VpW (w : World) (kv vv : Value) (q : PrT) : Prop := (∃ lo hi, PvT w lo hi [kv, vv] q) ∨ (kv = .slice none 0 0 ∧ vv = .slice none 0 0 ∧ q = pz)
theorem VpW.bp {w : World} {kv vv : Value} {q : PrT} (h : VpW w kv vv q) : BpW w [kv, vv] q := by
 rcases h with ⟨lo, hi, h⟩ | ⟨rfl, rfl, rfl⟩
 ·exact pv_bp h
 ·exact bp_none w
theorem VpW.put {w w' : World} {kv vv : Value} {q : PrT} {g : Nat} {cs : Array Value} (h : VpW w kv vv q) (e : w.heap[g]? = some (.cells cs 38 (0, 0))) (hg : w.grownBy w' (some g)) : VpW w' kv vv q := by
 rcases h with ⟨lo, hi, h⟩ | h
 ·exact .inl ⟨lo, hi, pv_put h e hg⟩
 ·exact .inr h
theorem VpW.kept {w w' : World} {kv vv : Value} {q : PrT} (h : VpW w kv vv q) (hg : w.grownBy w' none) : VpW w' kv vv q := by
 rcases h with ⟨lo, hi, h⟩ | h
 ·obtain ⟨lo', hi', _, _, h'⟩ := px_cef (n0 := lo) (m := hi) (x := (kv, vv, q)) ⟨lo, hi, Nat.le_refl _, Nat.le_refl _, h⟩ (CeF.of hg)
  exact .inl ⟨lo', hi', h'⟩
 ·exact .inr h
def AnP (w : World) (q : PrT) (x : Value) (en : Ending) (w' : World) : Prop := ∃ kv vv, en = .returned (.tuple #[.agg #[kv, vv], x]) ∧ VpW w' kv vv q ∧ w.grownBy w' none
def AnQ (w0 w : World) (q : PrT) (x : Value) (en : Ending) (w' : World) : Prop := ∃ kv vv, en = .returned (.tuple #[.agg #[kv, vv], x]) ∧ BpW w0 [kv, vv] q ∧ w.grownBy w' none
theorem find_ltR {key : List Int} : ∀ {L : List PrT} {i : Nat} {p : PrT}, Srt L → L[i]? = some p → (cmpZ p.key key < 0 ↔ i < findT L key)
 | [], _, _, _, h => by simp at h
 | x :: L, 0, p, _, h => by
  simp at h
  subst h
  rw [find_consW]
  split <;> simp_all
 | x :: L, i + 1, p, hs, h => by
  have hp : p ∈ L := List.mem_of_getElem? (by simpa using h)
  rw [find_consW]
  split
  ·rw [find_ltR (List.pairwise_cons.1 hs).2 (i := i) (p := p) (by simpa using h)]
   omega
  ·rename_i h1
   have := above_all hs h1 p hp
   omega
theorem within_from (L : List PrT) (key : List Int) : withinT L key [] = L.drop (findT L key) := by
 unfold withinT upT
 simp
theorem within_upto (L : List PrT) (key : List Int) : withinT L [] (key ++ [0]) = L.take (findT L (key ++ [0])) := by
 unfold withinT upT
 rw [if_neg (by simp), find_nil, List.drop_zero]
theorem head_from (L : List PrT) (key : List Int) : (withinT L key []).head? = L[findT L key]? := by
 rw [within_from, List.head?_drop]
theorem head_upto (L : List PrT) (key : List Int) (f : Nat) (h : findT L (key ++ [0]) = f + 1) : (withinT L [] (key ++ [0])).reverse.head? = L[f]? := by
 have h1 := findT_le L (key ++ [0])
 rw [within_upto, h, List.head?_reverse, List.getLast?_eq_getElem?, List.length_take, List.getElem?_take]
 rw [if_pos (by omega)]
 congr 1
 omega
theorem head_upto0 (L : List PrT) (key : List Int) (h : findT L (key ++ [0]) = 0) : (withinT L [] (key ++ [0])).reverse.head? = none := by
 rw [within_upto, h]
 rfl
theorem from_an (t : Option TrT) (p : Nat) (ka : Option Addr) (kn kc : Nat) (key : List Int) (w : World) (ht : TreeT w p t) (hw : WkT t) (hk : Byt w ka kn kc key) (bk : Bt key) (h1 : kn ≤ 140737488355328) :
  Calls Tryz.prog 27 #[.pointer (some ⟨p, 0, none⟩), .slice ka kn kc] w fun en w' => AnP w ((withinT (flatO t) key []).head?.getD pz) (.bool (withinT (flatO t) key []).head?.isSome) en w' := by
 refine (from_any t p ka kn kc key w ht hw hk bk h1).mono ?_
 rintro en w' ⟨hg, ⟨h2, rfl⟩ | ⟨x, n0, m, hx, rfl, ⟨lo, hi, _, _, hp⟩, _⟩⟩
 ·rw [h2]
  exact ⟨_, _, rfl, .inr ⟨rfl, rfl, rfl⟩, hg⟩
 ·obtain ⟨l, hl⟩ := hx
  rw [← hl]
  exact ⟨_, _, rfl, .inl ⟨_, _, hp⟩, hg⟩
theorem upto_an (t : Option TrT) (p : Nat) (ka : Option Addr) (kn kc : Nat) (key : List Int) (w : World) (ht : TreeT w p t) (hw : WkT t) (hk : Byt w ka kn kc key) (bk : Bt key) (h1 : kn ≤ 10000) :
  Calls Tryz.prog 30 #[.pointer (some ⟨p, 0, none⟩), .slice ka kn kc] w fun en w' => AnP w ((withinT (flatO t) [] (key ++ [0])).reverse.head?.getD pz) (.bool (withinT (flatO t) [] (key ++ [0])).reverse.head?.isSome) en w' := by
 refine (upto_any t p ka kn kc key w ht hw hk bk h1).mono ?_
 rintro en w' ⟨hg, ⟨h2, rfl⟩ | ⟨x, n0, m, hx, rfl, ⟨lo, hi, _, _, hp⟩, _⟩⟩
 ·rw [h2]
  exact ⟨_, _, rfl, .inr ⟨rfl, rfl, rfl⟩, hg⟩
 ·obtain ⟨l, hl⟩ := hx
  rw [← hl]
  exact ⟨_, _, rfl, .inl ⟨_, _, hp⟩, hg⟩
def nthO (L : List PrT) (i : Int) : Option PrT := if i < 0 then none else L[i.toNat]?
theorem nth_an (t : Option TrT) (p : Nat) (i : Int) (w : World) (ht : TreeT w p t) (hw : WkT t) :
  Calls Tryz.prog 32 #[.pointer (some ⟨p, 0, none⟩), .int .i64 i] w fun en w' => AnP w ((nthO (flatO t) i).getD pz) (.int .i64 (if (nthO (flatO t) i).isSome then 0 else 110)) en w' := by
 by_cases h : i < 0 ∨ ((flatO t).length : Int) ≤ i
 ·have e : nthO (flatO t) i = none := by
   unfold nthO
   split
   ·rfl
   ·exact List.getElem?_eq_none (by omega)
  rw [e]
  refine (nth_no t p i w ht hw h).mono ?_
  rintro en w' ⟨rfl, hg⟩
  exact ⟨_, _, rfl, .inr ⟨rfl, rfl, rfl⟩, hg⟩
 ·obtain ⟨k, rfl⟩ : ∃ k : Nat, i = (k : Int) := ⟨i.toNat, by omega⟩
  obtain ⟨pr, hk⟩ : ∃ pr, (flatO t)[k]? = some pr := ⟨_, List.getElem?_eq_getElem (by omega)⟩
  have e : nthO (flatO t) (k : Int) = some pr := by
   unfold nthO
   rw [if_neg (by omega)]
   exact hk
  rw [e]
  refine (nth_ok t p k pr w ht hw hk).mono ?_
  rintro en w' ⟨kv, vv, lo, hi, rfl, hp, _, _, hg⟩
  exact ⟨_, _, rfl, .inl ⟨_, _, hp⟩, hg⟩
set_option maxHeartbeats 4000000 in
set_option maxRecDepth 100000 in
theorem refRank11 (a : Option Addr) (n c : Nat) (L : List PrT) (ka : Option Addr) (kn kc : Nat) (key : List Int) (w : World) (hl : MpW w a n c L) (hk : Byt w ka kn kc key) (bk : Bt key) (bL : ∀ p ∈ L, Bt p.key) (hs : Srt L) (h0 : n ≤ 100000) :
  Calls Tryz.prog 25 #[.slice a n c, .slice ka kn kc] w fun en w' => en = .returned (.int .i64 ((findT L key : Nat) : Int)) ∧ w.grownBy w' none := by
 have HL := hid_intro hl
 have HN := hid_intro hl.1
 have HK := hid_intro hk
 have HB := hid_intro bL
 have HF : Hid (∀ (i : Nat) (p : PrT), L[i]? = some p → (cmpZ p.key key < 0 ↔ i < findT L key)) := fun i p h => find_ltR hs h
 have hfl := findT_le L key
 rw [hl.1] at hfl
 obtain ⟨F, hF⟩ : ∃ F, findT L key = F := ⟨_, rfl⟩
 rw [hF] at HF hfl ⊢
 clear hl hk bL hs hF
 go_enter Tryz.func25, Tryz.ntmps25
 go_wp2
 go_loopw [5, 6] (fun s5 s6 wr => ∃ i m : Nat, i ≤ n ∧ s6 = .int .i64 (i : Nat) ∧ s5 = .int .i64 (m : Nat) ∧ m = min i F ∧ w.grownBy wr none) (fun _ s6 _ => n - (intOf s6).toNat)
 case atStart => exact ⟨0, 0, Nat.zero_le _, rfl, rfl, by omega, World.grownBy.refl _ _⟩
 case round =>
  obtain ⟨i, m, hi, rfl, rfl, hm, hg⟩ := hrel
  have HG := hid_intro hg
  clear hg
  by_cases hlt : i < n
  ·obtain ⟨p, hp⟩ : ∃ p, L[i]? = some p := ⟨_, List.getElem?_eq_getElem (by have := HN.out; omega)⟩
   obtain ⟨b1, off1, ao1, c1, bo1, d1, rfl, q1, q2, q3, q5⟩ := HL.out.get hp
   have LC := hid_intro (lessW ao1 ka p.key.length kn c1 kc p.key key wr (q3.keptN HG.out) (HK.out.keptN HG.out) (HB.out p (List.mem_of_getElem? hp)) bk)
   have x1 := HG.out.cell q1 (by simp)
   have hd := HF.out i p hp
   generalize p.key.length = n1 at *
   have g1 : (0 : Int) ≤ (i : Int) := by omega
   have g2 : (i : Int) < (n : Int) := by omega
   have HI := hid_intro hm
   have hmb : m ≤ 100000 := by omega
   clear q1 q2 q3 q5 hp hm
   by_cases hc : cmpZ p.key key < 0
   ·have hd2 := hd.1 hc
    have e1 : decide (cmpZ p.key key < 0) = true := by simpa using hc
    rw [e1] at LC
    clear hd hc e1
    go_wp2_with fail
    refine LC.out.mono ?_
    rintro en w2 ⟨rfl, hw⟩
    rw [hw]
    clear hw
    go_wp2_with fail
    go_roundw
    case rel => exact ⟨i + 1, m + 1, by omega, by go_num, by go_num, by have := HI.out; omega, HG.out⟩
    case measure => simp [intOf]; omega
   ·have hd2 : ¬ i < F := fun h => hc (hd.2 h)
    have e1 : decide (cmpZ p.key key < 0) = false := by simpa using hc
    rw [e1] at LC
    clear hd hc e1
    go_wp2_with fail
    refine LC.out.mono ?_
    rintro en w2 ⟨rfl, hw⟩
    rw [hw]
    clear hw
    go_wp2_with fail
    go_roundw
    case rel => exact ⟨i + 1, m, by omega, by go_num, rfl, by have := HI.out; omega, HG.out⟩
    case measure => simp [intOf]; omega
  ·have hmF : m = F := by omega
   rw [hmF]
   clear hm hmF
   go_wp2
   go_ret
   exact ⟨rfl, HG.out⟩
set_option maxHeartbeats 4000000 in
set_option maxRecDepth 100000 in
theorem refNth11 (a : Option Addr) (n c : Nat) (L : List PrT) (i : Int) (w0 w : World) (hl : MpW w0 a n c L) (hg0 : w0.grownBy w none) :
  Calls Tryz.prog 33 #[.slice a n c, .int .i64 i] w fun en w' => AnQ w0 w ((nthO L i).getD pz) (.int .i64 (if (nthO L i).isSome then 0 else 110)) en w' := by
 have g0 := World.grownBy_alloc w (.cells #[.slice none 0 0, .slice none 0 0] 38) none
 have G0 := hid_intro g0
 have hn := hl.1
 have HL := hid_intro hl
 have H0 := hid_intro hg0
 clear g0 hl hg0
 by_cases h : i < 0 ∨ (n : Int) ≤ i
 ·have e : nthO L i = none := by
   unfold nthO
   split
   ·rfl
   ·exact List.getElem?_eq_none (by omega)
  rw [e]
  clear e HL
  by_cases h1 : i < 0
  ·clear h
   go_enter Tryz.func33, Tryz.ntmps33
   go_wp2_with fail
   refine bodyPost_ret (results_pair_tmp rfl _ _ w.heap.size _ _ rfl (heap_at0 w _ _)) rfl ?_
   exact ⟨_, _, rfl, bp_none _, World.grownBy_alloc w _ none⟩
  ·have h2 : (n : Int) ≤ i := by omega
   clear h
   go_enter Tryz.func33, Tryz.ntmps33
   go_wp2_with fail
   refine bodyPost_ret (results_pair_tmp rfl _ _ w.heap.size _ _ rfl (heap_at0 w _ _)) rfl ?_
   exact ⟨_, _, rfl, bp_none _, World.grownBy_alloc w _ none⟩
 ·obtain ⟨k, rfl⟩ : ∃ k : Nat, i = (k : Int) := ⟨i.toNat, by omega⟩
  have hk1 : k < n := by omega
  obtain ⟨p, hp⟩ : ∃ p, L[k]? = some p := ⟨_, List.getElem?_eq_getElem (by omega)⟩
  have e : nthO L (k : Int) = some p := by
   unfold nthO
   rw [if_neg (by omega)]
   exact hp
  rw [e]
  obtain ⟨b1, off1, ao1, c1, bo1, d1', rfl, q1, q2, q3, q5⟩ := HL.out.get hp
  have x1 := (grown_trans H0.out G0.out).cell q1 (by simp)
  have x2 := (grown_trans H0.out G0.out).cell q2 (by simp)
  have HBP : Hid (BpW w0 [.slice ao1 p.key.length c1, .slice bo1 p.val.length d1'] p) := ⟨_, _, _, _, rfl, q3, q5⟩
  generalize p.key.length = n1 at *
  generalize p.val.length = m1 at *
  have r1 : ¬ (k : Int) < 0 := by omega
  have r2 : ¬ (n : Int) ≤ (k : Int) := by omega
  have r3 : (k : Int) < (n : Int) := by omega
  have r4 : (0 : Int) ≤ (k : Int) := by omega
  clear h q1 q2 q3 q5 hp e HL hn
  go_enter Tryz.func33, Tryz.ntmps33
  go_wp2_with fail
  refine bodyPost_ret (results_pair_tmp rfl _ _ w.heap.size _ _ rfl (heap_at0 w _ _)) rfl ?_
  exact ⟨_, _, rfl, HBP.out, World.grownBy_alloc w _ none⟩
set_option maxHeartbeats 4000000 in
set_option maxRecDepth 100000 in
theorem refFrom11 (a : Option Addr) (n c : Nat) (L : List PrT) (ka : Option Addr) (kn kc : Nat) (key : List Int) (w0 w : World) (hl : MpW w0 a n c L) (hg0 : w0.grownBy w none) (hk : Byt w ka kn kc key) (bk : Bt key) (bL : ∀ p ∈ L, Bt p.key) (hs : Srt L) (h0 : n ≤ 100000) :
  Calls Tryz.prog 28 #[.slice a n c, .slice ka kn kc] w fun en w' => AnQ w0 w ((withinT L key []).head?.getD pz) (.bool (withinT L key []).head?.isSome) en w' := by
 have HL := hid_intro hl
 have HN := hid_intro hl.1
 have HK := hid_intro hk
 have HB := hid_intro bL
 have HF : Hid (∀ (i : Nat) (p : PrT), L[i]? = some p → (cmpZ p.key key < 0 ↔ i < findT L key)) := fun i p h => find_ltR hs h
 have hfl := findT_le L key
 rw [hl.1] at hfl
 rw [head_from]
 obtain ⟨F, hF⟩ : ∃ F, findT L key = F := ⟨_, rfl⟩
 rw [hF] at HF hfl ⊢
 have g0 := hid_intro (World.grownBy_alloc w (.cells #[.slice none 0 0, .slice none 0 0] 38) none)
 have x0 := hid_intro (heap_at0 w #[.slice none 0 0, .slice none 0 0] 38)
 have H0 := hid_intro hg0
 clear hl hk bL hs hF hg0
 go_enter Tryz.func28, Tryz.ntmps28
 go_wp2
 go_loopw [6] (fun s6 wr => ∃ i : Nat, i ≤ F ∧ s6 = .int .i64 (i : Nat) ∧ w.grownBy wr none ∧ wr.heap[w.heap.size]? = some (.cells #[.slice none 0 0, .slice none 0 0] 38 (0, 0))) (fun s6 _ => n - (intOf s6).toNat)
 case atStart => exact ⟨0, Nat.zero_le _, rfl, g0.out, x0.out⟩
 case round =>
  obtain ⟨i, hi, rfl, hg, hx⟩ := hrel
  have HG := hid_intro hg
  have X2 := hid_intro hx
  have e0 := cell_heap (i := 0) hx rfl
  have e1 := cell_heap (i := 1) hx rfl
  have z0 := frozen_of_row wr w.heap.size 0 _ _ hx
  have z1 := frozen_of_row wr w.heap.size 1 _ _ hx
  have fin : Hid (∀ u v : Value, w.grownBy ((wr.setCell ⟨w.heap.size, 0, none⟩ u).setCell ⟨w.heap.size, 1, none⟩ v) none) := fun u v => gr_set (gr_set hg 0 u (Nat.le_refl _)) 1 v (Nat.le_refl _)
  clear hg hx
  by_cases hlt : i < n
  ·obtain ⟨p, hp⟩ : ∃ p, L[i]? = some p := ⟨_, List.getElem?_eq_getElem (by have := HN.out; omega)⟩
   obtain ⟨b1, off1, ao1, c1, bo1, d1, rfl, q1, q2, q3, q5⟩ := HL.out.get hp
   have LC := hid_intro (lessW ao1 ka p.key.length kn c1 kc p.key key wr (q3.keptN (grown_trans H0.out HG.out)) (HK.out.keptN HG.out) (HB.out p (List.mem_of_getElem? hp)) bk)
   have x1 := (grown_trans H0.out HG.out).cell q1 (by simp)
   have x2 := (grown_trans H0.out HG.out).cell q2 (by simp)
   have HBP : Hid (BpW w0 [.slice ao1 p.key.length c1, .slice bo1 p.val.length d1] p) := ⟨_, _, _, _, rfl, q3, q5⟩
   have hd := HF.out i p hp
   generalize p.key.length = n1 at *
   generalize p.val.length = m1 at *
   have g1 : (0 : Int) ≤ (i : Int) := by omega
   have g2 : (i : Int) < (n : Int) := by omega
   have HP := hid_intro hp
   clear q1 q2 q3 q5 hp
   by_cases hc : cmpZ p.key key < 0
   ·have hd2 := hd.1 hc
    have e1 : decide (cmpZ p.key key < 0) = true := by simpa using hc
    rw [e1] at LC
    clear hd hc e1
    go_wp2_with fail
    refine LC.out.mono ?_
    rintro en w2 ⟨rfl, hw⟩
    rw [hw]
    clear hw
    go_wp2_with fail
    go_roundw
    case rel => exact ⟨i + 1, by omega, by go_num, HG.out, X2.out⟩
    case measure => simp [intOf]; omega
   ·have hd2 : i = F := by have : ¬ i < F := fun h => hc (hd.2 h); omega
    have e1 : decide (cmpZ p.key key < 0) = false := by simpa using hc
    rw [e1] at LC
    have HD := hid_intro hd2
    clear hd hc e1 hd2
    go_wp2_with fail
    refine LC.out.mono ?_
    rintro en w2 ⟨rfl, hw⟩
    rw [hw]
    clear hw
    go_wp2_with fail
    obtain ⟨y1, y2⟩ := pair_put X2.out (.slice ao1 n1 c1) (.slice bo1 m1 d1)
    refine bodyPost_ret (results_pair_tmp rfl _ _ w.heap.size _ _ rfl y1) rfl ?_
    rw [← HD.out, HP.out]
    exact ⟨_, _, rfl, HBP.out, fin.out _ _⟩
  ·have HE : Hid (L[F]? = none) := List.getElem?_eq_none (by have := HN.out; omega)
   clear hfl hi
   go_wp2_with fail
   obtain ⟨y1, y2⟩ := pair_put X2.out (.slice none 0 0) (.slice none 0 0)
   refine bodyPost_ret (results_pair_tmp rfl _ _ w.heap.size _ _ rfl y1) rfl ?_
   rw [HE.out]
   exact ⟨_, _, rfl, bp_none _, fin.out _ _⟩
set_option maxHeartbeats 4000000 in
set_option maxRecDepth 100000 in
theorem refUpto11 (a : Option Addr) (n c : Nat) (L : List PrT) (ka : Option Addr) (kn kc : Nat) (key : List Int) (w0 w : World) (hl : MpW w0 a n c L) (hg0 : w0.grownBy w none) (hk : Byt w ka kn kc key) (bk : Bt key) (bL : ∀ p ∈ L, Bt p.key) (hs : Srt L) (h0 : n ≤ 100000) :
  Calls Tryz.prog 31 #[.slice a n c, .slice ka kn kc] w fun en w' => AnQ w0 w ((withinT L [] (key ++ [0])).reverse.head?.getD pz) (.bool (withinT L [] (key ++ [0])).reverse.head?.isSome) en w' := by
 have HL := hid_intro hl
 have HN := hid_intro hl.1
 have HK := hid_intro hk
 have HB := hid_intro bL
 have HF : Hid (∀ (i : Nat) (p : PrT), L[i]? = some p → (cmpZ key p.key < 0 ↔ ¬ i < findT L (key ++ [0]))) := fun i p h => by
  rw [← find_ltR hs h, cmp_next _ _ (bL p (List.mem_of_getElem? h)), cmp_anti p.key key]
  omega
 have HU := hid_intro (head_upto L key)
 have HU0 := hid_intro (head_upto0 L key)
 have hfl := findT_le L (key ++ [0])
 rw [hl.1] at hfl
 obtain ⟨F, hF⟩ : ∃ F, findT L (key ++ [0]) = F := ⟨_, rfl⟩
 rw [hF] at HF hfl HU HU0
 generalize (withinT L [] (key ++ [0])).reverse.head? = o at *
 have g0 := hid_intro (World.grownBy_alloc w (.cells #[.slice none 0 0, .slice none 0 0] 38) none)
 have x0 := hid_intro (heap_at0 w #[.slice none 0 0, .slice none 0 0] 38)
 have H0 := hid_intro hg0
 clear hl hk bL hs hF hg0
 have q0 : IntKind.i64.wrap ((n : Int) - 1) = (n : Int) - 1 := by rw [IntKind.wrap_i64]; omega
 go_enter Tryz.func31, Tryz.ntmps31
 go_wp2
 go_loopw [6] (fun s6 wr => ∃ i : Nat, i ≤ n ∧ F ≤ i ∧ s6 = .int .i64 ((i : Int) - 1) ∧ w.grownBy wr none ∧ wr.heap[w.heap.size]? = some (.cells #[.slice none 0 0, .slice none 0 0] 38 (0, 0))) (fun s6 _ => (intOf s6 + 1).toNat)
 case atStart => exact ⟨n, Nat.le_refl _, hfl, rfl, g0.out, x0.out⟩
 case round =>
  obtain ⟨i, hi, hiF, rfl, hg, hx⟩ := hrel
  have HG := hid_intro hg
  have X2 := hid_intro hx
  have e0 := cell_heap (i := 0) hx rfl
  have e1 := cell_heap (i := 1) hx rfl
  have z0 := frozen_of_row wr w.heap.size 0 _ _ hx
  have z1 := frozen_of_row wr w.heap.size 1 _ _ hx
  have fin : Hid (∀ u v : Value, w.grownBy ((wr.setCell ⟨w.heap.size, 0, none⟩ u).setCell ⟨w.heap.size, 1, none⟩ v) none) := fun u v => gr_set (gr_set hg 0 u (Nat.le_refl _)) 1 v (Nat.le_refl _)
  clear hg hx
  by_cases hlt : 0 < i
  ·obtain ⟨k, rfl⟩ : ∃ k, i = k + 1 := ⟨i - 1, by omega⟩
   have hk9 : ((k + 1 : Nat) : Int) - 1 = (k : Int) := by omega
   rw [hk9]
   obtain ⟨p, hp⟩ : ∃ p, L[k]? = some p := ⟨_, List.getElem?_eq_getElem (by have := HN.out; omega)⟩
   obtain ⟨b1, off1, ao1, c1, bo1, d1, rfl, q1, q2, q3, q5⟩ := HL.out.get hp
   have LC := hid_intro (lessW ka ao1 kn p.key.length kc c1 key p.key wr (HK.out.keptN HG.out) (q3.keptN (grown_trans H0.out HG.out)) bk (HB.out p (List.mem_of_getElem? hp)))
   have x1 := (grown_trans H0.out HG.out).cell q1 (by simp)
   have x2 := (grown_trans H0.out HG.out).cell q2 (by simp)
   have HBP : Hid (BpW w0 [.slice ao1 p.key.length c1, .slice bo1 p.val.length d1] p) := ⟨_, _, _, _, rfl, q3, q5⟩
   have hd := HF.out k p hp
   generalize p.key.length = n1 at *
   generalize p.val.length = m1 at *
   have g1 : (0 : Int) ≤ (k : Int) := by omega
   have g2 : (k : Int) < (n : Int) := by omega
   have g3 : IntKind.i64.wrap ((k : Int) - 1) = (k : Int) - 1 := by rw [IntKind.wrap_i64]; omega
   have HP := hid_intro hp
   clear q1 q2 q3 q5 hp hk9
   by_cases hc : cmpZ key p.key < 0
   ·have hd2 := hd.1 hc
    have e1 : decide (cmpZ key p.key < 0) = true := by simpa using hc
    rw [e1] at LC
    clear hd hc e1
    go_wp2_with fail
    refine LC.out.mono ?_
    rintro en w2 ⟨rfl, hw⟩
    rw [hw]
    clear hw
    go_wp2_with fail
    go_roundw
    case rel => exact ⟨k, by omega, by omega, rfl, HG.out, X2.out⟩
    case measure => simp [intOf]
   ·have hd2 : F = k + 1 := by have : k < F := Classical.byContradiction fun h => hc (hd.2 h); omega
    have e1 : decide (cmpZ key p.key < 0) = false := by simpa using hc
    rw [e1] at LC
    have HD := hid_intro (HU.out k hd2)
    clear hd hc e1 hd2
    go_wp2_with fail
    refine LC.out.mono ?_
    rintro en w2 ⟨rfl, hw⟩
    rw [hw]
    clear hw
    go_wp2_with fail
    obtain ⟨y1, y2⟩ := pair_put X2.out (.slice ao1 n1 c1) (.slice bo1 m1 d1)
    refine bodyPost_ret (results_pair_tmp rfl _ _ w.heap.size _ _ rfl y1) rfl ?_
    rw [HD.out, HP.out]
    exact ⟨_, _, rfl, HBP.out, fin.out _ _⟩
  ·have hi0 : i = 0 := by omega
   rw [hi0]
   have HE := hid_intro (HU0.out (by omega))
   clear hfl hi hiF hlt hi0
   go_wp2_with fail
   obtain ⟨y1, y2⟩ := pair_put X2.out (.slice none 0 0) (.slice none 0 0)
   refine bodyPost_ret (results_pair_tmp rfl _ _ w.heap.size _ _ rfl y1) rfl ?_
   rw [HE.out]
   exact ⟨_, _, rfl, bp_none _, fin.out _ _⟩
end Go.Proofs.YtoecgpckkodmcaaGreat
