import Derived.Test.YthodgddoolbenaaGreatDoorQ32
namespace Go.Proofs.YthodgddoolbenaaGreatDoor
open Go.RowKit
theorem Pm.two {w : World} {a : Option Addr} {l : List Pq} (h : Pm w a l) {i : Nat} {p : Pq} (hp : l[i]? = some p) : ∃ b off ao c bo d, a = some ⟨b, off, none⟩ ∧ w.cell? ⟨b, off + i * 2, none⟩ = some (.slice ao p.1.length c) ∧ w.cell? ⟨b, off + i * 2 + 1, none⟩ = some (.slice bo p.2.length d) := by
 obtain ⟨b, off, ao, c, bo, d, h1, h2, h3, _⟩ := h.el i p hp
 exact ⟨b, off, ao, c, bo, d, h1, h2, h3⟩
theorem mem_take_snoc {l : List Pq} {i : Nat} {p q : Pq} (hp : l[i]? = some p) (hq : q ∈ l.take (i + 1)) : q ∈ l.take i ∨ q = p := by
 obtain ⟨hi, e⟩ := List.getElem?_eq_some_iff.1 hp
 rw [List.take_succ_eq_append_getElem hi, e, List.mem_append] at hq
 simpa using hq
def FewP (w : World) (n : Nat) (l : List Pq) (en : Ending) (w' : World) : Prop := ∃ f : Bool, en = .returned (.bool f) ∧ Qt w w' ∧ (f = true → n ≤ 2000 ∧ ∀ p ∈ l, p.1.length ≤ 1048576 ∧ p.2.length ≤ 1048576)
set_option maxHeartbeats 4000000 in
set_option maxRecDepth 100000 in
theorem few20 (a : Option Addr) (n c : Nat) (l : List Pq) (w : World) (h : Pm w a l) (hn : l.length = n) :
  Calls Tryz.prog 5 #[.slice a n c] w fun en w' => FewP w n l en w' := by
 have HP := hid_intro h
 have HL := hid_intro hn
 clear h hn
 by_cases hb : 2000 < n
 ·have g1 : (2000 : Int) < (n : Int) := by omega
  go_enter Tryz.func5, Tryz.ntmps5
  go_wp2
  go_ret
  exact ⟨false, rfl, Qt.refl _, fun e => by cases e⟩
 ·have g1 : ¬ (2000 : Int) < (n : Int) := by omega
  go_enter Tryz.func5, Tryz.ntmps5
  go_wp2
  go_loopw [3, 4] (fun sn si wr => ∃ (i s : Nat), i ≤ n ∧ si = .int .i64 (i : Nat) ∧ sn = .int .i64 (s : Nat) ∧ s ≤ i * 2097152 ∧ Qt w wr ∧ ∀ p ∈ l.take i, p.1.length ≤ 1048576 ∧ p.2.length ≤ 1048576) (fun _ si _ => n - (intOf si).toNat)
  case atStart => exact ⟨0, 0, Nat.zero_le _, rfl, rfl, Nat.zero_le _, Qt.refl _, fun p hp => by simp at hp⟩
  case round =>
   obtain ⟨i, s, hi, rfl, rfl, hs, hq, hsm⟩ := hrel
   have HQ := hid_intro hq
   have HSM := hid_intro hsm
   clear hq hsm
   by_cases hlt : i < n
   ·obtain ⟨p, hp⟩ : ∃ p, l[i]? = some p := ⟨_, List.getElem?_eq_getElem (by have := HL.out; omega)⟩
    obtain ⟨b, off, ao, c1, bo, d1, rfl, q1, q2⟩ := HP.out.two hp
    have c0 := (HQ.out.cell _).trans q1
    have c2 := (HQ.out.cell _).trans q2
    have HMT : Hid (∀ q, q ∈ l.take (i + 1) → q ∈ l.take i ∨ q = p) := fun q hq => mem_take_snoc hp hq
    clear q1 q2 hp
    obtain ⟨n1, hn1⟩ : ∃ n1, p.1.length = n1 := ⟨_, rfl⟩
    obtain ⟨n2, hn2⟩ : ∃ n2, p.2.length = n2 := ⟨_, rfl⟩
    rw [hn1] at c0
    rw [hn2] at c2
    have H1 := hid_intro hn1
    have H2 := hid_intro hn2
    clear hn1 hn2
    have j0 : (0 : Int) ≤ (i : Int) := by omega
    have j1 : (i : Int) < (n : Int) := by omega
    by_cases h1 : 1048576 < n1
    ·have k1 : (1048576 : Int) < (n1 : Int) := by omega
     go_wp2
     go_ret
     exact ⟨false, rfl, HQ.out, fun e => by cases e⟩
    ·have k1 : ¬ (1048576 : Int) < (n1 : Int) := by omega
     by_cases h2 : 1048576 < n2
     ·have k2 : (1048576 : Int) < (n2 : Int) := by omega
      go_wp2
      go_ret
      exact ⟨false, rfl, HQ.out, fun e => by cases e⟩
     ·have k2 : ¬ (1048576 : Int) < (n2 : Int) := by omega
      have k3 : IntKind.i64.wrap ((s : Int) + (n1 : Int)) = (s : Int) + (n1 : Int) := wrap_small _ (by omega) (by omega)
      have k4 : IntKind.i64.wrap ((s : Int) + (n1 : Int) + (n2 : Int)) = (s : Int) + (n1 : Int) + (n2 : Int) := wrap_small _ (by omega) (by omega)
      go_wp2
      go_quiet (fail)
      go_wp2
      go_roundw
      case rel =>
       refine ⟨i + 1, s + n1 + n2, by omega, by go_num, by go_num, by omega, HQ.out.trans (Qt.drewN _ _), fun q hq => ?_⟩
       rcases HMT.out q hq with h | rfl
       ·exact HSM.out q h
       ·have := H1.out; have := H2.out; omega
      case measure => simp [intOf]; omega
   ·obtain rfl : i = n := by omega
    have e : l.take i = l := by rw [← HL.out, List.take_length]
    rw [e] at HSM
    go_wp2
    go_ret
    exact ⟨_, rfl, HQ.out, fun _ => ⟨by omega, HSM.out⟩⟩
structure Lw (w : World) (B : Nat) (bl : Nat → Nat) (xs : List Value) (l : List Pq) : Prop where
 len : xs.length = l.length * 2
 mono : ∀ a b, a < b → b < l.length * 2 → bl a < bl b
 el : ∀ i p, l[i]? = some p → ∃ c d, xs[i * 2]? = some (.slice (some ⟨bl (i * 2), 0, none⟩) p.1.length c) ∧ xs[i * 2 + 1]? = some (.slice (some ⟨bl (i * 2 + 1), 0, none⟩) p.2.length d) ∧
  w.ownsRow B 5 1 (.slice (some ⟨bl (i * 2), 0, none⟩) (p.1.length + 1) c) (p.1.length + 1) ((p.1 ++ [201]).map (Value.int .u8)) ∧
  w.ownsRow B 5 1 (.slice (some ⟨bl (i * 2 + 1), 0, none⟩) (p.2.length + 1) d) (p.2.length + 1) ((p.2 ++ [202]).map (Value.int .u8)) ∧ Bt p.1 ∧ Bt p.2
theorem Lw.nil (w : World) (B : Nat) (bl : Nat → Nat) : Lw w B bl [] [] := ⟨rfl, fun a b h1 h2 => by simp at h2, fun i p h => by simp at h⟩
theorem Lw.keptN {w w' : World} {B : Nat} {bl : Nat → Nat} {xs : List Value} {l : List Pq} (h : Lw w B bl xs l) (hg : w.grownBy w' none) : Lw w' B bl xs l :=
 ⟨h.len, h.mono, fun i p hp => by
  obtain ⟨c, d, h1, h2, h3, h4, h5⟩ := h.el i p hp
  exact ⟨c, d, h1, h2, own_keptD h3 hg, own_keptD h4 hg, h5⟩⟩
theorem Lw.app {w w' : World} {B : Nat} {bl : Nat → Nat} {xs : List Value} {l : List Pq} {base n : Nat} {v : Value} {ys : List Value} (h : Lw w B bl xs l) (ho : w.ownsRow base 54 2 v n ys) (hg : w.grownBy w' v.ownBlock) : Lw w' B bl xs l :=
 ⟨h.len, h.mono, fun i p hp => by
  obtain ⟨c, d, h1, h2, h3, h4, h5⟩ := h.el i p hp
  exact ⟨c, d, h1, h2, h3.kept hg (own_neD h3 ho (by decide)), h4.kept hg (own_neD h4 ho (by decide)), h5⟩⟩
theorem Lw.lt {w : World} {B : Nat} {bl : Nat → Nat} {xs : List Value} {l : List Pq} (h : Lw w B bl xs l) {a : Nat} (ha : a < l.length * 2) : B ≤ bl a ∧ bl a < w.heap.size := by
 obtain ⟨i, hi, hc⟩ : ∃ i, i < l.length ∧ (a = i * 2 ∨ a = i * 2 + 1) := ⟨a / 2, by omega, by omega⟩
 obtain ⟨c, d, h1, h2, h3, h4, h5⟩ := h.el i _ (List.getElem?_eq_getElem hi)
 rcases hc with rfl | rfl
 ·exact h3.lt _ rfl
 ·exact h4.lt _ rfl
theorem Lw.snoc {w : World} {B g k c d : Nat} {bl : Nat → Nat} {xs : List Value} {l : List Pq} {p : Pq} (h : Lw w B bl xs l)
  (h3 : w.ownsRow B 5 1 (.slice (some ⟨g, 0, none⟩) (p.1.length + 1) c) (p.1.length + 1) ((p.1 ++ [201]).map (Value.int .u8)))
  (h4 : w.ownsRow B 5 1 (.slice (some ⟨k, 0, none⟩) (p.2.length + 1) d) (p.2.length + 1) ((p.2 ++ [202]).map (Value.int .u8)))
  (hb : Bt p.1 ∧ Bt p.2) (hlo : ∀ a, a < l.length * 2 → bl a < g) (hgk : g < k) :
  ∃ bl', Lw w B bl' (xs ++ [.slice (some ⟨g, 0, none⟩) p.1.length c, .slice (some ⟨k, 0, none⟩) p.2.length d]) (l ++ [p]) := by
 have hl := h.len
 refine ⟨fun j => if j = l.length * 2 then g else if j = l.length * 2 + 1 then k else bl j, by simp [hl]; omega, fun a b hab hb2 => ?_, fun i q hq => ?_⟩
 ·rw [List.length_append, List.length_singleton] at hb2
  have h1 : ¬ a = l.length * 2 + 1 := by omega
  by_cases h2 : a = l.length * 2
  ·have h5 : ¬ b = l.length * 2 := by omega
   have h6 : b = l.length * 2 + 1 := by omega
   simp only [if_pos h2, if_neg h5, if_pos h6]; exact hgk
  ·have h7 := hlo a (by omega)
   simp only [if_neg h2, if_neg h1]
   by_cases h5 : b = l.length * 2
   ·simp only [if_pos h5]; exact h7
   ·by_cases h6 : b = l.length * 2 + 1
    ·simp only [if_neg h5, if_pos h6]; omega
    ·simp only [if_neg h5, if_neg h6]; exact h.mono a b hab (by omega)
 ·by_cases hi : i < l.length
  ·rw [List.getElem?_append_left hi] at hq
   obtain ⟨c', d', h1, h2, h3', h4', h5⟩ := h.el i q hq
   have e1 : ¬ i * 2 = l.length * 2 := by omega
   have e2 : ¬ i * 2 = l.length * 2 + 1 := by omega
   have e3 : ¬ i * 2 + 1 = l.length * 2 := by omega
   have e4 : ¬ i * 2 + 1 = l.length * 2 + 1 := by omega
   simp only [if_neg e1, if_neg e2, if_neg e3, if_neg e4]
   exact ⟨c', d', by rw [List.getElem?_append_left (by omega)]; exact h1, by rw [List.getElem?_append_left (by omega)]; exact h2, h3', h4', h5⟩
  ·rw [List.getElem?_append_right (by omega)] at hq
   have hi2 : i - l.length = 0 := by
    cases hk : i - l.length with
    | zero => rfl
    | succ k => rw [hk] at hq; simp at hq
   rw [hi2] at hq
   simp only [List.getElem?_cons_zero, Option.some.injEq] at hq
   subst hq
   have hi3 : i = l.length := by omega
   subst hi3
   have e3 : ¬ l.length * 2 + 1 = l.length * 2 := by omega
   simp only [if_neg e3, if_true]
   refine ⟨c, d, ?_, ?_, h3, h4, hb⟩
   ·rw [List.getElem?_append_right (by omega), hl, Nat.sub_self]; rfl
   ·rw [List.getElem?_append_right (by omega), hl, Nat.add_sub_cancel_left]; rfl
theorem Lw.pm {w : World} {B : Nat} {bl : Nat → Nat} {xs ys : List Value} {l : List Pq} {base n m : Nat} {a : Option Addr} {c : Nat} (h : Lw w B bl xs l) (ho : w.ownsRow base 54 2 (.slice a n c) n (xs ++ ys)) (hm : l.length = m) (hm2 : m ≤ n) : Pm w a l := by
 have hl := h.len
 have ho1 := ho.1
 refine ⟨fun i p hp => ?_⟩
 have hi := (List.getElem?_eq_some_iff.1 hp).1
 obtain ⟨c1, d1, h1, h2, h3, h4, h5, h6⟩ := h.el i p hp
 rcases ho.2 with ⟨_, e2⟩ | ⟨g, cap, cur, e1, _, e3, e4, e5, e6, e7⟩
 ·omega
 ·simp only [Value.slice.injEq] at e1
  obtain ⟨rfl, _, rfl⟩ := e1
  have hc : ∀ j u, xs[j]? = some u → w.cell? ⟨g, j, none⟩ = some u := by
   intro j u hu
   have hu2 : (xs ++ ys)[j]? = some u := by rw [List.getElem?_append_left (List.getElem?_eq_some_iff.1 hu).1]; exact hu
   rw [cell_of_row w g j cur _ _ e3, ← Array.getElem?_toList]
   rw [← e7, List.getElem?_take] at hu2
   split at hu2
   ·exact hu2
   ·cases hu2
  have t3 := (byt_of_ownD h3).take p.1.length c1 (by omega) (fun e => by cases e)
  have t4 := (byt_of_ownD h4).take p.2.length d1 (by omega) (fun e => by cases e)
  rw [List.take_left' rfl] at t3 t4
  exact ⟨g, 0, _, c1, _, d1, rfl, by rw [Nat.zero_add]; exact hc _ _ h1, by rw [Nat.zero_add]; exact hc _ _ h2, t3, h5, t4, h6⟩
theorem ret_pair20 {fn : Func} {p : Tmp} (h : fn.results = #[.cell p 54]) (tmps : Array Value) (w : World) (g : Nat) (x y : Value) (hp : tmps.getD p undef = .pointer (some ⟨g, 0, none⟩)) (hr : w.heap[g]? = some (.cells #[x, y] 54 (0, 0))) :
  (results fn tmps).run Tryz.prog w = .ok (.agg #[x, y]) w := by
 have hp' : tmps[p]?.getD undef = .pointer (some ⟨g, 0, none⟩) := by simpa using hp
 simp [results, h, hp', asAddr, run_loadVar_row w g 54 54 #[x, y] (0, 0) _ hr Tryz.underlying54 rfl (by rw [size_pairD]; rfl)]
theorem heap_keptN {w w' : World} {g : Nat} {o : Obj} (hg : w.grownBy w' none) (h : w.heap[g]? = some o) : w'.heap[g]? = some o := by
 rw [hg.block g (Array.getElem?_eq_some_iff.1 h).1 (by simp)]; exact h
def PairP (w : World) (k v : List Int) (en : Ending) (w' : World) : Prop := ∃ ao c bo d, en = .returned (.agg #[.slice ao k.length c, .slice bo v.length d]) ∧ w.grownBy w' none ∧ w'.ownsRow w.heap.size 5 1 (.slice ao k.length c) k.length (k.map (Value.int .u8)) ∧ w'.ownsRow w.heap.size 5 1 (.slice bo v.length d) v.length (v.map (Value.int .u8))
theorem gc2 {w : World} {U b o : Nat} {v0 v1 v : Value} (hne : b ≠ U) (h : w.cell? ⟨b, o, none⟩ = some v) : ((w.setCell ⟨U, 0, none⟩ v0).setCell ⟨U, 1, none⟩ v1).cell? ⟨b, o, none⟩ = some v :=
 (grown_transD (grown_cellD w U 0 v0) (grown_cellD _ U 1 v1)).cell h (fun e => hne (Option.some.inj e))
set_option maxHeartbeats 2000000 in
set_option maxRecDepth 100000 in
theorem refPair20 (ao bo : Option Addr) (n c m d : Nat) (k v : List Int) (w : World) (hk : Byt w ao n c k) (hv : Byt w bo m d v) (hn : n ≤ 100000000) (hm : m ≤ 100000000) :
  Calls Tryz.prog 42 #[.agg #[.slice ao n c, .slice bo m d]] w fun en w' => PairP w k v en w' := by
 have ga := World.grownBy_alloc w (.cells #[.slice ao n c, .slice bo m d] 54) none
 have gb := World.grownBy_alloc (w.alloc (.cells #[.slice ao n c, .slice bo m d] 54)) (.cells #[.slice none 0 0, .slice none 0 0] 54) none
 have hs1 : (w.alloc (.cells #[.slice ao n c, .slice bo m d] 54)).heap.size = w.heap.size + 1 := by simp
 have X1 := hid_intro (heap_keptN gb (heap_alloc_new w (.cells #[.slice ao n c, .slice bo m d] 54 (0, 0))))
 have Y1 := hid_intro (heap_alloc_new (w.alloc (.cells #[.slice ao n c, .slice bo m d] 54)) (.cells #[.slice none 0 0, .slice none 0 0] 54 (0, 0)))
 rw [hs1] at Y1
 have HG := hid_intro (grown_trans ga gb)
 have K1 := hid_intro (hk.keptN (grown_trans ga gb))
 have V1 := hid_intro (hv.keptN (grown_trans ga gb))
 have HKL := hid_intro hk.len
 have HVL := hid_intro hv.len
 have hsz : ((w.alloc (.cells #[.slice ao n c, .slice bo m d] 54)).alloc (.cells #[.slice none 0 0, .slice none 0 0] 54)).heap.size = w.heap.size + 2 := by simp
 clear ga gb hs1 hk hv
 go_enter Tryz.func42, Tryz.ntmps42
 go_upto_region 1 with fail
 generalize (w.alloc (.cells #[.slice ao n c, .slice bo m d] 54)).alloc (.cells #[.slice none 0 0, .slice none 0 0] 54) = w1 at *
 obtain ⟨B, hB⟩ : ∃ B, w.heap.size = B := ⟨_, rfl⟩
 have HB := hid_intro hB
 rw [hB] at X1 Y1 hsz ⊢
 obtain ⟨U, hU⟩ : ∃ U, B + 1 = U := ⟨_, rfl⟩
 rw [hU] at Y1 ⊢
 have hBU : B ≠ U := by omega
 have hBU2 : ¬ B = U := by omega
 have HS1 : Hid (w1.heap.size = B + 2) := hsz
 have HU := hid_intro hU
 clear hsz hB hU
 have x0 : w1.cell? ⟨B, 0, none⟩ = some (.slice ao n c) := by rw [Lib.cell_of_heap X1.out]; rfl
 have x1 : w1.cell? ⟨B, 1, none⟩ = some (.slice bo m d) := by rw [Lib.cell_of_heap X1.out]; rfl
 go_region_held3 (fun w' => w'.cell? ⟨B, 0, none⟩ = some (.slice ao n c) ∧ w'.cell? ⟨B, 1, none⟩ = some (.slice bo m d)) (first | exact ⟨x0, x1⟩ | exact T2.out | exact T3.out | go_keep | exact ⟨gc2 hBU T3.out.1, gc2 hBU T3.out.2⟩)
  (first
   | (go_at_call_of 25 (Value.slice ao n c); refine (refBytes_any ao n c k w1.drew (K1.out.heap rfl) (by omega)).mono ?_; rintro en w2 ⟨rfl, hown2, hg2, hs2⟩; have O2 := hid_intro hown2; have G2 := hid_intro (grown_undrew hg2); have T2 := hid_intro (And.intro (G2.out.cell x0 (by simp)) (G2.out.cell x1 (by simp))); clear hown2 hg2)
   | (go_at_call_of 25 (Value.slice bo m d); refine (refBytes_any bo m d v w2 (V1.out.keptN G2.out) (by omega)).mono ?_; rintro en w3 ⟨rfl, hown3, hg3, hs3⟩; have O3 := hid_intro hown3; have R3 := hid_intro hg3; have G3 := hid_intro (grown_trans G2.out hg3); have T3 := hid_intro (And.intro (G3.out.cell x0 (by simp)) (G3.out.cell x1 (by simp))); have Y3 := hid_intro (heap_keptN G3.out Y1.out); have z0 : w3.cell? ⟨U, 0, none⟩ = some (.slice none 0 0) := (by rw [Lib.cell_of_heap Y3.out]; rfl); have z1 : w3.cell? ⟨U, 1, none⟩ = some (.slice none 0 0) := (by rw [Lib.cell_of_heap Y3.out]; rfl); have f0 : w3.frozen? ⟨U, 0, none⟩ = false := Lib.frozen_of_heap Y3.out 0; have f1 : w3.frozen? ⟨U, 1, none⟩ = false := Lib.frozen_of_heap Y3.out 1; clear hown3 hg3)
   | fail)
 have hlen1 := HKL.out
 have hlen2 := HVL.out
 subst hlen1
 subst hlen2
 have o2 : w2.ownsRow w1.heap.size 5 1 (.slice (some ⟨w1.heap.size, 0, none⟩) k.length k.length) k.length (k.map (Value.int .u8)) := O2.out
 have hlt : w1.heap.size < w2.heap.size := hs2
 have hsz := HS1.out
 have hu := HU.out
 obtain ⟨y1, y2⟩ := pair_putD Y3.out (.slice (some ⟨w1.heap.size, 0, none⟩) k.length k.length) (.slice (some ⟨w2.heap.size, 0, none⟩) v.length v.length)
 have o3 := own_low ((own_keptD o2 R3.out).kept y2 (.inr (by simp only [Value.ownBlock, ne_eq, Option.some.injEq]; omega))) (show B ≤ w1.heap.size by omega)
 have o4 := own_low (O3.out.kept y2 (.inr (by simp only [Value.ownBlock, ne_eq, Option.some.injEq]; omega))) (show B ≤ w2.heap.size by omega)
 have gf := grown_boxD (grown_trans HG.out G3.out) y2 (by have := HB.out; omega)
 clear hsz hlt hu
 go_wp2
 refine bodyPost_ret (ret_pair20 rfl _ _ U _ _ rfl y1) rfl ?_
 exact ⟨_, _, _, _, rfl, gf, by rw [HB.out]; exact o3, by rw [HB.out]; exact o4⟩
end Go.Proofs.YthodgddoolbenaaGreatDoor
