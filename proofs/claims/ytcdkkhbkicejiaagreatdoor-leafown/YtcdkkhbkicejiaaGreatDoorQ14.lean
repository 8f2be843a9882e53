import Derived.Test.YtcdkkhbkicejiaaGreatDoorQ7
import Derived.Test.YtcdkkhbkicejiaaGreatDoorQ13
import Derived.Test.YtcdkkhbkicejiaaGreatDoorQ12
import Derived.Laws.CopyOwn
namespace Go.Proofs.YtcdkkhbkicejiaaGreatDoor
open Go.RowKit
structure Il (w : World) (a : Option Addr) (L : List It) : Prop where
 row : ∀ i, i < L.length → ∃ b off ao n c bo m d, a = some ⟨b, off, none⟩ ∧ w.cell? ⟨b, off + i * 4, none⟩ = some (.slice ao n c) ∧ w.cell? ⟨b, off + i * 4 + 1, none⟩ = some (.slice bo m d) ∧
  w.cell? ⟨b, off + i * 4 + 2, none⟩ = some (.int .i64 (L.getD i it0).size) ∧ w.cell? ⟨b, off + i * 4 + 3, none⟩ = some (.int .i64 (L.getD i it0).first) ∧
  Byt w ao n c (L.getD i it0).key ∧ n ≤ c ∧ c ≤ 9223372036854775807 ∧ Byt w bo m d (L.getD i it0).val ∧ m ≤ d ∧ d ≤ 9223372036854775807
structure Itb (x : It) : Prop where
 key : Bt x.key
 val : Bt x.val
 s1 : -9223372036854775808 ≤ x.size
 s2 : x.size ≤ 9223372036854775807
 f1 : -9223372036854775808 ≤ x.first
 f2 : x.first ≤ 9223372036854775807
def Ib (L : List It) : Prop := ∀ x ∈ L, Itb x
theorem getD_mem {L : List It} {i : Nat} (h : i < L.length) : L.getD i it0 ∈ L := by
 simp [List.getD, List.getElem?_eq_getElem h]
theorem Ib.at {L : List It} (h : Ib L) {i : Nat} (hi : i < L.length) : Itb (L.getD i it0) := h _ (getD_mem hi)
theorem Il.heap {w w' : World} {a : Option Addr} {L : List It} (h : Il w a L) (e : w'.heap = w.heap) : Il w' a L := by
 refine ⟨fun i hi => ?_⟩
 obtain ⟨b, off, ao, n, c, bo, m, d, h1, h2, h3, h4, h5, h6, h7, h8, h9, h10, h11⟩ := h.row i hi
 have k : ∀ ad : Addr, w'.cell? ad = w.cell? ad := fun ad => World.cell?_of_block (by rw [e])
 exact ⟨b, off, ao, n, c, bo, m, d, h1, (k _).trans h2, (k _).trans h3, (k _).trans h4, (k _).trans h5, h6.heap e, h7, h8, h9.heap e, h10, h11⟩
theorem Il.keptN {w w' : World} {a : Option Addr} {L : List It} (h : Il w a L) (hg : w.grownBy w' none) : Il w' a L := by
 refine ⟨fun i hi => ?_⟩
 obtain ⟨b, off, ao, n, c, bo, m, d, h1, h2, h3, h4, h5, h6, h7, h8, h9, h10, h11⟩ := h.row i hi
 exact ⟨b, off, ao, n, c, bo, m, d, h1, hg.cell h2 (by simp), hg.cell h3 (by simp), hg.cell h4 (by simp), hg.cell h5 (by simp), h6.keptN hg, h7, h8, h9.keptN hg, h10, h11⟩
theorem Il.zero (w : World) (a : Option Addr) : Il w a [] := ⟨fun i hi => by simp at hi⟩
theorem info_bytes : (Tryz.prog.info? 42).map (fun i => (i.zero, i.size, i.bytes)) = some (some (.slice none 0 0), 1, 24) := by kernel_rfl
theorem key_map (L : List It) (i : Nat) : (L.map It.key).getD i [] = (L.getD i it0).key := by
 simp only [List.getD, List.getElem?_map]
 cases L[i]? <;> rfl
theorem commonAll_any (a : Option Addr) (n cap : Nat) (L : List It) (w : World) (hl : Lz w a (L.map It.key)) (hn : L.length = n) (hc : n ≤ cap) (hcap : cap ≤ 9223372036854775807) :
  Calls Tryz.prog 98 #[.slice a n cap] w fun en w' => en = .returned (.int .i64 ((pre L : Nat) : Int)) ∧ w.grownBy w' none := by
 cases L with
 | nil =>
  obtain rfl : n = 0 := by simpa using hn.symm
  refine (commonAll_none a cap w).mono ?_
  rintro en w' ⟨rfl, rfl⟩
  exact ⟨rfl, World.grownBy.refl _ _⟩
 | cons x L =>
  have := commonAll_some a cap x.key (L.map It.key) w hl (by rw [List.length_map]; simp at hn; omega) hcap
  rw [List.length_map] at this
  obtain rfl : L.length + 1 = n := by simpa using hn
  exact this
structure Kr (w0 w : World) (a : Option Addr) (G n i : Nat) : Prop where
 ex : ∃ cur : Array Value, w.heap[G]? = some (.cells cur 42 (0, 0)) ∧ cur.size = n ∧ ∀ j, j < i → ∃ b off ao m c, a = some ⟨b, off, none⟩ ∧ w0.cell? ⟨b, off + j * 4, none⟩ = some (.slice ao m c) ∧ cur[j]? = some (.slice ao m c)
theorem Kr.lt {w0 w : World} {a : Option Addr} {G n i : Nat} (h : Kr w0 w a G n i) : G < w.heap.size := by
 obtain ⟨cur, h1, _⟩ := h.ex
 exact (Array.getElem?_eq_some_iff.1 h1).1
theorem Kr.keptN {w0 w w' : World} {a : Option Addr} {G n i : Nat} (h : Kr w0 w a G n i) (hg : w.grownBy w' none) : Kr w0 w' a G n i := by
 have hl := h.lt
 obtain ⟨cur, h1, h2, h3⟩ := h.ex
 exact ⟨cur, (hg.block G hl (by simp)).trans h1, h2, h3⟩
theorem Kr.frozen {w0 w : World} {a : Option Addr} {G n i : Nat} (h : Kr w0 w a G n i) (j : Nat) : w.frozen? ⟨G, j, none⟩ = false := by
 obtain ⟨cur, h1, _⟩ := h.ex
 exact frozen_of_row w G j _ _ h1
theorem Kr.cell {w0 w : World} {a : Option Addr} {G n i : Nat} (h : Kr w0 w a G n i) (j : Nat) (hj : j < n) : ∃ v, w.cell? ⟨G, j, none⟩ = some v := by
 obtain ⟨cur, h1, h2, _⟩ := h.ex
 exact ⟨cur[j]'(by omega), by rw [cell_of_row w G j _ _ _ h1]; exact Array.getElem?_eq_getElem (by omega)⟩
theorem Kr.set {w0 w : World} {b off : Nat} {G n i : Nat} {ao : Option Addr} {m c : Nat} (h : Kr w0 w (some ⟨b, off, none⟩) G n i) (hi : i < n) (hc : w0.cell? ⟨b, off + i * 4, none⟩ = some (.slice ao m c)) :
  Kr w0 (w.setCell ⟨G, i, none⟩ (.slice ao m c)) (some ⟨b, off, none⟩) G n (i + 1) := by
 obtain ⟨cur, h1, h2, h3⟩ := h.ex
 refine ⟨cur.setIfInBounds i (.slice ao m c), heap_setCell_same w G i cur _ _ h1, by simpa using h2, fun j hj => ?_⟩
 by_cases e : i = j
 ·subst e
  exact ⟨b, off, ao, m, c, rfl, hc, by simp [h2, hi]⟩
 ·obtain ⟨b', off', ao', m', c', k1, k2, k3⟩ := h3 j (by omega)
  exact ⟨b', off', ao', m', c', k1, k2, by rw [Array.getElem?_setIfInBounds_ne e]; exact k3⟩
theorem Kr.lz {w0 w : World} {a : Option Addr} {G n : Nat} {L : List It} (h : Kr w0 w a G n n) (hn : L.length = n) (hl : Il w0 a L) (hg : w0.grownBy w none) : Lz w (some ⟨G, 0, none⟩) (L.map It.key) := by
 obtain ⟨cur, h1, h2, h3⟩ := h.ex
 refine ⟨fun i hi => ?_⟩
 have hi' : i < L.length := by simpa using hi
 obtain ⟨b, off, ao, m, c, k1, k2, k3⟩ := h3 i (by omega)
 obtain ⟨b', off', ao', m', c', bo, m2, d2, q1, q2, q3, q4, q5, q6, q7, q8, _⟩ := hl.row i hi'
 rw [q1] at k1
 simp only [Option.some.injEq, Addr.mk.injEq] at k1
 obtain ⟨rfl, rfl, _⟩ := k1
 rw [q2] at k2
 obtain ⟨rfl, rfl, rfl⟩ : ao' = ao ∧ m' = m ∧ c' = c := by simpa using k2
 refine ⟨G, 0, ao', m', c', rfl, ?_, ?_, q7, q8⟩
 ·rw [Nat.zero_add, cell_of_row w G i _ _ _ h1]; exact k3
 ·rw [key_map]; exact q6.keptN hg
theorem Kr.start {w0 w : World} {a : Option Addr} {base G n : Nat} {xs : List Value} (h : w.ownsRow base 42 1 (.slice (some ⟨G, 0, none⟩) n n) n xs) : Kr w0 w a G n 0 := by
 rcases h.2 with ⟨e, _⟩ | ⟨g', cap', cur, hv, hb, hg, hc, hm, hs, ht⟩
 ·cases e
 ·injection hv with e1 _ e3
  simp only [Option.some.injEq, Addr.mk.injEq] at e1
  obtain ⟨rfl, _⟩ := e1
  subst e3
  exact ⟨cur, hg, by simpa using hs, fun j hj => by omega⟩
set_option maxHeartbeats 2000000 in
set_option maxRecDepth 100000 in
theorem common4_any (a : Option Addr) (n cap : Nat) (L : List It) (w : World) (hl : Il w a L) (hn : L.length = n) (hm : n ≤ 5000) :
  Calls Tryz.prog 27 #[.slice a n cap] w fun en w' => en = .returned (.int .i64 ((pre L : Nat) : Int)) ∧ w.grownBy w' none := by
 obtain ⟨i0, hi, hz0, hz1, hz2⟩ := info_parts info_bytes
 have HL := hid_intro hl
 clear hl
 go_enter Tryz.func27, Tryz.ntmps27
 go_wp2_with (at_make; refine wpList_make_full _ rfl _ _ 26 rfl w.heap.size 42 i0 (.slice none 0 0) 1 Tryz.underlying26 hi hz0 hz1 _ _ _ _ n rfl rfl rfl rfl ?b2 ?b3 (Nat.le_refl _) ?_)
 case b2 => rw [hz2]; omega
 case b3 => unfold maxLen; omega
 intro w0 hown0 hg0
 have HK := hid_intro (Kr.start (w0 := w) (a := a) hown0)
 have HG := hid_intro hg0
 clear hown0 hg0
 go_wp2
 go_loopw [11] (fun si wr => ∃ i : Nat, i ≤ n ∧ si = .int .i64 i ∧ Kr w wr a w.heap.size n i ∧ w.grownBy wr none) (fun si _ => n - (intOf si).toNat)
 case atStart => exact ⟨0, Nat.zero_le _, rfl, HK.out, HG.out⟩
 case round =>
  obtain ⟨i, hi', rfl, hk, hg⟩ := hrel
  have HK1 := hid_intro hk
  have HG1 := hid_intro hg
  clear hk hg HK HG
  by_cases hlt : i < n
  ·obtain ⟨b, off, ao, m, c, bo, m2, d2, rfl, q2, q3, q4, q5, q6, q7, q8, q9, q10, q11⟩ := HL.out.row i (by omega)
   have c0 := HG1.out.cell q2 (by simp)
   have c1 := HG1.out.cell q3 (by simp)
   have c2 := HG1.out.cell q4 (by simp)
   have c3 := HG1.out.cell q5 (by simp)
   have HQ := hid_intro q2
   clear q2 q3 q4 q5 q6 q9
   generalize (L.getD i it0).size = sz at *
   generalize (L.getD i it0).first = fs at *
   have G2 := hid_intro (World.grownBy_alloc wr (.cells #[.slice ao m c, .slice bo m2 d2, .int .i64 sz, .int .i64 fs] 52) none)
   have K2 := hid_intro (HK1.out.keptN G2.out)
   have f2 := K2.out.frozen i
   obtain ⟨v2, e2⟩ := K2.out.cell i hlt
   go_wp2
   go_roundw
   case rel => exact ⟨i + 1, by omega, by go_num, K2.out.set hlt HQ.out, grown_new (grown_trans HG1.out G2.out) (grown_cell _ _ _ _) (Nat.le_refl _)⟩
   case measure => simp [intOf]; omega
  ·have hin : i = n := by omega
   subst hin
   go_wp2_with fail
   refine (commonAll_any _ _ _ L _ (HK1.out.lz hn HL.out HG1.out) hn (Nat.le_refl _) (by omega)).mono ?_
   rintro en w1 ⟨rfl, hg2⟩
   have HG2 := hid_intro (grown_trans HG1.out hg2)
   clear hg2
   go_wp2
   go_ret
   exact ⟨rfl, HG2.out⟩
set_option maxHeartbeats 400000 in
theorem chained_any (s : Int) (w : World) : Calls Tryz.prog 101 #[.int .i64 s] w fun en w' => en = .returned (.bool (decide (512 < s))) ∧ w' = w := by
 go_enter Tryz.func101, Tryz.ntmps101
 go_wp2
 go_ret
 exact ⟨rfl, rfl⟩
set_option maxHeartbeats 400000 in
set_option maxRecDepth 100000 in
theorem tagOf_any (s : Nat) (w : World) (h : s ≤ 262144) : Calls Tryz.prog 100 #[.int .i64 s] w fun en w' => en = .returned (.int .u64 ((if 512 < s then 2 * s + 1 else 2 * s : Nat) : Int)) ∧ w' = w := by
 by_cases h5 : 512 < s
 ·rw [if_pos h5]
  have hd : decide ((512 : Int) < (s : Int)) = true := decide_eq_true (by omega)
  go_enter Tryz.func100, Tryz.ntmps100
  go_wp2_with fail
  refine (chained_any _ _).mono ?_
  rintro en w1 ⟨rfl, rfl⟩
  rw [hd]
  go_wp2
  go_ret
  exact ⟨by go_num, rfl⟩
 ·rw [if_neg h5]
  have hd : decide ((512 : Int) < (s : Int)) = false := decide_eq_false (by omega)
  go_enter Tryz.func100, Tryz.ntmps100
  go_wp2_with fail
  refine (chained_any _ _).mono ?_
  rintro en w1 ⟨rfl, rfl⟩
  rw [hd]
  go_wp2
  go_ret
  exact ⟨by go_num, rfl⟩
theorem lg_int (s : Int) : ((lg s : Nat) : Int) = min (max s 0) 262144 := by
 unfold lg
 split
 ·omega
 ·split <;> omega
set_option maxHeartbeats 1000000 in
set_option maxRecDepth 100000 in
theorem cellSize_any (ao : Option Addr) (n c : Nat) (bo : Option Addr) (m d : Nat) (s f : Int) (p : Nat) (w : World) (x : It) (hk : x.key.length = n) (hs : x.size = s) (hp : p ≤ n) (hn : n ≤ 1000000) :
  Calls Tryz.prog 29 #[.agg #[.slice ao n c, .slice bo m d, .int .i64 s, .int .i64 f], .int .i64 p] w fun en w' => en = .returned (.int .i64 ((cl p x : Nat) : Int)) ∧ w.grownBy w' none := by
 obtain ⟨r, hr⟩ : ∃ r, n - p = r := ⟨_, rfl⟩
 have hr' : (n : Int) - (p : Int) = (r : Int) := by omega
 obtain ⟨M, hM⟩ : ∃ M, (if (0 : Int) > s then 0 else s) = M := ⟨_, rfl⟩
 obtain ⟨q, hq⟩ : ∃ q, lg s = q := ⟨_, rfl⟩
 have hq2 : (if (262144 : Int) < M then 262144 else M) = (q : Int) := by
  rw [← hq, lg_int, ← hM]
  split <;> split <;> omega
 have hmax : ∀ (ts : Array TypeId) (t : TypeId) (W : World), (Builtin.max_ ts t #[.int .i64 s, .int .i64 0]).run Tryz.prog W = .ok (.int .i64 M) W := fun ts t W => by rw [run_max_int2, hM]
 have hmin : ∀ (ts : Array TypeId) (t : TypeId) (W : World), (Builtin.min_ ts t #[.int .i64 M, .int .i64 262144]).run Tryz.prog W = .ok (.int .i64 q) W := fun ts t W => by rw [run_min_int2, hq2]
 have hlg : q ≤ 262144 := by rw [← hq]; exact lg_le s
 have HC : Hid (cl p x = vl r + r + vl (tg s) + tl s) := by show _ = _; unfold cl; rw [hk, hs, hr]
 have htg : (if 512 < q then 2 * q + 1 else 2 * q) = tg s := by unfold tg; rw [hq]
 have htl : tl s = if 512 < q then 4 else q := by unfold tl; rw [hq]
 have htt := tg_lt s
 have hv1 : (vform r).length ≤ 10 := vl_le r
 have hv2 : (vform (tg s)).length ≤ 10 := vl_le (tg s)
 clear hM hq hq2
 generalize tg s = g at *
 generalize tl s = l at *
 have HT := hid_intro htg
 have HTL := hid_intro htl
 have HR := hid_intro hr
 clear htg htl hr
 have G1 := hid_intro (World.grownBy_alloc w (.cells #[.slice ao n c, .slice bo m d, .int .i64 s, .int .i64 f] 52) none)
 go_enter Tryz.func29, Tryz.ntmps29
 go_wp2_with fail
 refine (vlen_calls r _ (by omega)).mono ?_
 rintro en w1 ⟨rfl, rfl⟩
 go_wp2_with fail
 refine (tagOf_any q _ hlg).mono ?_
 rintro en w1 ⟨rfl, rfl⟩
 rw [HT.out]
 go_wp2_with fail
 refine (vlen_calls g _ (by omega)).mono ?_
 rintro en w1 ⟨rfl, rfl⟩
 go_wp2_with fail
 refine (chained_any _ _).mono ?_
 rintro en w1 ⟨rfl, rfl⟩
 by_cases h5 : 512 < q
 ·have hd : decide ((512 : Int) < (q : Int)) = true := decide_eq_true (by omega)
  rw [hd]
  go_wp2
  go_ret
  refine ⟨ret_int ?_, G1.out⟩
  rw [HC.out, HTL.out, if_pos h5]
  simp only [vl]
  go_num
 ·have hd : decide ((512 : Int) < (q : Int)) = false := decide_eq_false (by omega)
  rw [hd]
  go_wp2
  go_ret
  refine ⟨ret_int ?_, G1.out⟩
  rw [HC.out, HTL.out, if_neg h5]
  simp only [vl]
  go_num
theorem size_int {L : List It} (hm : L.length ≤ 5000) (hk : ∀ x ∈ L, x.key.length ≤ 1000000) : ∀ i, i ≤ L.length → sums (pre L) (L.take i) ≤ 5005000000 := by
 intro i hi
 have h := sums_le (pre L) 1000000 (L.take i) (fun x hx => hk x (List.mem_of_mem_take hx))
 rw [List.length_take] at h
 have h2 : min i L.length * (1000000 + 534) ≤ 5000 * (1000000 + 534) := Nat.mul_le_mul_right _ (by omega)
 omega
set_option maxHeartbeats 2000000 in
set_option maxRecDepth 100000 in
theorem size_any (a : Option Addr) (n cap : Nat) (L : List It) (w : World) (hl : Il w a L) (hn : L.length = n) (hm : n ≤ 5000) (hk : ∀ x ∈ L, x.key.length ≤ 1000000) :
  Calls Tryz.prog 14 #[.slice a n cap] w fun en w' => en = .returned (.int .i64 ((size L : Nat) : Int)) ∧ w.grownBy w' none := by
 have HL := hid_intro hl
 have HP : Hid (∀ x ∈ L, pre L ≤ x.key.length) := fun x hx => (pre_each x hx).1
 have HS := hid_intro (size_int (by omega) hk)
 have HM : Hid (size L = 3 + vl (pre L) + pre L + sums (pre L) L) := rfl
 have HN := hid_intro (fun i h => sums_snoc (pre L) L i h)
 have hv := vl_le (pre L)
 have hpl : pre L ≤ 1000000 := by
  cases L with
  | nil => exact Nat.zero_le _
  | cons x L => exact Nat.le_trans (pre_each x List.mem_cons_self).1 (hk x List.mem_cons_self)
 have HK := hid_intro hk
 clear hl hk
 go_enter Tryz.func14, Tryz.ntmps14
 go_wp2_with fail
 refine (common4_any a n cap L _ HL.out hn hm).mono ?_
 rintro en w1 ⟨rfl, hg1⟩
 have HG := hid_intro hg1
 clear hg1
 generalize pre L = p at *
 go_wp2_with fail
 refine (vlen_calls p _ (by omega)).mono ?_
 rintro en w2 ⟨rfl, rfl⟩
 have hv' : (vform p).length ≤ 10 := hv
 generalize hvv : (vform p).length = v at *
 have HV : Hid (vl p = v) := hvv
 clear hvv hv
 go_wp2
 go_loopw [4, 6, 17] (fun sn _ si wr => ∃ i : Nat, i ≤ n ∧ si = .int .i64 i ∧ sn = .int .i64 ((3 + v + p + sums p (L.take i) : Nat) : Int) ∧ w.grownBy wr none) (fun _ _ si _ => n - (intOf si).toNat)
 case atStart => exact ⟨0, Nat.zero_le _, rfl, by simp [sums], HG.out⟩
 case round =>
  obtain ⟨i, hi, rfl, rfl, hg⟩ := hrel
  have HG1 := hid_intro hg
  have b1 := HS.out i (by omega)
  clear hg HG
  by_cases hlt : i < n
  ·obtain ⟨b, off, ao, m, c, bo, m2, d2, rfl, q2, q3, q4, q5, q6, q7, q8, q9, q10, q11⟩ := HL.out.row i (by omega)
   have c0 := HG1.out.cell q2 (by simp)
   have c1 := HG1.out.cell q3 (by simp)
   have c2 := HG1.out.cell q4 (by simp)
   have c3 := HG1.out.cell q5 (by simp)
   have hx := getD_mem (L := L) (i := i) (by omega)
   have hm1 := q6.len
   have hp1 := HP.out _ hx
   have hk1 := HK.out _ hx
   have b2 := cl_le p (L.getD i it0)
   have HX : Hid (sums p (L.take (i + 1)) = sums p (L.take i) + (2 + cl p (L.getD i it0))) := HN.out i (by omega)
   have HC := hid_intro (fun (W : World) => cellSize_any ao m c bo m2 d2 (L.getD i it0).size (L.getD i it0).first p W (L.getD i it0) hm1 rfl (by omega) (by omega))
   clear q2 q3 q4 q5 q6 q9
   generalize (L.getD i it0).size = sz at *
   generalize (L.getD i it0).first = fs at *
   generalize cl p (L.getD i it0) = C at *
   generalize sums p (L.take i) = U at *
   have G2 := hid_intro (World.grownBy_alloc wr (.cells #[.slice ao m c, .slice bo m2 d2, .int .i64 sz, .int .i64 fs] 52) none)
   clear hm1 hp1 hx
   go_wp2_with fail
   refine (HC.out _).mono ?_
   rintro en w2 ⟨rfl, hg2⟩
   have HG2 := hid_intro (grown_trans (grown_trans HG1.out G2.out) hg2)
   clear hg2 G2
   go_wp2
   go_roundw
   case rel => exact ⟨i + 1, by omega, by go_num, by rw [HX.out]; go_num, HG2.out⟩
   case measure => simp [intOf]; omega
  ·have hin : i = n := by omega
   subst hin
   go_wp2
   go_ret
   refine ⟨ret_int ?_, HG1.out⟩
   rw [HM.out, HV.out, ← hn, List.take_length]
theorem any_take {P : It → Bool} {L : List It} {i : Nat} (h : i < L.length) (k : (L.take i).any P = false) (e : P (L.getD i it0) = false) : (L.take (i + 1)).any P = false := by
 have hg : L.getD i it0 = L[i] := by simp [List.getD, List.getElem?_eq_getElem h]
 rw [List.take_add_one, List.getElem?_eq_getElem h, List.any_append, k]
 rw [hg] at e
 simp [e]
theorem any_yes {P : It → Bool} {L : List It} {i : Nat} (h : i < L.length) (e : P (L.getD i it0) = true) : L.any P = true := List.any_eq_true.2 ⟨_, getD_mem h, e⟩
set_option maxHeartbeats 1000000 in
set_option maxRecDepth 100000 in
theorem wrongSize_any (ao : Option Addr) (n c : Nat) (bo : Option Addr) (m d : Nat) (s f : Int) (w : World) (x : It) (hk : x.key.length = n) (hs : x.size = s) :
  Calls Tryz.prog 32 #[.agg #[.slice ao n c, .slice bo m d, .int .i64 s, .int .i64 f]] w fun en w' => en = .returned (.bool (ws x)) ∧ w.grownBy w' none := by
 have HW : Hid (ws x = (!(valid n) || decide (s < 0) || decide (262144 < s))) := by show _ = _; unfold ws valid; rw [hk, hs]
 have G1 := hid_intro (World.grownBy_alloc w (.cells #[.slice ao n c, .slice bo m d, .int .i64 s, .int .i64 f] 52) none)
 go_enter Tryz.func32, Tryz.ntmps32
 go_wp2_with fail
 refine (valid_any _ _ _ _).mono ?_
 rintro en w1 ⟨rfl, rfl⟩
 generalize valid n = v at *
 cases v with
 | false =>
  go_wp2
  go_ret
  exact ⟨by rw [HW.out]; rfl, G1.out⟩
 | true =>
  by_cases h0 : s < 0
  ·go_wp2
   go_ret
   exact ⟨by rw [HW.out]; simp [h0], G1.out⟩
  ·go_wp2
   go_ret
   exact ⟨by rw [HW.out]; simp, G1.out⟩
set_option maxHeartbeats 1000000 in
set_option maxRecDepth 100000 in
theorem wrongValue_any (ao : Option Addr) (n c : Nat) (bo : Option Addr) (m d : Nat) (s f : Int) (w : World) (x : It) (hv : x.val.length = m) (hs : x.size = s) (hf : x.first = f) :
  Calls Tryz.prog 33 #[.agg #[.slice ao n c, .slice bo m d, .int .i64 s, .int .i64 f]] w fun en w' => en = .returned (.bool (wv x)) ∧ w.grownBy w' none := by
 have HW : Hid (wv x = if 512 < s then decide (m ≠ 0) || decide (f < 2) || decide (524287 ≤ f) else decide ((m : Int) ≠ s) || decide (f ≠ 0)) := by show _ = _; unfold wv; rw [hv, hs, hf]
 have G1 := hid_intro (World.grownBy_alloc w (.cells #[.slice ao n c, .slice bo m d, .int .i64 s, .int .i64 f] 52) none)
 go_enter Tryz.func33, Tryz.ntmps33
 go_wp2_with fail
 refine (chained_any _ _).mono ?_
 rintro en w1 ⟨rfl, rfl⟩
 by_cases h5 : 512 < s
 ·rw [decide_eq_true h5]
  rw [if_pos h5] at HW
  by_cases h0 : m = 0
  ·subst h0
   by_cases h2 : f < 2
   ·go_wp2
    go_ret
    exact ⟨by rw [HW.out]; simp [h2], G1.out⟩
   ·go_wp2
    go_ret
    exact ⟨by rw [HW.out]; simp, G1.out⟩
  ·go_wp2
   go_ret
   exact ⟨by rw [HW.out]; simp [h0], G1.out⟩
 ·rw [decide_eq_false h5]
  rw [if_neg h5] at HW
  by_cases h0 : (m : Int) = s
  ·go_wp2
   go_ret
   refine ⟨?_, G1.out⟩
   rw [HW.out]
   by_cases hz : f = 0 <;> simp [h0, hz]
  ·go_wp2
   go_ret
   exact ⟨by rw [HW.out]; simp [h0], G1.out⟩
set_option maxHeartbeats 2000000 in
set_option maxRecDepth 100000 in
theorem index_wrongSize (a : Option Addr) (n cap : Nat) (L : List It) (w : World) (hl : Il w a L) (hn : L.length = n) (hm : n ≤ 5000) :
  Calls Tryz.prog 102 #[.slice a n cap, .func (.func 32) #[] #[]] w fun en w' => (∃ r : Int, en = .returned (.int .i64 r) ∧ (r < 0 ↔ L.any ws = false)) ∧ w.grownBy w' none := by
 have HL := hid_intro hl
 clear hl
 go_enter Tryz.func102, Tryz.ntmps102
 go_wp2
 go_loopw [5, 8] (fun _ si wr => ∃ i : Nat, i ≤ n ∧ si = .int .i64 i ∧ (L.take i).any ws = false ∧ w.grownBy wr none) (fun _ si _ => n - (intOf si).toNat)
 case atStart => exact ⟨0, Nat.zero_le _, rfl, by simp, World.grownBy.refl _ _⟩
 case round =>
  obtain ⟨i, hi, rfl, ha, hg⟩ := hrel
  have HG1 := hid_intro hg
  have HA := hid_intro ha
  clear hg ha
  by_cases hlt : i < n
  ·obtain ⟨b, off, ao, m, c, bo, m2, d2, rfl, q2, q3, q4, q5, q6, q7, q8, q9, q10, q11⟩ := HL.out.row i (by omega)
   have c0 := HG1.out.cell q2 (by simp)
   have c1 := HG1.out.cell q3 (by simp)
   have c2 := HG1.out.cell q4 (by simp)
   have c3 := HG1.out.cell q5 (by simp)
   have HX : Hid (ws (L.getD i it0) = false → (L.take (i + 1)).any ws = false) := fun e => any_take (by omega) HA.out e
   have HY : Hid (ws (L.getD i it0) = true → L.any ws = true) := fun e => any_yes (by omega) e
   have HC := hid_intro (fun (W : World) => wrongSize_any ao m c bo m2 d2 (L.getD i it0).size (L.getD i it0).first W (L.getD i it0) q6.len rfl)
   clear q2 q3 q4 q5 q6 q9
   generalize (L.getD i it0).size = sz at *
   generalize (L.getD i it0).first = fs at *
   generalize ws (L.getD i it0) = bb at *
   go_wp2_with fail
   refine (HC.out _).mono ?_
   rintro en w2 ⟨rfl, hg2⟩
   have HG2 := hid_intro (grown_trans HG1.out hg2)
   clear hg2
   cases bb with
   | true =>
    have HY1 := hid_intro (HY.out rfl)
    clear HX HY
    go_wp2
    go_ret
    refine ⟨⟨_, rfl, ?_⟩, HG2.out⟩
    rw [HY1.out]
    simp
   | false =>
    have HX1 := hid_intro (HX.out rfl)
    clear HX HY
    go_wp2
    go_roundw
    case rel => exact ⟨i + 1, by omega, by go_num, HX1.out, HG2.out⟩
    case measure => simp [intOf]; omega
  ·have hin : i = n := by omega
   subst hin
   go_wp2
   go_ret
   refine ⟨⟨-1, rfl, ?_⟩, HG1.out⟩
   have := HA.out
   rw [← hn, List.take_length] at this
   rw [this]
   simp
set_option maxHeartbeats 1000000 in
set_option maxRecDepth 100000 in
theorem contains_wrongSize (a : Option Addr) (n cap : Nat) (L : List It) (w : World) (hl : Il w a L) (hn : L.length = n) (hm : n ≤ 5000) :
  Calls Tryz.prog 31 #[.slice a n cap, .func (.func 32) #[] #[]] w fun en w' => en = .returned (.bool (L.any ws)) ∧ w.grownBy w' none := by
 go_enter Tryz.func31, Tryz.ntmps31
 go_wp2_with fail
 refine (index_wrongSize a n cap L _ hl hn hm).mono ?_
 rintro en w1 ⟨⟨r, rfl, hr⟩, hg⟩
 have HR := hid_intro hr
 have HG := hid_intro hg
 clear hr hg hl
 by_cases h0 : r < 0
 ·go_wp2
  go_ret
  exact ⟨by rw [HR.out.1 h0]; simp [h0], HG.out⟩
 ·have this : Hid (L.any ws = true) := by
   show _ = _
   cases hb : L.any ws with
   | true => rfl
   | false => exact absurd (HR.out.2 hb) h0
  go_wp2
  go_ret
  exact ⟨by rw [this.out]; rfl, HG.out⟩
set_option maxHeartbeats 2000000 in
set_option maxRecDepth 100000 in
theorem index_wrongValue (a : Option Addr) (n cap : Nat) (L : List It) (w : World) (hl : Il w a L) (hn : L.length = n) (hm : n ≤ 5000) :
  Calls Tryz.prog 102 #[.slice a n cap, .func (.func 33) #[] #[]] w fun en w' => (∃ r : Int, en = .returned (.int .i64 r) ∧ (r < 0 ↔ L.any wv = false)) ∧ w.grownBy w' none := by
 have HL := hid_intro hl
 clear hl
 go_enter Tryz.func102, Tryz.ntmps102
 go_wp2
 go_loopw [5, 8] (fun _ si wr => ∃ i : Nat, i ≤ n ∧ si = .int .i64 i ∧ (L.take i).any wv = false ∧ w.grownBy wr none) (fun _ si _ => n - (intOf si).toNat)
 case atStart => exact ⟨0, Nat.zero_le _, rfl, by simp, World.grownBy.refl _ _⟩
 case round =>
  obtain ⟨i, hi, rfl, ha, hg⟩ := hrel
  have HG1 := hid_intro hg
  have HA := hid_intro ha
  clear hg ha
  by_cases hlt : i < n
  ·obtain ⟨b, off, ao, m, c, bo, m2, d2, rfl, q2, q3, q4, q5, q6, q7, q8, q9, q10, q11⟩ := HL.out.row i (by omega)
   have c0 := HG1.out.cell q2 (by simp)
   have c1 := HG1.out.cell q3 (by simp)
   have c2 := HG1.out.cell q4 (by simp)
   have c3 := HG1.out.cell q5 (by simp)
   have HX : Hid (wv (L.getD i it0) = false → (L.take (i + 1)).any wv = false) := fun e => any_take (by omega) HA.out e
   have HY : Hid (wv (L.getD i it0) = true → L.any wv = true) := fun e => any_yes (by omega) e
   have HC := hid_intro (fun (W : World) => wrongValue_any ao m c bo m2 d2 (L.getD i it0).size (L.getD i it0).first W (L.getD i it0) q9.len rfl rfl)
   clear q2 q3 q4 q5 q6 q9
   generalize (L.getD i it0).size = sz at *
   generalize (L.getD i it0).first = fs at *
   generalize wv (L.getD i it0) = bb at *
   go_wp2_with fail
   refine (HC.out _).mono ?_
   rintro en w2 ⟨rfl, hg2⟩
   have HG2 := hid_intro (grown_trans HG1.out hg2)
   clear hg2
   cases bb with
   | true =>
    have HY1 := hid_intro (HY.out rfl)
    clear HX HY
    go_wp2
    go_ret
    refine ⟨⟨_, rfl, ?_⟩, HG2.out⟩
    rw [HY1.out]
    simp
   | false =>
    have HX1 := hid_intro (HX.out rfl)
    clear HX HY
    go_wp2
    go_roundw
    case rel => exact ⟨i + 1, by omega, by go_num, HX1.out, HG2.out⟩
    case measure => simp [intOf]; omega
  ·have hin : i = n := by omega
   subst hin
   go_wp2
   go_ret
   refine ⟨⟨-1, rfl, ?_⟩, HG1.out⟩
   have := HA.out
   rw [← hn, List.take_length] at this
   rw [this]
   simp
set_option maxHeartbeats 1000000 in
set_option maxRecDepth 100000 in
theorem contains_wrongValue (a : Option Addr) (n cap : Nat) (L : List It) (w : World) (hl : Il w a L) (hn : L.length = n) (hm : n ≤ 5000) :
  Calls Tryz.prog 31 #[.slice a n cap, .func (.func 33) #[] #[]] w fun en w' => en = .returned (.bool (L.any wv)) ∧ w.grownBy w' none := by
 go_enter Tryz.func31, Tryz.ntmps31
 go_wp2_with fail
 refine (index_wrongValue a n cap L _ hl hn hm).mono ?_
 rintro en w1 ⟨⟨r, rfl, hr⟩, hg⟩
 have HR := hid_intro hr
 have HG := hid_intro hg
 clear hr hg hl
 by_cases h0 : r < 0
 ·go_wp2
  go_ret
  exact ⟨by rw [HR.out.1 h0]; simp [h0], HG.out⟩
 ·have this : Hid (L.any wv = true) := by
   show _ = _
   cases hb : L.any wv with
   | true => rfl
   | false => exact absurd (HR.out.2 hb) h0
  go_wp2
  go_ret
  exact ⟨by rw [this.out]; rfl, HG.out⟩
set_option maxHeartbeats 2000000 in
set_option maxRecDepth 100000 in
theorem rising_any (a : Option Addr) (n cap : Nat) (L : List It) (w : World) (hl : Il w a L) (hb : Ib L) (hn : L.length = n) (hm : n ≤ 5000) :
  Calls Tryz.prog 34 #[.slice a n cap] w fun en w' => en = .returned (.bool (ups L)) ∧ w.grownBy w' none := by
 have HL := hid_intro hl
 have HB := hid_intro hb
 clear hl hb
 go_enter Tryz.func34, Tryz.ntmps34
 go_wp2
 go_loopw [3] (fun si wr => ∃ i : Nat, i ≤ n ∧ si = .int .i64 ((i + 1 : Nat) : Int) ∧ (∀ j, j < i → j + 1 < n → cmpZ (L.getD j it0).key (L.getD (j + 1) it0).key < 0) ∧ Qt w wr) (fun si _ => n + 1 - (intOf si).toNat)
 case atStart => exact ⟨0, Nat.zero_le _, rfl, fun j hj => by omega, Qt.refl _⟩
 case round =>
  obtain ⟨i, hi, rfl, ha, hq⟩ := hrel
  have HQ := hid_intro hq
  have HA := hid_intro ha
  clear hq ha
  by_cases hlt : i + 1 < n
  ·obtain ⟨b, off, ao, m, c, bo, m2, d2, rfl, q2, q3, q4, q5, q6, q7, q8, q9, q10, q11⟩ := HL.out.row i (by omega)
   obtain ⟨b', off', ao', m', c', bo', m2', d2', e1, r2, r3, r4, r5, r6, r7, r8, r9, r10, r11⟩ := HL.out.row (i + 1) (by omega)
   simp only [Option.some.injEq, Addr.mk.injEq] at e1
   obtain ⟨rfl, rfl, _⟩ := e1
   have c0 := (HQ.out.cell _).trans q2
   have c1 := (HQ.out.cell _).trans r2
   have HC := hid_intro (fun (W : World) (hW : W.heap = wr.heap) => compare_any ao ao' m m' c c' _ _ W (q6.heap (hW.trans HQ.out.heap)) (r6.heap (hW.trans HQ.out.heap)) (HB.out.at (by omega)).key (HB.out.at (by omega)).key)
   have HD : Hid (cmpZ (L.getD i it0).key (L.getD (i + 1) it0).key < 0 → ∀ j, j < i + 1 → j + 1 < n → cmpZ (L.getD j it0).key (L.getD (j + 1) it0).key < 0) := by
    intro h j hj hj2
    by_cases e : j = i
    ·subst e; exact h
    ·exact HA.out j (by omega) hj2
   have HE : Hid (¬ cmpZ (L.getD i it0).key (L.getD (i + 1) it0).key < 0 → ups L = false) := by
    intro h
    cases hu : ups L with
    | false => rfl
    | true => exact absurd ((ups_iff L).1 hu i (by omega)) h
   clear q2 q3 q4 q5 q6 q9 r2 r3 r4 r5 r6 r9
   generalize cmpZ (L.getD i it0).key (L.getD (i + 1) it0).key = z at *
   have g1 : ((i + 1 : Nat) : Int) < (n : Int) := by omega
   have g0 : (0 : Int) ≤ ((i + 1 : Nat) : Int) := by omega
   have g2 : ((i + 1 : Nat) : Int) - 1 = (i : Int) := by omega
   have g3 : (i : Int) < (n : Int) := by omega
   have g4 : (0 : Int) ≤ (i : Int) := by omega
   obtain ⟨j, hj⟩ : ∃ j, i + 1 = j := ⟨_, rfl⟩
   rw [hj] at g1 g0 g2 c1 ⊢
   have HJ := hid_intro hj
   clear hj
   by_cases hz : z < 0
   ·have hz' : decide (0 ≤ z) = false := decide_eq_false (by omega)
    go_wp2
    go_quiet ((go_at_call 104; exact Calls.quiet_of_same (HC.out _ rfl)))
    go_wp2
    go_roundw
    case rel => exact ⟨i + 1, by omega, by have := HJ.out; go_num, HD.out hz, HQ.out.trans (Qt.drewN _ _)⟩
    case measure => have := HJ.out; simp [intOf]; omega
   ·have hz' : decide (0 ≤ z) = true := decide_eq_true (by omega)
    go_wp2
    go_quiet ((go_at_call 104; exact Calls.quiet_of_same (HC.out _ rfl)))
    go_wp2
    go_ret
    exact ⟨by rw [HE.out hz]; rfl, (HQ.out.trans (Qt.drewN _ _)).grown _⟩
  ·have g1 : ¬ ((i + 1 : Nat) : Int) < (n : Int) := by omega
   obtain ⟨j, hj⟩ : ∃ j, i + 1 = j := ⟨_, rfl⟩
   rw [hj] at g1 ⊢
   have HU : Hid (ups L = true) := (ups_iff L).2 (fun k hk => HA.out k (by omega) (by omega))
   go_wp2
   go_ret
   exact ⟨by rw [HU.out]; rfl, HQ.out.grown _⟩
set_option maxHeartbeats 2000000 in
set_option maxRecDepth 100000 in
theorem errorOf_any (a : Option Addr) (n cap : Nat) (L : List It) (w : World) (hl : Il w a L) (hb : Ib L) (hn : L.length = n) (hm : n ≤ 5000) :
  Calls Tryz.prog 18 #[.slice a n cap] w fun en w' => en = .returned (.int .i64 (wrong L)) ∧ w.grownBy w' none := by
 have HW : Hid (wrong L = if n = 0 then 40 else if L.any ws then 41 else if L.any wv then 40 else if ups L then 0 else 30) := by show _ = _; unfold wrong; rw [hn]
 have HL := hid_intro hl
 clear hl
 by_cases h0 : n = 0
 ·rw [if_pos h0] at HW
  go_enter Tryz.func18, Tryz.ntmps18
  go_wp2
  go_ret
  exact ⟨by rw [HW.out]; rfl, World.grownBy.refl _ _⟩
 ·rw [if_neg h0] at HW
  go_enter Tryz.func18, Tryz.ntmps18
  go_wp2_with fail
  refine (contains_wrongSize a n cap L _ HL.out hn hm).mono ?_
  rintro en w1 ⟨rfl, hg1⟩
  have G1 := hid_intro hg1
  clear hg1
  generalize L.any ws = b1 at *
  cases b1 with
  | true =>
   go_wp2
   go_ret
   exact ⟨by rw [HW.out]; rfl, G1.out⟩
  | false =>
   go_wp2_with fail
   refine (contains_wrongValue a n cap L _ (HL.out.keptN G1.out) hn hm).mono ?_
   rintro en w2 ⟨rfl, hg2⟩
   have G2 := hid_intro (grown_trans G1.out hg2)
   clear hg2 G1
   generalize L.any wv = b2 at *
   cases b2 with
   | true =>
    go_wp2
    go_ret
    exact ⟨by rw [HW.out]; rfl, G2.out⟩
   | false =>
    go_wp2_with fail
    refine (rising_any a n cap L _ (HL.out.keptN G2.out) hb hn hm).mono ?_
    rintro en w3 ⟨rfl, hg3⟩
    have G3 := hid_intro (grown_trans G2.out hg3)
    clear hg3 G2
    generalize ups L = b3 at *
    cases b3 with
    | true =>
     go_wp2
     go_ret
     exact ⟨by rw [HW.out]; rfl, G3.out⟩
    | false =>
     go_wp2
     go_ret
     exact ⟨by rw [HW.out]; rfl, G3.out⟩
end Go.Proofs.YtcdkkhbkicejiaaGreatDoor
