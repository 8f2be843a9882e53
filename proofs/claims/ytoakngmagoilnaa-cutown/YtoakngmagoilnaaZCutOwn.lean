import Derived.Test.YtoakngmagoilnaaQ23
import Derived.Test.YtoakngmagoilnaaQ24
import Derived.WalkKit
import Derived.ProofKit
import Derived.OpenShut
import Derived.ShutString
import Derived.ChangeOld
import Derived.Below
import Derived.SizedLaws
import Derived.Deep.Slices
import Derived.Test.YtoakngmagoilnaaRows
namespace Go.Proofs.Ytoakngmagoilnaa
open Go.RowKit
theorem place9 (x : Int) (n : Nat) (h : 0 < n) : ∃ (k : Nat) (y : Int), k < n ∧ Int.tmod x (n : Int) = y ∧ -(n : Int) < y ∧ y < (n : Int) ∧ Int.tmod (y + (n : Int)) (n : Int) = (k : Int) := by
 have h1 := Int.tmod_lt_of_pos x (show (0 : Int) < (n : Int) by omega)
 have h2 := Int.lt_tmod_of_pos x (show (0 : Int) < (n : Int) by omega)
 have h3 := Int.emod_nonneg (Int.tmod x n + n) (show (n : Int) ≠ 0 by omega)
 have h4 := Int.emod_lt_of_pos (Int.tmod x n + n) (show (0 : Int) < (n : Int) by omega)
 refine ⟨((Int.tmod x n + n) % n).toNat, _, by omega, rfl, h2, h1, ?_⟩
 rw [Int.tmod_eq_emod_of_nonneg (by omega)]
 omega
structure Own9 (wr : World) (A B n n1 : Nat) (t : Nat) (LL : List It) (KK : List (List Int)) : Prop where
 ll : LL.length = n + 1
 kl : KK.length = n1 + 1
 il : Il wr (some ⟨A, 0, none⟩) LL
 ib : Ib LL
 ik : ∀ z ∈ LL, z.key.length ≤ 140737488351232 ∧ z.val.length ≤ 140737488351232
 lz : Lz wr (some ⟨B, 0, none⟩) KK
 lb : Lb KK
 lk : ∀ z ∈ KK, z.length ≤ 140737488351232 + 5 * t
 ra : ∃ cur, wr.heap[A]? = some (.cells cur 28 (0, 0))
 rb : ∃ cur, wr.heap[B]? = some (.cells cur 26 (0, 0))
theorem Own9.keptN {w w' : World} {A B n n1 t : Nat} {LL : List It} {KK : List (List Int)} (h : Own9 w A B n n1 t LL KK) (hg : w.grownBy w' none) : Own9 w' A B n n1 t LL KK := by
 obtain ⟨ca, hA⟩ := h.ra
 obtain ⟨cb, hB⟩ := h.rb
 exact ⟨h.ll, h.kl, h.il.keptN hg, h.ib, h.ik, h.lz.keptN hg, h.lb, h.lk, ⟨ca, (hg.block A (Array.getElem?_eq_some_iff.1 hA).1 (by simp)).trans hA⟩, ⟨cb, (hg.block B (Array.getElem?_eq_some_iff.1 hB).1 (by simp)).trans hB⟩⟩
theorem Own9.ne {w : World} {A B n n1 t : Nat} {LL : List It} {KK : List (List Int)} (h : Own9 w A B n n1 t LL KK) : A ≠ B := by
 obtain ⟨ca, hA⟩ := h.ra
 obtain ⟨cb, hB⟩ := h.rb
 intro e
 subst e
 rw [hA] at hB
 simp at hB
theorem mem_set9 {L : List It} {k : Nat} {y z : It} (h : z ∈ L.set k y) : z = y ∨ z ∈ L := by
 rcases List.mem_or_eq_of_mem_set h with h | h
 ·exact .inr h
 ·exact .inl h
theorem Own9.size {w : World} {A B n n1 t k : Nat} {LL : List It} {KK : List (List Int)} (h : Own9 w A B n n1 t LL KK) (hk : k < n) (v : Int) (h1 : -9223372036854775808 ≤ v) (h2 : v ≤ 9223372036854775807) :
  ∃ LL', Own9 (w.setCell ⟨A, k * 4 + 2, none⟩ (.int .i64 v)) A B n n1 t LL' KK := by
 have hkl : k < LL.length := by rw [h.ll]; omega
 obtain ⟨b, off, ao, m, c, bo, m2, d, e, q2, q3, q4, q5, _⟩ := h.il.row k hkl
 simp only [Option.some.injEq, Addr.mk.injEq] at e
 obtain ⟨rfl, rfl, _⟩ := e
 rw [Nat.zero_add] at q4
 have nu : ∀ z : Int, (Value.int .i64 (LL.getD k it0).size) ≠ .int .u8 z := fun z e => by cases e
 obtain ⟨ca, hA⟩ := h.ra
 obtain ⟨cb, hB⟩ := h.rb
 have hne := h.ne
 refine ⟨LL.set k { LL.getD k it0 with size := v }, by rw [List.length_set]; exact h.ll, h.kl, h.il.setSize hkl v, ?_, ?_, h.lz.far hne.symm q4 nu, h.lb, h.lk, ?_, ?_⟩
 ·intro z hz
  rcases mem_set9 hz with rfl | hz
  ·have this := h.ib (LL.getD k it0) (getD_mem hkl)
   exact ⟨this.key, this.val, h1, h2, this.f1, this.f2⟩
  ·exact h.ib z hz
 ·intro z hz
  rcases mem_set9 hz with rfl | hz
  ·exact h.ik (LL.getD k it0) (getD_mem hkl)
  ·exact h.ik z hz
 ·exact ⟨_, heap_setCell_same w A _ ca _ _ hA⟩
 ·exact ⟨cb, (heap_setCell_other w _ B _ (by intro e; exact hne e.symm)).trans hB⟩
theorem Own9.sep {w : World} {A B n n1 t k : Nat} {LL : List It} {KK : List (List Int)} (h : Own9 w A B n n1 t LL KK) (hk : k < n1) {ao : Option Addr} {m c : Nat} {x : List Int} (hx : Byt w ao m c x) (hm : m ≤ c) (hc : c ≤ 9223372036854775807) (hbt : Bt x) (hl : x.length ≤ 140737488351232 + 5 * (t + 1)) :
  ∃ KK', Own9 (w.setCell ⟨B, k, none⟩ (.slice ao m c)) A B n n1 (t + 1) LL KK' := by
 have hkl : k < KK.length := by rw [h.kl]; omega
 obtain ⟨b, off, ao1, m1, c1, e, q2, _⟩ := h.lz.row k hkl
 simp only [Option.some.injEq, Addr.mk.injEq] at e
 obtain ⟨rfl, rfl, _⟩ := e
 rw [Nat.zero_add] at q2
 have nu : ∀ z : Int, (Value.slice ao1 m1 c1) ≠ .int .u8 z := fun z e => by cases e
 obtain ⟨ca, hA⟩ := h.ra
 obtain ⟨cb, hB⟩ := h.rb
 have hne := h.ne
 refine ⟨KK.set k x, h.ll, by rw [List.length_set]; exact h.kl, h.il.far hne q2 nu, h.ib, h.ik, h.lz.setAt hkl hx hm hc, ?_, ?_, ?_, ?_⟩
 ·intro z hz
  rcases List.mem_or_eq_of_mem_set hz with hz | rfl
  ·exact h.lb z hz
  ·exact hbt
 ·intro z hz
  rcases List.mem_or_eq_of_mem_set hz with hz | rfl
  ·have := h.lk z hz
   omega
  ·exact hl
 ·exact ⟨ca, (heap_setCell_other w _ A _ (by intro e; exact hne e)).trans hA⟩
 ·exact ⟨_, heap_setCell_same w B _ cb _ _ hB⟩
theorem Own9.more {w : World} {A B n n1 t : Nat} {LL : List It} {KK : List (List Int)} (h : Own9 w A B n n1 t LL KK) : Own9 w A B n n1 (t + 1) LL KK :=
 ⟨h.ll, h.kl, h.il, h.ib, h.ik, h.lz, h.lb, fun z hz => by have := h.lk z hz; omega, h.ra, h.rb⟩
theorem bits9 (op : BinOp) (x y : Int) : -9223372036854775808 ≤ bits op .i64 x y ∧ bits op .i64 x y ≤ 9223372036854775807 := by
 unfold bits
 split <;> (rw [IntKind.wrap_i64]; omega)
theorem Own9.atSize {w : World} {A B n n1 t k : Nat} {LL : List It} {KK : List (List Int)} (h : Own9 w A B n n1 t LL KK) (hk : k < n) : (∃ s, w.cell? ⟨A, k * 4 + 2, none⟩ = some (.int .i64 s)) ∧ w.frozen? ⟨A, k * 4 + 2, none⟩ = false := by
 obtain ⟨b, off, ao, m, c, bo, m2, d, e, q2, q3, q4, q5, _⟩ := h.il.row k (by rw [h.ll]; omega)
 simp only [Option.some.injEq, Addr.mk.injEq] at e
 obtain ⟨rfl, rfl, _⟩ := e
 rw [Nat.zero_add] at q4
 obtain ⟨ca, hA⟩ := h.ra
 exact ⟨⟨_, q4⟩, frozen_of_row w A _ _ _ hA⟩
theorem Own9.atSep {w : World} {A B n n1 t k : Nat} {LL : List It} {KK : List (List Int)} (h : Own9 w A B n n1 t LL KK) (hk : k < n1) : (∃ ao m c x, w.cell? ⟨B, k, none⟩ = some (.slice ao m c) ∧ Byt w ao m c x ∧ Bt x ∧ x.length ≤ 140737488351232 + 5 * t) ∧ w.frozen? ⟨B, k, none⟩ = false := by
 have hkl : k < KK.length := by rw [h.kl]; omega
 obtain ⟨b, off, ao, m, c, e, q2, q3, _⟩ := h.lz.row k hkl
 simp only [Option.some.injEq, Addr.mk.injEq] at e
 obtain ⟨rfl, rfl, _⟩ := e
 rw [Nat.zero_add] at q2
 obtain ⟨cb, hB⟩ := h.rb
 exact ⟨⟨ao, m, c, _, q2, q3, h.lb _ (lget_mem hkl), h.lk _ (lget_mem hkl)⟩, frozen_of_row w B _ _ _ hB⟩
def mk9 : It := ⟨[], [], 77, 0⟩
theorem il_mark9 {w : World} {A : Nat} {L : List It} (h : Il w (some ⟨A, 0, none⟩) L) (q2 : w.cell? ⟨A, L.length * 4, none⟩ = some (.slice none 0 0)) (q3 : w.cell? ⟨A, L.length * 4 + 1, none⟩ = some (.slice none 0 0)) (q4 : w.cell? ⟨A, L.length * 4 + 2, none⟩ = some (.int .i64 77)) (q5 : w.cell? ⟨A, L.length * 4 + 3, none⟩ = some (.int .i64 0)) : Il w (some ⟨A, 0, none⟩) (L ++ [mk9]) := by
 refine ⟨fun i hi => ?_⟩
 rw [List.length_append] at hi
 simp only [List.length_cons, List.length_nil] at hi
 by_cases e : i < L.length
 ·have eg : (L ++ [mk9]).getD i it0 = L.getD i it0 := by simp [List.getD, List.getElem?_append_left e]
  rw [eg]
  exact h.row i e
 ·obtain rfl : i = L.length := by omega
  have eg : (L ++ [mk9]).getD L.length it0 = mk9 := by simp [List.getD]
  rw [eg]
  exact ⟨A, 0, none, 0, 0, none, 0, 0, rfl, by rw [Nat.zero_add]; exact q2, by rw [Nat.zero_add]; exact q3, by rw [Nat.zero_add]; exact q4, by rw [Nat.zero_add]; exact q5, Byt.empty w, Nat.le_refl _, by omega, Byt.empty w, Nat.le_refl _, by omega⟩
theorem lz_mark9 {w : World} {base n : Nat} {v : Value} {ys : List Value} {M : List (List Int)} {mo : Option Addr} {m c : Nat} {x : List Int} (h : Sx w ys M) (hn : M.length = n) (ho : w.ownsRow base 26 1 v (n + 1) (ys ++ [.slice mo m c])) (hx : Byt w mo m c x) (hm : m ≤ c) (hc : c ≤ 9223372036854775807) :
  ∃ B cap, v = .slice (some ⟨B, 0, none⟩) (n + 1) cap ∧ Lz w (some ⟨B, 0, none⟩) (M ++ [x]) ∧ base ≤ B ∧ (∃ cur, w.heap[B]? = some (.cells cur 26 (0, 0))) ∧ n + 1 ≤ cap ∧ cap ≤ 9223372036854775807 := by
 have hl := h.len
 rcases ho.2 with ⟨_, k2⟩ | ⟨g, cap, cur, rfl, hb, hg, hc1, hm1, _⟩
 ·simp at k2
 ·refine ⟨g, cap, rfl, ⟨fun i hi => ?_⟩, hb, ⟨cur, hg⟩, hc1, by unfold maxLen at hm1; omega⟩
  rw [List.length_append] at hi
  simp only [List.length_cons, List.length_nil] at hi
  have hcl := ho.cellAt i (by omega)
  by_cases e : i < M.length
  ·have eg : (M ++ [x]).getD i [] = M.getD i [] := by simp [List.getD, List.getElem?_append_left e]
   rw [eg]
   rw [List.getElem?_append_left (by omega)] at hcl
   obtain ⟨b, v', h1, h2⟩ := h.el i e
   obtain ⟨ao, c', e1, hb1⟩ := owns_any h2
   subst e1
   rcases h2.2 with ⟨e2, e3⟩ | ⟨g', cap', cur', e2, _, _, hc', hm', _⟩
   ·rw [e3] at hb1 h1
    simp only [Value.slice.injEq] at e2
    obtain ⟨rfl, _, rfl⟩ := e2
    exact ⟨g, 0, none, 0, 0, rfl, by rw [Nat.zero_add, hcl]; exact h1, hb1, Nat.le_refl _, by omega⟩
   ·simp only [Value.slice.injEq] at e2
    obtain ⟨rfl, _, rfl⟩ := e2
    exact ⟨g, 0, _, _, c', rfl, by rw [Nat.zero_add, hcl]; exact h1, hb1, hc', by unfold maxLen at hm'; omega⟩
  ·obtain rfl : i = M.length := by omega
   have eg : (M ++ [x]).getD M.length [] = x := by simp [List.getD]
   rw [eg]
   refine ⟨g, 0, mo, m, c, rfl, ?_, hx, hm, hc⟩
   rw [Nat.zero_add, hcl, ← hl]
   simp
def mk9s : List Int := [109, 97, 114, 107]
theorem mk9_itb : Itb mk9 := by
 refine ⟨?_, ?_, ?_, ?_, ?_, ?_⟩ <;> simp [mk9, Bt]
theorem ib_mark9 {L : List It} (h : Ib L) : Ib (L ++ [mk9]) := fun x hx => by
 rcases List.mem_append.1 hx with hx | hx
 ·exact h x hx
 ·rw [List.mem_singleton] at hx
  subst hx
  exact mk9_itb
theorem ik_mark9 {L : List It} {N : Nat} (h : ∀ x ∈ L, x.key.length ≤ N ∧ x.val.length ≤ N) : ∀ x ∈ L ++ [mk9], x.key.length ≤ N ∧ x.val.length ≤ N := fun x hx => by
 rcases List.mem_append.1 hx with hx | hx
 ·exact h x hx
 ·rw [List.mem_singleton] at hx
  subst hx
  simp [mk9]
theorem lb_mark9 {L : List (List Int)} (h : Lb L) : Lb (L ++ [mk9s]) := fun x hx => by
 rcases List.mem_append.1 hx with hx | hx
 ·exact h x hx
 ·rw [List.mem_singleton] at hx
  subst hx
  intro z hz
  simp [mk9s] at hz
  omega
theorem lk_mark9 {L : List (List Int)} (h : ∀ x ∈ L, x.length ≤ 140737488351232) : ∀ x ∈ L ++ [mk9s], x.length ≤ 140737488351232 + 5 * 0 := fun x hx => by
 rcases List.mem_append.1 hx with hx | hx
 ·exact h x hx
 ·rw [List.mem_singleton] at hx
  subst hx
  simp [mk9s]
set_option maxHeartbeats 8000000 in
set_option maxRecDepth 100000 in
theorem cutOwn_walk (a : Option Addr) (n cap : Nat) (L : List It) (a1 : Option Addr) (n1 cap1 : Nat) (K : List (List Int)) (pt : Int) (w : World) (hl : Il w a L) (hib : Ib L) (hn : L.length = n) (hs : ∀ x ∈ L, x.key.length ≤ 140737488351232 ∧ x.val.length ≤ 140737488351232)
  (hk : Lz w a1 K) (hlb : Lb K) (hn1 : K.length = n1) (hs1 : ∀ x ∈ K, x.length ≤ 140737488351232) :
  Calls Try.prog 3 #[.slice a n cap, .slice a1 n1 cap1, .int .i64 pt] w fun en w' => en = .returned (.bool true) ∧ w.grownBy w' none := by
 obtain ⟨i0, hi, hz0, hz1, hz2⟩ := info_parts info_item
 obtain ⟨j0, hj, hy0, hy1, hy2⟩ := info_parts info_bytesS
 have v1 := fun (W : World) (C : Array Value) (n c : Nat) => conv_at W C n c _ rfl
 have HL := hid_intro hl
 have HZ := hid_intro hk
 have HIB := hid_intro hib
 have HLB := hid_intro hlb
 have HKL := hid_intro hs
 have HKK := hid_intro hs1
 have HKL2 : Hid (∀ x ∈ L, x.key.length ≤ 140737488351240 ∧ x.val.length ≤ 140737488351240) := fun x hx => by have := hs x hx; omega
 have HKK2 : Hid (∀ x ∈ K, x.length ≤ 140737488351240) := fun x hx => by have := hs1 x hx; omega
 clear hl hk hs hs1 hib hlb
 go_enter Try.func3, Try.ntmps3
 go_wp2_with fail
 refine (first9_any _).mono ?_
 rintro en w1 ⟨rfl, hg1⟩
 have HG1 := hid_intro hg1
 clear hg1
 by_cases hm0 : 400 < n
 ·go_wp2
  go_ret
  exact ⟨rfl, HG1.out⟩
 ·by_cases hm1 : 400 < n1
  ·go_wp2
   go_ret
   exact ⟨rfl, HG1.out⟩
  ·go_wp2_with fail
   refine (refItems_big a n cap L _ (HL.out.keptN HG1.out) hn (by omega) HKL2.out).mono ?_
   rintro en w2 ⟨A0, c0, gk, gv, xs, rfl, hq, hc0, hc1, hg2⟩
   have hQ := hq.own
   rw [hn] at hQ
   have HO2 := hid_intro hQ
   have HLM := hid_intro hq.lm
   have HG12 := hid_intro hg2
   have HG2 := hid_intro (grown_trans HG1.out hg2)
   have hsz2 := HG2.out.size
   have hsz1 := HG1.out.size
   have hsz12 := hg2.size
   clear hQ hg2 hq HKL2
   go_wp2_with (at_builtin; refine wpList_append_own _ rfl _ _ 22 rfl w1.heap.size 28 i0 (.agg #[.slice none 0 0, .slice none 0 0, .int .i64 0, .int .i64 0]) 4 64 Try.underlying22 hi hz0 hz1 hz2 rfl (by decide) _ n xs rfl (HO2.out.alloc _) ⟨w2.heap.size, 0, none⟩ 1 1 [.slice none 0 0, .slice none 0 0, .int .i64 77, .int .i64 0] rfl rfl (cell_four_new _ _ _ _ _ _) (by intro u hu; simp at hu; rcases hu with rfl | rfl | rfl <;> rfl) (by unfold maxLen; omega) (by omega) (by simp; omega) ?_)
   intro v3 w3 ho3 hg3 _
   have hOa := HO2.out.alloc (.cells #[.slice none 0 0, .slice none 0 0, .int .i64 77, .int .i64 0] 28)
   have gA := World.grownBy_alloc w2 (.cells #[.slice none 0 0, .slice none 0 0, .int .i64 77, .int .i64 0] 28) none
   have hlm := (HLM.out.keptN gA).kept hg3 (fun g _ hu => by obtain ⟨cur, hc⟩ := hu; exact own_ne hOa hc (by decide))
   have HG3 := hid_intro (grown_trans HG1.out (grown_own9 (grown_trans (show w1.grownBy w2 none from HG12.out) gA) hOa (Nat.le_refl _) hg3))
   obtain ⟨A, cA, curA, hv3, hbA, hrA, hcA, hmA, _, _⟩ : ∃ g cp cur, v3 = .slice (some ⟨g, 0, none⟩) (n + 1) cp ∧ w1.heap.size ≤ g ∧ w3.heap[g]? = some (.cells cur 28 (0, 0)) ∧ n + 1 ≤ cp ∧ cp ≤ maxLen ∧ cur.size = cp * 4 ∧ cur.toList.take ((n + 1) * 4) = xs ++ [.slice none 0 0, .slice none 0 0, .int .i64 77, .int .i64 0] := by
    rcases ho3.2 with ⟨_, k2⟩ | k
    ·omega
    ·exact k
   subst hv3
   have hxl : xs.length = L.length * 4 := HLM.out.len
   have cAt : ∀ j u, [Value.slice none 0 0, .slice none 0 0, .int .i64 77, .int .i64 0][j]? = some u → w3.cell? ⟨A, L.length * 4 + j, none⟩ = some u := by
    intro j u hu
    have hj4 : j < 4 := by
     have := (List.getElem?_eq_some_iff.1 hu).1
     simpa using this
    rw [ho3.cellAt _ (by rw [hn]; omega), List.getElem?_append_right (by omega), hxl, Nat.add_sub_cancel_left]
    exact hu
   have hIL := il_mark9 (hlm.il ho3) (cAt 0 _ rfl) (cAt 1 _ rfl) (cAt 2 _ rfl) (cAt 3 _ rfl)
   have HIL := hid_intro hIL
   have hmA2 : cA ≤ 9223372036854775807 := by unfold maxLen at hmA; omega
   have HRA : Hid (∃ cur, w3.heap[A]? = some (.cells cur 28 (0, 0))) := ⟨curA, hrA⟩
   have hbA2 : w.heap.size ≤ A := by omega
   clear hIL cAt hlm hOa gA hg3 ho3 hrA HLM HO2 hxl
   go_wp2_with fail
   refine (refLists_own a1 n1 cap1 K _ (HZ.out.keptN HG3.out) hn1 (by omega) HKK2.out).mono ?_
   rintro en w4 ⟨⟨v4, ys, rfl, ho4, hsx⟩, hg4⟩
   have HO4 := hid_intro ho4
   have HSX := hid_intro hsx
   have HG4 := hid_intro (grown_trans HG3.out hg4)
   have HG34 := hid_intro hg4
   have hsz3 := HG3.out.size
   have hsz4 := hg4.size
   clear ho4 hsx hg4
   go_wp2_with (at_builtin; refine wpList_append_own _ rfl _ _ 23 rfl w3.heap.size 26 j0 (.slice none 0 0) 1 24 Try.underlying23 hj hy0 hy1 hy2 rfl (by decide) _ n1 ys rfl ((HO4.out.alloc _).alloc _) ⟨w4.heap.size + 1, 0, none⟩ 1 1 [.slice (some ⟨w4.heap.size, 0, none⟩) 4 4] rfl rfl (by rw [← size_alloc w4]; exact cell_one_new _ _ _) (by intro u hu; simp at hu; subst hu; rfl) (by unfold maxLen; omega) (by omega) (by simp; omega) ?_)
   intro v5 w5 ho5 hg5 _
   have hM0 : Byt (w4.alloc (.cells #[.int .u8 109, .int .u8 97, .int .u8 114, .int .u8 107] 5 (4, 5))) (some ⟨w4.heap.size, 0, none⟩) 4 4 mk9s := Byt.litK _ _ _ _ _ _ _ rfl rfl rfl
   have gM := World.grownBy_alloc w4 (.cells #[.int .u8 109, .int .u8 97, .int .u8 114, .int .u8 107] 5 (4, 5)) none
   have gM2 := World.grownBy_alloc (w4.alloc (.cells #[.int .u8 109, .int .u8 97, .int .u8 114, .int .u8 107] 5 (4, 5))) (.cells #[.slice (some ⟨w4.heap.size, 0, none⟩) 4 4] 26) none
   have hOb := (HO4.out.alloc (.cells #[.int .u8 109, .int .u8 97, .int .u8 114, .int .u8 107] 5 (4, 5))).alloc (.cells #[.slice (some ⟨w4.heap.size, 0, none⟩) 4 4] 26)
   have hM1 := (hM0.keptN gM2).kept hg5 (fun ad e _ e2 => by
    cases e
    have := (HO4.out.lt _ e2.symm).2
    simp at this)
   obtain ⟨B, cB, hv5, hLZ, hbB, hrB, hcB, hmB⟩ := lz_mark9 ((HSX.out.keptN (grown_trans gM gM2)).kept hg5 hOb) hn1 ho5 hM1 (Nat.le_refl _) (by omega)
   subst hv5
   have hg35 := grown_own9 (grown_trans (grown_trans (show w3.grownBy w4 none from HG34.out) gM) gM2) hOb (Nat.le_refl _) hg5
   have HG5 := hid_intro (grown_trans HG3.out hg35)
   have hbB2 : w.heap.size ≤ B := by omega
   have HW0 : Hid (Own9 w5 A B n n1 0 (L ++ [mk9]) (K ++ [mk9s])) := by
    obtain ⟨ca, hA⟩ := HRA.out
    exact ⟨by simp [hn], by simp [hn1], HIL.out.keptN hg35, ib_mark9 HIB.out, ik_mark9 HKL.out, hLZ, lb_mark9 HLB.out, lk_mark9 HKK.out, ⟨ca, (hg35.block A (Array.getElem?_eq_some_iff.1 hA).1 (by simp)).trans hA⟩, hrB⟩
   clear hM0 gM gM2 hOb hM1 hLZ hrB hg35 hg5 ho5 HSX HO4 HRA HIL HIB HLB HKL HKK HKK2 HL HZ HG1 HG2 HG12 HG3 HG4 HG34
   go_wp2
   go_loopw [10, 11, 12, 13, 14, 15, 16, 17, 18, 19, 20, 21, 22] (fun s0 _ _ _ _ _ _ _ _ _ _ _ _ wr => ∃ (t : Nat) (LL : List It) (KK : List (List Int)), t ≤ 2 ∧ s0 = .int .i64 t ∧ Own9 wr A B n n1 t LL KK ∧ w.grownBy wr none) (fun s0 _ _ _ _ _ _ _ _ _ _ _ _ _ => 2 - (intOf s0).toNat)
   case atStart => exact ⟨0, _, _, by omega, rfl, HW0.out, HG5.out⟩
   case round =>
    obtain ⟨t, LL, KK, ht, rfl, how, hg⟩ := hrel
    have HW := hid_intro how
    have HG := hid_intro hg
    clear how hg HW0 HG5
    by_cases hlt : t < 2
    ·have hlt' : (t : Int) < 2 := by omega
     have hcn : (n : Int) ≤ (cA : Int) := by omega
     have hcm : (n1 : Int) ≤ (cB : Int) := by omega
     have hLn : (LL.take n).length = n := by rw [List.length_take, HW.out.ll]; omega
     have hKn : (KK.take n1).length = n1 := by rw [List.length_take, HW.out.kl]; omega
     have HIK : Hid (∀ x ∈ LL, x.key.length ≤ 140737488351240 ∧ x.val.length ≤ 140737488351240) := fun x hx => by have := HW.out.ik x hx; omega
     have HLK : Hid (∀ x ∈ KK, x.length ≤ 140737488351240) := fun x hx => by have := HW.out.lk x hx; omega
     have HIT : Hid (∀ x ∈ LL.take n, x.key.length ≤ 140737488351240) := fun x hx => (HIK.out x (List.mem_of_mem_take hx)).1
     have HLT : Hid (∀ x ∈ KK.take n1, x.length ≤ 140737488351240) := fun x hx => HLK.out x (List.mem_of_mem_take hx)
     have HIT2 : Hid (∀ x ∈ LL.take n ++ LL.take n, x.key.length ≤ 140737488351240) := fun x hx => by rcases List.mem_append.1 hx with h | h <;> exact HIT.out x h
     have HLT2 : Hid (∀ x ∈ KK.take n1 ++ ([[115]] ++ KK.take n1), x.length ≤ 140737488351240) := fun x hx => by
      rcases List.mem_append.1 hx with h | h
      ·exact HLT.out x h
      ·rcases List.mem_append.1 h with h | h
       ·rw [List.mem_singleton] at h
        subst h
        simp
       ·exact HLT.out x h
     go_wp2_with fail
     refine (refItems_big (some ⟨A, 0, none⟩) (n + 1) cA LL _ HW.out.il HW.out.ll (by omega) HIK.out).mono ?_
     rintro en w6 ⟨A6, c6, gk6, gv6, xs6, rfl, hq6, hc60, hc61, hg6⟩
     have HQ6 := hid_intro hq6.il
     have HV6 := hid_intro hg6
     clear hq6 hg6
     go_wp2_with fail
     refine (refLists_any (some ⟨B, 0, none⟩) (n1 + 1) cB KK _ (HW.out.lz.keptN HV6.out) HW.out.kl (by omega) HLK.out).mono ?_
     rintro en w7 ⟨⟨a7, c7, rfl, hl7, hc70, hc71⟩, hg7⟩
     have HQ7 := hid_intro hl7
     have HQ67 := hid_intro (HQ6.out.keptN hg7)
     have HV7 := hid_intro (grown_trans HV6.out hg7)
     clear hl7 hg7 HV6 HQ6
     go_wp2_with fail
     refine (cutLeaf_any (some ⟨A, 0, none⟩) n cA (LL.take n) _ ((HW.out.il.keptN HV7.out).take n) hLn (by omega) (by omega) hmA2 HIT.out).mono ?_
     rintro en w8 ⟨⟨r8, rfl, hb8⟩, hg8⟩
     have HB8 := hid_intro hb8
     have HV8 := hid_intro (grown_trans HV7.out hg8)
     have HV78 := hid_intro hg8
     clear hb8 hg8
     go_wp2_with fail
     refine (cutBranch_any (some ⟨B, 0, none⟩) n1 cB (KK.take n1) _ ((HW.out.lz.keptN HV8.out).take n1) hKn (by omega) (by omega) hmB HLT.out).mono ?_
     rintro en w9 ⟨⟨r9, rfl, hb9⟩, hg9⟩
     have HB9 := hid_intro hb9
     have HV9 := hid_intro (grown_trans HV8.out hg9)
     have HV79 := hid_intro (grown_trans HV78.out hg9)
     clear hb9 hg9 HV8 HV78
     obtain ⟨x, hx⟩ : ∃ x, decide (size (LL.take n ++ LL.take n) ≤ 3000) = x := ⟨_, rfl⟩
     obtain ⟨y, hy⟩ : ∃ y, decide (bsize (KK.take n1 ++ ([[115]] ++ KK.take n1)) ≤ 3000) = y := ⟨_, rfl⟩
     go_wp2_with fail
     refine (joinLeaves_any (some ⟨A, 0, none⟩) n cA (LL.take n) (some ⟨A, 0, none⟩) n cA (LL.take n) _ ((HW.out.il.keptN HV9.out).take n) hLn (fun e => by cases e) ((HW.out.il.keptN HV9.out).take n) hLn (fun e => by cases e) (by omega) HIT2.out).mono ?_
     rintro en w10 ⟨rfl, hg10⟩
     rw [hx]
     have HV10 := hid_intro (grown_trans HV9.out hg10)
     have HV710 := hid_intro (grown_trans HV79.out hg10)
     clear hg10 HV9 HV79
     have gS := World.grownBy_alloc w10 (.cells #[.int .u8 115] 5 (1, 2)) none
     have hS0 : Byt (w10.alloc (.cells #[.int .u8 115] 5 (1, 2))) (some ⟨w10.heap.size, 0, none⟩) 1 1 [115] := Byt.litK _ _ _ _ _ _ _ rfl rfl rfl
     have HS0 := hid_intro hS0
     have HV11 := hid_intro (grown_trans HV10.out gS)
     have HV711 := hid_intro (grown_trans HV710.out gS)
     clear hS0 gS HV10 HV710
     go_wp2_with fail
     refine (joinBranches_any (some ⟨B, 0, none⟩) n1 cB (KK.take n1) (some ⟨w10.heap.size, 0, none⟩) 1 1 [115] (some ⟨B, 0, none⟩) n1 cB (KK.take n1) _ ((HW.out.lz.keptN HV11.out).take n1) hKn (fun e => by cases e) HS0.out (by omega) (by omega) ((HW.out.lz.keptN HV11.out).take n1) hKn (fun e => by cases e) (by omega) HLT2.out).mono ?_
     rintro en w12 ⟨rfl, hg12⟩
     rw [hy]
     have HV12 := hid_intro (grown_trans HV11.out hg12)
     have HV712 := hid_intro (grown_trans HV711.out hg12)
     clear hg12 HV11 HV711 HS0
     go_wp2_with fail
     refine (sameItems_any (some ⟨A, 0, none⟩) (n + 1) cA LL (some ⟨A6, 0, none⟩) (n + 1) c6 LL _ (HW.out.il.keptN HV12.out) HW.out.ib HW.out.ll (HQ67.out.keptN HV712.out) HW.out.ib HW.out.ll (by omega)).mono ?_
     rintro en w13 ⟨⟨z13, rfl, hz13⟩, hg13⟩
     obtain rfl : z13 = true := hz13.2 rfl
     have HV13 := hid_intro (grown_trans HV12.out hg13)
     have HV713 := hid_intro (grown_trans HV712.out hg13)
     clear hg13 HV12 HV712 hz13 HQ67
     go_wp2_with fail
     refine (sameLists_any (some ⟨B, 0, none⟩) (n1 + 1) cB KK a7 (n1 + 1) c7 KK _ (HW.out.lz.keptN HV13.out) HW.out.lb HW.out.kl (HQ7.out.keptN HV713.out) HW.out.lb HW.out.kl (by omega)).mono ?_
     rintro en w14 ⟨⟨z14, rfl, hz14⟩, hg14⟩
     obtain rfl : z14 = true := hz14.2 rfl
     have HV14 := hid_intro (grown_trans HV13.out (hg14.grown none))
     clear hg14 HV13 HV713 hz14 HQ7
     go_wp2_with fail
     refine (refLeaf9_any (some ⟨A, 0, none⟩) n cA (LL.take n) _ ((HW.out.il.keptN HV14.out).take n) hLn (by omega) (by omega) hmA2 HIT.out).mono ?_
     rintro en w15 ⟨⟨r15, rfl, hb15⟩, hg15⟩
     have e := Best.uniq hb15 HB8.out
     subst e
     have HV15 := hid_intro (grown_trans HV14.out hg15)
     clear hg15 hb15 HV14 HB8
     go_wp2_with fail
     refine (refBranch9_any (some ⟨B, 0, none⟩) n1 cB (KK.take n1) _ ((HW.out.lz.keptN HV15.out).take n1) hKn (by omega) (by omega) hmB HLT.out).mono ?_
     rintro en w16 ⟨⟨r16, rfl, hb16⟩, hg16⟩
     have e := Best.uniq hb16 HB9.out
     subst e
     have HV16 := hid_intro (grown_trans HV15.out hg16)
     clear hg16 hb16 HV15 HB9
     go_wp2_with fail
     refine (refJoinLeaves_any (some ⟨A, 0, none⟩) n cA (LL.take n) (some ⟨A, 0, none⟩) n cA (LL.take n) _ ((HW.out.il.keptN HV16.out).take n) hLn (fun e => by cases e) ((HW.out.il.keptN HV16.out).take n) hLn (fun e => by cases e) (by omega) HIT2.out).mono ?_
     rintro en w17 ⟨rfl, hg17⟩
     rw [hx]
     have hbx : (x == x) = true := by cases x <;> rfl
     have hby : (y == y) = true := by cases y <;> rfl
     have HV17 := hid_intro (grown_trans HV16.out hg17)
     clear hg17 HV16
     have gS := World.grownBy_alloc w17 (.cells #[.int .u8 115] 5 (1, 2)) none
     have hS0 : Byt (w17.alloc (.cells #[.int .u8 115] 5 (1, 2))) (some ⟨w17.heap.size, 0, none⟩) 1 1 [115] := Byt.litK _ _ _ _ _ _ _ rfl rfl rfl
     have HS0 := hid_intro hS0
     have HV18 := hid_intro (grown_trans HV17.out gS)
     clear hS0 gS HV17
     go_wp2_with fail
     refine (refJoinBranches_any (some ⟨B, 0, none⟩) n1 cB (KK.take n1) (some ⟨w17.heap.size, 0, none⟩) 1 1 [115] (some ⟨B, 0, none⟩) n1 cB (KK.take n1) _ ((HW.out.lz.keptN HV18.out).take n1) hKn (fun e => by cases e) HS0.out (by omega) (by omega) ((HW.out.lz.keptN HV18.out).take n1) hKn (fun e => by cases e) (by omega) HLT2.out).mono ?_
     rintro en w19 ⟨rfl, hg19⟩
     rw [hy]
     have HW2 := hid_intro (HW.out.keptN (grown_trans HV18.out hg19))
     have HG2 := hid_intro (grown_trans HG.out (grown_trans HV18.out hg19))
     clear hg19 HV18 HS0 HIT HIT2 HLT HLT2 HV7 HW HG hx hy
     by_cases hn0 : 0 < n
     ·have hn0' : (0 : Int) < (n : Int) := by omega
      obtain ⟨k, z, hk, hz, hz1, hz2, hk2⟩ := place9 pt n hn0
      have hw1 : IntKind.i64.wrap (z + (n : Int)) = z + (n : Int) := by simp [IntKind.wrap, IntKind.bits, IntKind.signed]; omega
      obtain ⟨⟨sz, hsz⟩, hfz⟩ := HW2.out.atSize hk
      obtain ⟨sv, hsv⟩ : ∃ sv, bits .xor .i64 (bits .and .i64 sz 1023) 511 = sv := ⟨_, rfl⟩
      obtain ⟨hb1, hb2⟩ := bits9 .xor (bits .and .i64 sz 1023) 511
      rw [hsv] at hb1 hb2
      obtain ⟨LL2, hw3⟩ := HW2.out.size hk sv hb1 hb2
      have HG3 := hid_intro (grown_new HG2.out (grown_cell w19 A (k * 4 + 2) (.int .i64 sv)) hbA2)
      have HW3 := hid_intro hw3
      clear hw3 HW2 HG2
      by_cases hm0 : 0 < n1
      ·have hm0' : (0 : Int) < (n1 : Int) := by omega
       obtain ⟨k2, z2, hk2b, hzb, hzb1, hzb2, hkb2⟩ := place9 pt n1 hm0
       have hw2 : IntKind.i64.wrap (z2 + (n1 : Int)) = z2 + (n1 : Int) := by simp [IntKind.wrap, IntKind.bits, IntKind.signed]; omega
       have v2 := fun (C : Array Value) (n c : Nat) => conv_at (w19.setCell ⟨A, k * 4 + 2, none⟩ (.int .i64 sv)) C n c w19.heap.size (by simp)
       have gT := World.grownBy_alloc (w19.setCell ⟨A, k * 4 + 2, none⟩ (.int .i64 sv)) (.cells #[.int .u8 111, .int .u8 116, .int .u8 104, .int .u8 101, .int .u8 114] 5 (5, 6)) none
       have hT0 : Byt ((w19.setCell ⟨A, k * 4 + 2, none⟩ (.int .i64 sv)).alloc (.cells #[.int .u8 111, .int .u8 116, .int .u8 104, .int .u8 101, .int .u8 114] 5 (5, 6))) (some ⟨w19.heap.size, 0, none⟩) 5 5 [111, 116, 104, 101, 114] := Byt.litK _ _ _ _ _ _ _ rfl rfl (by simp)
       have HT0 := hid_intro hT0
       have HW4 := hid_intro (HW3.out.keptN gT)
       have HG4 := hid_intro (grown_trans HG3.out gT)
       obtain ⟨⟨ao, m, c, xx, hcs, hbx2, hbt2, hxl⟩, _⟩ := HW4.out.atSep hk2b
       have hml := hbx2.len
       have HBX := hid_intro hbx2
       have HBT := hid_intro hbt2
       clear gT hT0 hbx2 hbt2 HW3 HG3
       go_wp2_with (at_builtin; refine wpList_append_lit rfl _ _ rfl w19.heap.size [111, 116, 104, 101, 114] rfl HT0.out ao m c xx rfl HBX.out (by omega) ?_)
       intro ao' c' w20 hB20 hc20 hc21 hg20
       have HW5 := hid_intro (HW4.out.keptN hg20)
       have HG5 := hid_intro (grown_trans HG4.out hg20)
       obtain ⟨⟨ao3, m3, c3, x3, hcs3, _⟩, hfz3⟩ := HW5.out.atSep hk2b
       obtain ⟨KK2, hw6⟩ := HW5.out.sep hk2b hB20 hc20 hc21 (by
        intro y hy
        rcases List.mem_append.1 (show y ∈ [111, 116, 104, 101, 114] ++ xx from hy) with hy | hy
        ·simp at hy
         omega
        ·exact HBT.out y hy) (by simp only [List.length_cons]; omega)
       have HW6 := hid_intro hw6
       have HG6 := hid_intro (grown_new HG5.out (grown_cell w20 B k2 (.slice ao' (5 + m) c')) hbB2)
       clear hw6 hB20 hg20 HW5 HG5 HW4 HG4 HBX HBT HT0
       go_wp2
       go_roundw
       case rel => exact ⟨t + 1, _, _, by omega, by go_num, HW6.out, HG6.out⟩
       case measure => simp [intOf]; omega
      ·have hm0' : ¬ (0 : Int) < (n1 : Int) := by omega
       go_wp2
       go_roundw
       case rel => exact ⟨t + 1, _, _, by omega, by go_num, HW3.out.more, HG3.out⟩
       case measure => simp [intOf]; omega
     ·have hn0' : ¬ (0 : Int) < (n : Int) := by omega
      by_cases hm0 : 0 < n1
      ·have hm0' : (0 : Int) < (n1 : Int) := by omega
       obtain ⟨k2, z2, hk2b, hzb, hzb1, hzb2, hkb2⟩ := place9 pt n1 hm0
       have hw2 : IntKind.i64.wrap (z2 + (n1 : Int)) = z2 + (n1 : Int) := by simp [IntKind.wrap, IntKind.bits, IntKind.signed]; omega
       have v2 := fun (C : Array Value) (n c : Nat) => conv_at w19 C n c w19.heap.size rfl
       have gT := World.grownBy_alloc w19 (.cells #[.int .u8 111, .int .u8 116, .int .u8 104, .int .u8 101, .int .u8 114] 5 (5, 6)) none
       have hT0 : Byt (w19.alloc (.cells #[.int .u8 111, .int .u8 116, .int .u8 104, .int .u8 101, .int .u8 114] 5 (5, 6))) (some ⟨w19.heap.size, 0, none⟩) 5 5 [111, 116, 104, 101, 114] := Byt.litK _ _ _ _ _ _ _ rfl rfl (by simp)
       have HT0 := hid_intro hT0
       have HW4 := hid_intro (HW2.out.keptN gT)
       have HG4 := hid_intro (grown_trans HG2.out gT)
       obtain ⟨⟨ao, m, c, xx, hcs, hbx2, hbt2, hxl⟩, _⟩ := HW4.out.atSep hk2b
       have hml := hbx2.len
       have HBX := hid_intro hbx2
       have HBT := hid_intro hbt2
       clear gT hT0 hbx2 hbt2 HW2 HG2
       go_wp2_with (at_builtin; refine wpList_append_lit rfl _ _ rfl w19.heap.size [111, 116, 104, 101, 114] rfl HT0.out ao m c xx rfl HBX.out (by omega) ?_)
       intro ao' c' w20 hB20 hc20 hc21 hg20
       have HW5 := hid_intro (HW4.out.keptN hg20)
       have HG5 := hid_intro (grown_trans HG4.out hg20)
       obtain ⟨⟨ao3, m3, c3, x3, hcs3, _⟩, hfz3⟩ := HW5.out.atSep hk2b
       obtain ⟨KK2, hw6⟩ := HW5.out.sep hk2b hB20 hc20 hc21 (by
        intro y hy
        rcases List.mem_append.1 (show y ∈ [111, 116, 104, 101, 114] ++ xx from hy) with hy | hy
        ·simp at hy
         omega
        ·exact HBT.out y hy) (by simp only [List.length_cons]; omega)
       have HW6 := hid_intro hw6
       have HG6 := hid_intro (grown_new HG5.out (grown_cell w20 B k2 (.slice ao' (5 + m) c')) hbB2)
       clear hw6 hB20 hg20 HW5 HG5 HW4 HG4 HBX HBT HT0
       go_wp2
       go_roundw
       case rel => exact ⟨t + 1, _, _, by omega, by go_num, HW6.out, HG6.out⟩
       case measure => simp [intOf]; omega
      ·have hm0' : ¬ (0 : Int) < (n1 : Int) := by omega
       go_wp2
       go_roundw
       case rel => exact ⟨t + 1, _, _, by omega, by go_num, HW2.out.more, HG2.out⟩
       case measure => simp [intOf]; omega
    ·have hlt' : ¬ (t : Int) < 2 := by omega
     go_wp2
     go_ret
     exact ⟨rfl, HG.out⟩
end Go.Proofs.Ytoakngmagoilnaa
namespace Go.Proofs.Ytoakngmagoilnaa.cutOwn
open Go.ChangeShapes Go.WideShapes Go.ChangeAt Go.WideMaps Go.WideElems Go.RowKit Go.Deep
open Go.ChangeMaps (open_string shut_string)
theorem own : ownKnob Try.prog.godebug = none := by kernel_rfl
theorem laidOut : laidOutB Try.prog = true := by kernel_rfl
theorem bytes_u8 : Try.prog.bytesOf 5 = 1 := by kernel_rfl
set_option linter.unusedVariables false
set_option maxRecDepth 100000 in
theorem lifted (os : Os) (started : os.Started) (H : Type) (enc : TypeId × Value → H) :
  ReturnsInHanded {} Try.checked os 3 .any (Rows.cutOwnSpec.pre6 enc Try.prog Try.f3 Rows.cutOwnRow.domain false) (Rows.cutOwnSpec.post enc Try.prog Try.f3 false true false false) := by
 refine returnsInHanded_of_change_sized (C := Try.checked) own started (by kernel_rfl) Try.func3
  (ChangeSpec.witness6 (enc := enc) (C := Try.checked) false ⟨#[], #[.slice none 0 0, .slice none 0 0, .int .i64 0], []⟩ 8 (by kernel_rfl) (by kernel_rfl) (by kernel_rfl) (by kernel_rfl)) ?_
 intro W base args ds gs before hval0 hW hcnd hsz0 _
 have hval : ∀ (j : Nat) t v, Try.f3.params[j]? = some t → args[j]? = some v → Value.okWide Try.prog W .any base t v := hval0
 have hsz : (DataW.weightsEach Try.prog (Try.f3.params.toList ++ Rows.cutOwnSpec.plain.varTypes Try.prog) (ds ++ gs)).all (· ≤ reachBytes) = true := hsz0
 clear hsz0
 have hW' := hW
 obtain ⟨p, q, hA0, hV, rfl, hfz, hnd⟩ := hW
 have hA : DataW.TrodAll enc Try.prog W 0 (fun _ => true) true Try.f3.params.toList args.toList ds p := hA0
 rw [Try.params3] at hA hval hsz
 obtain ⟨v0, vs0, d0, ds0, p0, q0, hargs, rfl, rfl, h0, r0⟩ := trodAll_cons hA
 obtain ⟨v1, vs1, d1, ds1, p1, q1, rfl, rfl, rfl, h1, r1⟩ := trodAll_cons r0
 obtain ⟨v2, vs2, d2, ds2, p2, q2, rfl, rfl, rfl, h2, r2⟩ := trodAll_cons r1
 obtain ⟨rfl, rfl, rfl⟩ := trodAll_nil r2
 obtain rfl : args = #[v0, v1, v2] := by cases args; simp_all
 obtain ⟨rfl, rfl⟩ := trodVars_none hV
 obtain ⟨a0, len0, cap0, rfl⟩ := okWide_slice Try.underlying22 (hval 0 22 v0 rfl rfl)
 have k0 := h0
 have lt0 : ∀ x ∈ p0, x.block < W.heap.size := by obtain ⟨m, hm⟩ := k0; exact DataW.trod_lt m _ _ _ hm
 obtain ⟨z0, b0, t0, e0, l0, c0, n0, s0⟩ : ∃ L, Il W a0 L ∧ Ib L ∧ L.length = len0 ∧ len0 ≤ cap0 ∧ cap0 ≤ 9223372036854775807 ∧ (a0 = none → cap0 = 0) ∧ (∀ x ∈ L, x.key.length ≤ 140737488351232 ∧ x.val.length ≤ 140737488351232) := by
  obtain ⟨fuel, hf⟩ := h0
  exact items_open9 (by simpa [Value.cells] using hf) (Wt9.of hsz (j := 0) rfl rfl)
 obtain ⟨a1, len1, cap1, rfl⟩ := okWide_slice Try.underlying23 (hval 1 23 v1 rfl rfl)
 have k1 := h1
 have lt1 : ∀ x ∈ p1, x.block < W.heap.size := by obtain ⟨m, hm⟩ := k1; exact DataW.trod_lt m _ _ _ hm
 obtain ⟨z1, b1, t1, e1, l1, c1, n1, s1⟩ : ∃ L, Lz W a1 L ∧ Lb L ∧ L.length = len1 ∧ len1 ≤ cap1 ∧ cap1 ≤ 9223372036854775807 ∧ (a1 = none → cap1 = 0) ∧ (∀ x ∈ L, x.length ≤ 140737488351232) := by
  obtain ⟨fuel, hf⟩ := h1
  exact rows_open9 (by simpa [Value.cells] using hf) (Wt9.of hsz (j := 1) rfl rfl)
 obtain ⟨a2, rfl, rfl, rfl, w2⟩ := open_int Try.underlying3 (hval 2 3 v2 rfl rfl) h2
 clear hA0 hval0
 refine (cutOwn_walk a0 len0 cap0 z0 a1 len1 cap1 z1 a2 W b0 t0 e0 s0 b1 t1 e1 s1).mono fun e W' ⟨he, hg⟩ => ?_
 subst he
 have bel := below_of hg
 exact ⟨_, rfl, _, _, _, [], _, [], hW', trodAll_mk1 (shut_bool Try.underlying4 _), (trodAll_cons_mk (Below.trod laidOut (by kernel_rfl) (of_decide_eq_true (by kernel_rfl)) k0 bel lt0) (trodAll_cons_mk (Below.trod laidOut (by kernel_rfl) (of_decide_eq_true (by kernel_rfl)) k1 bel lt1) (trodAll_cons_mk (shut_int Try.underlying3 w2) trodAll_mk0))), rfl, bel.frame _, fun h => by cases h⟩
theorem over : Rows.cutOwnRow.holds Try.pinned (OpenSpec.ofChange Rows.cutOwnSpec) :=
 OpenClaim.holds_of_wide 3 Try.f3 rfl rfl rfl rfl rfl rfl rfl ⟨rfl, rfl, rfl, rfl, rfl⟩ rfl rfl rfl rfl rfl (by kernel_rfl) Try.func3 (by kernel_rfl)
  (of_decide_eq_true (by kernel_rfl)) (by unfold Func.isWrapper; first | (rw [if_pos (by decide +kernel)]; kernel_rfl) | (rw [if_neg (by decide +kernel)]; exact ⟨rfl, rfl⟩))
  (fun os started H enc _ => lifted os started H enc)
end Go.Proofs.Ytoakngmagoilnaa.cutOwn
namespace Go.Proofs.Ytoakngmagoilnaa
theorem cutOwn_holds : Rows.CutOwnSaid := cutOwn.over
#print axioms cutOwn_holds
end Go.Proofs.Ytoakngmagoilnaa
