import Derived.Test.YtlfhonlifgpnhaaGrpK
import Derived.Test.YtlfhonlifgpnhaaLeafP
import Derived.Test.YtlfhonlifgpnhaaLeafO
import Derived.Laws.CopyOwn
namespace Go.Proofs.Ytlfhonlifgpnhaa
open Go.RowKit

/-- A list of items: each of four cells. -/
structure Il (w : World) (a : Option Addr) (L : List It) : Prop where
  row : ∀ i, i < L.length → ∃ b off ao n c bo m d, a = some ⟨b, off, none⟩ ∧ w.cell? ⟨b, off + i * 4, none⟩ = some (.slice ao n c) ∧ w.cell? ⟨b, off + i * 4 + 1, none⟩ = some (.slice bo m d) ∧
    w.cell? ⟨b, off + i * 4 + 2, none⟩ = some (.int .i64 (L.getD i it0).size) ∧ w.cell? ⟨b, off + i * 4 + 3, none⟩ = some (.int .i64 (L.getD i it0).first) ∧
    Byt w ao n c (L.getD i it0).key ∧ n ≤ c ∧ c ≤ 9223372036854775807 ∧ Byt w bo m d (L.getD i it0).val ∧ m ≤ d ∧ d ≤ 9223372036854775807

/-- Numbers of the items that a machine can hold. -/
structure Itb (x : It) : Prop where
  key : Bt x.key
  val : Bt x.val
  s1 : -9223372036854775808 ≤ x.size
  s2 : x.size ≤ 9223372036854775807
  f1 : -9223372036854775808 ≤ x.first
  f2 : x.first ≤ 9223372036854775807
def Ib (L : List It) : Prop := ∀ x ∈ L, Itb x

theorem getD_mem {L : List It} {i : Nat} (h : i < L.length) : L.getD i it0 ∈ L := by
  simp [List.getD, List.getElem?_eq_getElem h]
theorem Ib.at {L : List It} (h : Ib L) {i : Nat} (hi : i < L.length) : Itb (L.getD i it0) := h _ (getD_mem hi)

theorem Il.heap {w w' : World} {a : Option Addr} {L : List It} (h : Il w a L) (e : w'.heap = w.heap) : Il w' a L := by
  refine ⟨fun i hi => ?_⟩
  obtain ⟨b, off, ao, n, c, bo, m, d, h1, h2, h3, h4, h5, h6, h7, h8, h9, h10, h11⟩ := h.row i hi
  have k : ∀ ad : Addr, w'.cell? ad = w.cell? ad := fun ad => World.cell?_of_block (by rw [e])
  exact ⟨b, off, ao, n, c, bo, m, d, h1, (k _).trans h2, (k _).trans h3, (k _).trans h4, (k _).trans h5, h6.heap e, h7, h8, h9.heap e, h10, h11⟩
theorem Il.keptN {w w' : World} {a : Option Addr} {L : List It} (h : Il w a L) (hg : w.grownBy w' none) : Il w' a L := by
  refine ⟨fun i hi => ?_⟩
  obtain ⟨b, off, ao, n, c, bo, m, d, h1, h2, h3, h4, h5, h6, h7, h8, h9, h10, h11⟩ := h.row i hi
  exact ⟨b, off, ao, n, c, bo, m, d, h1, hg.cell h2 (by simp), hg.cell h3 (by simp), hg.cell h4 (by simp), hg.cell h5 (by simp), h6.keptN hg, h7, h8, h9.keptN hg, h10, h11⟩
theorem Il.zero (w : World) (a : Option Addr) : Il w a [] := ⟨fun i hi => by simp at hi⟩

theorem info_bytes : (Try.prog.info? 34).map (fun i => (i.zero, i.size, i.bytes)) = some (some (.slice none 0 0), 1, 24) := by kernel_rfl

theorem key_map (L : List It) (i : Nat) : (L.map It.key).getD i [] = (L.getD i it0).key := by
  simp only [List.getD, List.getElem?_map]
  cases L[i]? <;> rfl

/-- What keys.CommonAll tells of the keys. -/
theorem commonAll_any (a : Option Addr) (n cap : Nat) (L : List It) (w : World) (hl : Lz w a (L.map It.key)) (hn : L.length = n) (hc : n ≤ cap) (hcap : cap ≤ 9223372036854775807) :
    Calls Try.prog 42 #[.slice a n cap] w fun en w' => en = .returned (.int .i64 ((pre L : Nat) : Int)) ∧ w.grownBy w' none := by
  cases L with
  | nil =>
    obtain rfl : n = 0 := by simpa using hn.symm
    refine (commonAll_none a cap w).mono ?_
    rintro en w' ⟨rfl, rfl⟩
    exact ⟨rfl, World.grownBy.refl _ _⟩
  | cons x L =>
    have := commonAll_some a cap x.key (L.map It.key) w hl (by rw [List.length_map]; simp at hn; omega) hcap
    rw [List.length_map] at this
    obtain rfl : L.length + 1 = n := by simpa using hn
    exact this

/-- The row of the keys: the first i of them stand. -/
structure Kr (w0 w : World) (a : Option Addr) (G n i : Nat) : Prop where
  ex : ∃ cur : Array Value, w.heap[G]? = some (.cells cur 34 (0, 0)) ∧ cur.size = n ∧ ∀ j, j < i → ∃ b off ao m c, a = some ⟨b, off, none⟩ ∧ w0.cell? ⟨b, off + j * 4, none⟩ = some (.slice ao m c) ∧ cur[j]? = some (.slice ao m c)
theorem Kr.lt {w0 w : World} {a : Option Addr} {G n i : Nat} (h : Kr w0 w a G n i) : G < w.heap.size := by
  obtain ⟨cur, h1, _⟩ := h.ex
  exact (Array.getElem?_eq_some_iff.1 h1).1
theorem Kr.keptN {w0 w w' : World} {a : Option Addr} {G n i : Nat} (h : Kr w0 w a G n i) (hg : w.grownBy w' none) : Kr w0 w' a G n i := by
  have hl := h.lt
  obtain ⟨cur, h1, h2, h3⟩ := h.ex
  exact ⟨cur, (hg.block G hl (by simp)).trans h1, h2, h3⟩
theorem Kr.frozen {w0 w : World} {a : Option Addr} {G n i : Nat} (h : Kr w0 w a G n i) (j : Nat) : w.frozen? ⟨G, j, none⟩ = false := by
  obtain ⟨cur, h1, _⟩ := h.ex
  exact frozen_of_row w G j _ _ h1
theorem Kr.cell {w0 w : World} {a : Option Addr} {G n i : Nat} (h : Kr w0 w a G n i) (j : Nat) (hj : j < n) : ∃ v, w.cell? ⟨G, j, none⟩ = some v := by
  obtain ⟨cur, h1, h2, _⟩ := h.ex
  exact ⟨cur[j]'(by omega), by rw [cell_of_row w G j _ _ _ h1]; exact Array.getElem?_eq_getElem (by omega)⟩
theorem Kr.set {w0 w : World} {b off : Nat} {G n i : Nat} {ao : Option Addr} {m c : Nat} (h : Kr w0 w (some ⟨b, off, none⟩) G n i) (hi : i < n) (hc : w0.cell? ⟨b, off + i * 4, none⟩ = some (.slice ao m c)) :
    Kr w0 (w.setCell ⟨G, i, none⟩ (.slice ao m c)) (some ⟨b, off, none⟩) G n (i + 1) := by
  obtain ⟨cur, h1, h2, h3⟩ := h.ex
  refine ⟨cur.setIfInBounds i (.slice ao m c), heap_setCell_same w G i cur _ _ h1, by simpa using h2, fun j hj => ?_⟩
  by_cases e : i = j
  · subst e
    exact ⟨b, off, ao, m, c, rfl, hc, by simp [h2, hi]⟩
  · obtain ⟨b', off', ao', m', c', k1, k2, k3⟩ := h3 j (by omega)
    exact ⟨b', off', ao', m', c', k1, k2, by rw [Array.getElem?_setIfInBounds_ne e]; exact k3⟩
theorem Kr.lz {w0 w : World} {a : Option Addr} {G n : Nat} {L : List It} (h : Kr w0 w a G n n) (hn : L.length = n) (hl : Il w0 a L) (hg : w0.grownBy w none) : Lz w (some ⟨G, 0, none⟩) (L.map It.key) := by
  obtain ⟨cur, h1, h2, h3⟩ := h.ex
  refine ⟨fun i hi => ?_⟩
  have hi' : i < L.length := by simpa using hi
  obtain ⟨b, off, ao, m, c, k1, k2, k3⟩ := h3 i (by omega)
  obtain ⟨b', off', ao', m', c', bo, m2, d2, q1, q2, q3, q4, q5, q6, q7, q8, _⟩ := hl.row i hi'
  rw [q1] at k1
  simp only [Option.some.injEq, Addr.mk.injEq] at k1
  obtain ⟨rfl, rfl, _⟩ := k1
  rw [q2] at k2
  obtain ⟨rfl, rfl, rfl⟩ : ao' = ao ∧ m' = m ∧ c' = c := by simpa using k2
  refine ⟨G, 0, ao', m', c', rfl, ?_, ?_, q7, q8⟩
  · rw [Nat.zero_add, cell_of_row w G i _ _ _ h1]; exact k3
  · rw [key_map]; exact q6.keptN hg

theorem Kr.start {w0 w : World} {a : Option Addr} {base G n : Nat} {xs : List Value} (h : w.ownsRow base 34 1 (.slice (some ⟨G, 0, none⟩) n n) n xs) : Kr w0 w a G n 0 := by
  rcases h.2 with ⟨e, _⟩ | ⟨g', cap', cur, hv, hb, hg, hc, hm, hs, ht⟩
  · cases e
  · injection hv with e1 _ e3
    simp only [Option.some.injEq, Addr.mk.injEq] at e1
    obtain ⟨rfl, _⟩ := e1
    subst e3
    exact ⟨cur, hg, by simpa using hs, fun j hj => by omega⟩

set_option maxHeartbeats 2000000 in
set_option maxRecDepth 100000 in
theorem common4_any (a : Option Addr) (n cap : Nat) (L : List It) (w : World) (hl : Il w a L) (hn : L.length = n) (hm : n ≤ 5000) :
    Calls Try.prog 26 #[.slice a n cap] w fun en w' => en = .returned (.int .i64 ((pre L : Nat) : Int)) ∧ w.grownBy w' none := by
  obtain ⟨i0, hi, hz0, hz1, hz2⟩ := info_parts info_bytes
  have HL := hid_intro hl
  clear hl
  go_enter Try.func26, Try.ntmps26
  go_wp2_with (at_make; refine wpList_make_full _ rfl _ _ 67 rfl w.heap.size 34 i0 (.slice none 0 0) 1 Try.underlying67 hi hz0 hz1 _ _ _ _ n rfl rfl rfl rfl ?b2 ?b3 (Nat.le_refl _) ?_)
  case b2 => rw [hz2]; omega
  case b3 => unfold maxLen; omega
  intro w0 hown0 hg0
  have HK := hid_intro (Kr.start (w0 := w) (a := a) hown0)
  have HG := hid_intro hg0
  clear hown0 hg0
  go_wp2
  go_loopw [11] (fun si wr => ∃ i : Nat, i ≤ n ∧ si = .int .i64 i ∧ Kr w wr a w.heap.size n i ∧ w.grownBy wr none) (fun si _ => n - (intOf si).toNat)
  case atStart => exact ⟨0, Nat.zero_le _, rfl, HK.out, HG.out⟩
  case round =>
    obtain ⟨i, hi', rfl, hk, hg⟩ := hrel
    have HK1 := hid_intro hk
    have HG1 := hid_intro hg
    clear hk hg HK HG
    by_cases hlt : i < n
    · obtain ⟨b, off, ao, m, c, bo, m2, d2, rfl, q2, q3, q4, q5, q6, q7, q8, q9, q10, q11⟩ := HL.out.row i (by omega)
      have c0 := HG1.out.cell q2 (by simp)
      have c1 := HG1.out.cell q3 (by simp)
      have c2 := HG1.out.cell q4 (by simp)
      have c3 := HG1.out.cell q5 (by simp)
      have HQ := hid_intro q2
      clear q2 q3 q4 q5 q6 q9
      generalize (L.getD i it0).size = sz at *
      generalize (L.getD i it0).first = fs at *
      have G2 := hid_intro (World.grownBy_alloc wr (.cells #[.slice ao m c, .slice bo m2 d2, .int .i64 sz, .int .i64 fs] 48) none)
      have K2 := hid_intro (HK1.out.keptN G2.out)
      have f2 := K2.out.frozen i
      obtain ⟨v2, e2⟩ := K2.out.cell i hlt
      go_wp2
      go_roundw
      case rel => exact ⟨i + 1, by omega, by go_num, K2.out.set hlt HQ.out, grown_new (grown_trans HG1.out G2.out) (grown_cell _ _ _ _) (Nat.le_refl _)⟩
      case measure => simp [intOf]; omega
    · have hin : i = n := by omega
      subst hin
      go_wp2_with fail
      refine (commonAll_any _ _ _ L _ (HK1.out.lz hn HL.out HG1.out) hn (Nat.le_refl _) (by omega)).mono ?_
      rintro en w1 ⟨rfl, hg2⟩
      have HG2 := hid_intro (grown_trans HG1.out hg2)
      clear hg2
      go_wp2
      go_ret
      exact ⟨rfl, HG2.out⟩

set_option maxHeartbeats 400000 in
theorem chained_any (s : Int) (w : World) : Calls Try.prog 45 #[.int .i64 s] w fun en w' => en = .returned (.bool (decide (512 < s))) ∧ w' = w := by
  go_enter Try.func45, Try.ntmps45
  go_wp2
  go_ret
  exact ⟨rfl, rfl⟩

set_option maxHeartbeats 400000 in
set_option maxRecDepth 100000 in
theorem tagOf_any (s : Nat) (w : World) (h : s ≤ 262144) : Calls Try.prog 44 #[.int .i64 s] w fun en w' => en = .returned (.int .u64 ((if 512 < s then 2 * s + 1 else 2 * s : Nat) : Int)) ∧ w' = w := by
  by_cases h5 : 512 < s
  · rw [if_pos h5]
    have hd : decide ((512 : Int) < (s : Int)) = true := decide_eq_true (by omega)
    go_enter Try.func44, Try.ntmps44
    go_wp2_with fail
    refine (chained_any _ _).mono ?_
    rintro en w1 ⟨rfl, rfl⟩
    rw [hd]
    go_wp2
    go_ret
    exact ⟨by go_num, rfl⟩
  · rw [if_neg h5]
    have hd : decide ((512 : Int) < (s : Int)) = false := decide_eq_false (by omega)
    go_enter Try.func44, Try.ntmps44
    go_wp2_with fail
    refine (chained_any _ _).mono ?_
    rintro en w1 ⟨rfl, rfl⟩
    rw [hd]
    go_wp2
    go_ret
    exact ⟨by go_num, rfl⟩
end Go.Proofs.Ytlfhonlifgpnhaa
