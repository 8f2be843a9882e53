import Derived.Test.YtnghkgnpbcadaaaDoorCrc5
namespace Go.Proofs.YtnghkgnpbcadaaaDoor
open Go.RowKit

set_option maxHeartbeats 400000 in
theorem refSum_any (ao : Option Addr) (n cap : Nat) (zs : List Int) (w : World) (hb : Byt w ao n cap zs) (bt : Bt zs) (hn : n ≤ 140737488351232) :
    Calls Tryd.prog 12 #[.slice ao n cap] w fun e w' => e = .returned (.int .u32 ((upd 0 zs : Nat) : Int)) ∧ w' = w := by
  go_enter Tryd.func12, Tryd.ntmps12
  go_wp2_with fail
  refine (refUpdate_any 0 ao n cap zs w (by decide) hb bt hn).mono ?_
  rintro e w' ⟨rfl, rfl⟩
  have hl := upd_lt 0 zs
  generalize hs : upd 0 zs = s at *
  have HS := hid_intro hs
  clear hs hb bt
  go_wp2
  go_ret
  rw [HS.out]
  exact ⟨rfl, rfl⟩

/-- The block g has c cells, the first ones the bytes zs. -/
structure Rx (w : World) (g c : Nat) (zs : List Int) : Prop where
  le : zs.length ≤ c
  max : c ≤ maxLen
  row : ∃ cur, w.heap[g]? = some (.cells cur 5 (0, 0)) ∧ cur.size = c ∧ ∀ i, i < zs.length → cur[i]? = some (.int .u8 (zs.getD i 0))
theorem Rx.lt {w : World} {g c : Nat} {zs : List Int} (h : Rx w g c zs) : g < w.heap.size := by
  obtain ⟨cur, hc, _⟩ := h.row
  exact (Array.getElem?_eq_some_iff.1 hc).1
theorem Rx.cell {w : World} {g c : Nat} {zs : List Int} (h : Rx w g c zs) (i : Nat) (hi : i < zs.length) : w.cell? ⟨g, i, none⟩ = some (.int .u8 (zs.getD i 0)) := by
  obtain ⟨cur, hc, hs, hx⟩ := h.row
  rw [cell_of_row w g i _ _ (0, 0) hc]
  exact hx i hi
theorem Rx.free {w : World} {g c : Nat} {zs : List Int} (h : Rx w g c zs) (i : Nat) : w.frozen? ⟨g, i, none⟩ = false := by
  obtain ⟨cur, hc, hs, hx⟩ := h.row
  exact frozen_of_row w g i _ _ hc
theorem Rx.byt {w : World} {g c : Nat} {zs : List Int} (h : Rx w g c zs) (n cap : Nat) (hn : n ≤ zs.length) : Byt w (some ⟨g, 0, none⟩) n cap (zs.take n) := by
  refine Byt.of_cells (by rw [List.length_take]; omega) fun i hi => ?_
  rw [Nat.zero_add, h.cell i (by omega)]
  simp [List.getD, hi]
theorem Rx.kept {w w' : World} {row : Option Nat} {g c : Nat} {zs : List Int} (h : Rx w g c zs) (hg : w.grownBy w' row) (hne : some g ≠ row) : Rx w' g c zs := by
  obtain ⟨cur, hc, hs, hx⟩ := h.row
  exact ⟨h.le, h.max, cur, (hg.block g h.lt hne).trans hc, hs, hx⟩
theorem Rx.keptN {w w' : World} {g c : Nat} {zs : List Int} (h : Rx w g c zs) (hg : w.grownBy w' none) : Rx w' g c zs := h.kept hg (by simp)
theorem Rx.of_owns {w : World} {base n g c : Nat} {zs : List Int} (h : w.ownsRow base 5 1 (.slice (some ⟨g, 0, none⟩) n c) n (zs.map (Value.int .u8))) : Rx w g c zs ∧ base ≤ g := by
  rcases h with ⟨hl, ⟨h0, _⟩ | ⟨g', cap, cur, hv, hb, hg, hn, hm, hs, ht⟩⟩
  · cases h0
  · injection hv with e1 e2 e3
    injection e1 with e1
    injection e1 with e4
    subst e4 e3
    have hz : zs.length = n := by simpa using hl
    refine ⟨⟨by omega, hm, cur, hg, by simpa using hs, fun i hi => ?_⟩, hb⟩
    have hx := congrArg (fun l => l[i]?) ht
    rw [← Array.getElem?_toList]
    simp only [Nat.mul_one, List.getElem?_take, hz ▸ hi, if_true] at hx
    rw [hx]
    simp [List.getD, List.getElem?_eq_getElem hi]
/-- A byte is written over. -/
theorem Rx.set {w : World} {g c : Nat} {zs : List Int} (h : Rx w g c zs) (j : Nat) (hj : j < zs.length) (z : Int) : Rx (w.setCell ⟨g, j, none⟩ (.int .u8 z)) g c (zs.set j z) := by
  obtain ⟨cur, hc, hs, hx⟩ := h.row
  refine ⟨by simpa using h.le, h.max, cur.setIfInBounds j (.int .u8 z), by rw [heap_setCell_same w g j _ _ _ hc], by simp [hs], fun i hi => ?_⟩
  rw [List.length_set] at hi
  have hle := h.le
  by_cases hij : i = j
  · subst hij
    rw [Array.getElem?_setIfInBounds_self_of_lt (by omega)]
    simp [List.getD, hi]
  · rw [Array.getElem?_setIfInBounds_ne (by omega), hx i hi]
    simp [List.getD, List.getElem?_set_ne (Ne.symm hij)]
theorem grown_set (w : World) (g j : Nat) (v : Value) : w.grownBy (w.setCell ⟨g, j, none⟩ v) (some g) :=
  ⟨rfl, rfl, rfl, by simp, fun k _ hk => heap_setCell_other w ⟨g, j, none⟩ k _ (fun e => hk (by simp [e]))⟩
theorem Bt.set {zs : List Int} (h : Bt zs) (j : Nat) (z : Int) (hz : 0 ≤ z ∧ z ≤ 255) : Bt (zs.set j z) := by
  intro y hy
  rcases List.mem_or_eq_of_mem_set hy with h1 | h1
  · exact h y h1
  · subst h1; exact hz

theorem bt_marks : Bt [201, 202, 203] := by intro z hz; simp at hz; omega

set_option maxHeartbeats 1000000 in
/-- room: a copy with three marks behind it. -/
theorem room_any (ao : Option Addr) (n cap : Nat) (zs : List Int) (w : World) (hb : Byt w ao n cap zs) (hn : n ≤ 70000) :
    Calls Tryd.prog 10 #[.slice ao n cap] w fun e w' => ∃ g c, e = .returned (.slice (some ⟨g, 0, none⟩) (n + 3) c) ∧ Rx w' g c (zs ++ [201, 202, 203]) ∧ w.heap.size ≤ g ∧ n + 3 ≤ c ∧ w.grownBy w' none := by
  have HL := hid_intro hb.len
  go_enter Tryd.func10, Tryd.ntmps10
  go_wp2_with fail
  refine (refBytes_any ao n cap zs w hb (by omega)).mono ?_
  rintro e w1 ⟨rfl, hown1, hg1, hs1⟩
  clear hb
  go_wp2_with (at_builtin; refine wpList_append_byt rfl _ _ rfl w.heap.size _ n zs rfl (hown1.alloc _) _ 3 3 [201, 202, 203] rfl (Byt.lit w1 5 _ _ 3 rfl rfl) (by omega) (by simp; omega) ?_)
  intro v w2 hown2 hg2
  have G2 := hid_intro (grown_own hg1 hown1 (Nat.le_refl _) hg2)
  have hown2 : w2.ownsRow w.heap.size 5 1 v (n + 3) ((zs ++ [201, 202, 203]).map (Value.int .u8)) := by rw [List.map_append]; exact hown2
  obtain ⟨g, c, rfl, hbg, hlt, hnc⟩ := owns_shape hown2 (by omega)
  have R2 := hid_intro (Rx.of_owns hown2).1
  clear hown1 hown2 hg1 hg2
  go_wp2
  go_ret
  exact ⟨g, c, rfl, R2.out, hbg, hnc, G2.out⟩

set_option maxHeartbeats 2000000 in
/-- still: the copy and its marks are as they were. -/
theorem still_any (bo : Option Addr) (g c n cb : Nat) (zs : List Int) (w : World) (hr : Rx w g c (zs ++ [201, 202, 203])) (hb : Byt w bo n cb zs) (hc : n + 3 ≤ c) (hn : n ≤ 70000) :
    Calls Tryd.prog 13 #[.slice (some ⟨g, 0, none⟩) (n + 3) c, .slice bo n cb] w fun e w' => e = .returned (.bool true) ∧ w' = w := by
  have hl := hb.len
  have hbt : Byt w (some ⟨g, 0, none⟩) n c zs := by
    have := hr.byt n c (by rw [List.length_append]; omega)
    rwa [List.take_left' hl] at this
  have c0 : w.cell? ⟨g, n, none⟩ = some (.int .u8 201) := by have := hr.cell n (by simp; omega); rw [this]; simp [List.getD, hl]
  have c1 : w.cell? ⟨g, n + 1, none⟩ = some (.int .u8 202) := by have := hr.cell (n + 1) (by simp; omega); rw [this]; simp [List.getD, hl]
  have c2 : w.cell? ⟨g, n + 2, none⟩ = some (.int .u8 203) := by have := hr.cell (n + 2) (by simp; omega); rw [this]; simp [List.getD, hl]
  have hcn : (n : Int) ≤ (c : Int) := by omega
  have HA := hid_intro hbt
  have HB := hid_intro hb
  clear hr hb hbt hl
  go_enter Tryd.func13, Tryd.ntmps13
  go_wp2_with fail
  refine (same_yes _ _ n n c cb zs zs w HA.out HB.out rfl).mono ?_
  rintro e w1 ⟨rfl, rfl⟩
  clear HA HB
  go_wp2
  go_ret
  exact ⟨rfl, rfl⟩
/-- Where '(at%n + n) % n' lies. -/
theorem turn_at (x : Int) (n : Nat) (h0 : 0 < n) (hn : n ≤ 70000) : ∃ k : Nat, k < n ∧ Int.tmod (Int.tmod x n + n) n = (k : Int) ∧ 0 ≤ Int.tmod x n + n ∧ Int.tmod x n + n ≤ 140000 := by
  have h1 := Int.tmod_lt_of_pos x (show (0 : Int) < n by omega)
  have h2 := Int.lt_tmod_of_pos x (show (0 : Int) < n by omega)
  rw [Int.tmod_eq_emod_of_nonneg (by omega)]
  have h4 := Int.emod_nonneg (Int.tmod x n + n) (show (n : Int) ≠ 0 by omega)
  have h5 := Int.emod_lt_of_pos (Int.tmod x n + n) (show (0 : Int) < n by omega)
  exact ⟨((Int.tmod x n + n) % n).toNat, by omega, by omega, by omega, by omega⟩
theorem Tab.pos {w : World} (h : Tab w) : 0 < w.heap.size := World.block_lt_of_cell? w _ (h 0 (by decide))

/-- What stands where one byte of a copy was turned. -/
theorem turned_facts {w w5 : World} {g c n k x : Nat} {zs : List Int} (hr : Rx w5 g c (zs ++ [201, 202, 203])) (bt : Bt zs) (hl : zs.length = n) (hk : k < n) (hx : x < 256) (hg : w.grownBy w5 none) (hs : w.heap.size ≤ g) (ht : Tab w) :
    ∃ z y : Nat, z < 256 ∧ y < 256 ∧ w5.cell? ⟨g, k, none⟩ = some (.int .u8 z) ∧ bits .xor .u8 (z : Int) (x : Int) = (y : Int) ∧
      ∃ ys, ys.length = n ∧ Bt ys ∧ Byt (w5.setCell ⟨g, k, none⟩ (.int .u8 y)) (some ⟨g, 0, none⟩) n c ys ∧ w.grownBy (w5.setCell ⟨g, k, none⟩ (.int .u8 y)) none ∧ Tab (w5.setCell ⟨g, k, none⟩ (.int .u8 y)) := by
  have hz := bt.getD k
  have hc := hr.cell k (by rw [List.length_append]; omega)
  have e1 : (zs ++ [201, 202, 203]).getD k 0 = zs.getD k 0 := by simp [List.getD, List.getElem?_append_left (show k < zs.length by omega)]
  rw [e1] at hc
  have hx1 := u8_xor_nat (zs.getD k 0).toNat x (by omega) hx
  have hy := @Nat.xor_lt_two_pow (zs.getD k 0).toNat x 8 (show (zs.getD k 0).toNat < 256 by omega) (by simpa using hx)
  have e2 : (((zs.getD k 0).toNat : Nat) : Int) = zs.getD k 0 := by omega
  refine ⟨(zs.getD k 0).toNat, (zs.getD k 0).toNat ^^^ x, by omega, hy, by rw [e2]; exact hc, hx1, zs.set k (((zs.getD k 0).toNat ^^^ x : Nat) : Int), by rw [List.length_set]; exact hl, bt.set _ _ (by have h9 : (zs.getD k 0).toNat ^^^ x < 256 := hy; omega), ?_, grown_new hg (grown_set w5 g k _) hs, ?_⟩
  · have := (hr.set k (by rw [List.length_append]; omega) (((zs.getD k 0).toNat ^^^ x : Nat) : Int)).byt n c (by rw [List.length_set, List.length_append]; omega)
    rw [List.set_append_left _ _ (by omega), List.take_left' (by rw [List.length_set]; exact hl)] at this
    exact this
  · exact (ht.keptN hg).kept (grown_set w5 g k _) (by have := ht.pos; simp; omega)
end Go.Proofs.YtnghkgnpbcadaaaDoor
