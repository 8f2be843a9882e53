import Derived.Test.YtioleabkbkmggaaDoorDuG
import Derived.Laws.BitsAllLaws
namespace Go.Proofs.YtioleabkbkmggaaDoor
open Go.RowKit

theorem xor_byteD {z x : Int} (hz : 0 ≤ z ∧ z ≤ 255) (hx : 0 ≤ x ∧ x ≤ 255) : 0 ≤ bits .xor .u8 z x ∧ bits .xor .u8 z x ≤ 255 := by
  have e := u8_xor z x hz.1 (by omega) hx.1 (by omega)
  have hlt := Nat.xor_lt_two_pow (x := z.toNat) (y := x.toNat) (n := 8) (by omega) (by omega)
  rw [e]
  omega
theorem Bt.setD {zs : List Int} (h : Bt zs) (j : Nat) (z : Int) (hz : 0 ≤ z ∧ z ≤ 255) : Bt (zs.set j z) := by
  intro y hy
  rcases List.mem_or_eq_of_mem_set hy with h1 | h1
  · exact h y h1
  · subst h1; exact hz
theorem placeD (x : Int) (n : Nat) (h : 0 < n) : ∃ (k : Nat) (y : Int), k < n ∧ Int.tmod x (n : Int) = y ∧ -(n : Int) < y ∧ y < (n : Int) ∧ Int.tmod (y + (n : Int)) (n : Int) = (k : Int) := by
  have h1 := Int.tmod_lt_of_pos x (show (0 : Int) < (n : Int) by omega)
  have h2 := Int.lt_tmod_of_pos x (show (0 : Int) < (n : Int) by omega)
  have h3 := Int.emod_nonneg (Int.tmod x n + n) (show (n : Int) ≠ 0 by omega)
  have h4 := Int.emod_lt_of_pos (Int.tmod x n + n) (show (0 : Int) < (n : Int) by omega)
  refine ⟨((Int.tmod x n + n) % n).toNat, _, by omega, rfl, h2, h1, ?_⟩
  rw [Int.tmod_eq_emod_of_nonneg (by omega)]
  omega
theorem own_setD {w : World} {base g n c k : Nat} {zs : List Int} {z : Int} (h : w.ownsRow base 5 1 (.slice (some ⟨g, 0, none⟩) n c) n (zs.map (Value.int .u8))) : (w.setCell ⟨g, k, none⟩ (.int .u8 z)).ownsRow base 5 1 (.slice (some ⟨g, 0, none⟩) n c) n ((zs.set k z).map (Value.int .u8)) := by
  have h1 := h.1
  refine ⟨by simpa using h1, ?_⟩
  rcases h.2 with ⟨e, _⟩ | ⟨g', cap, cur, e1, e2, e3, e4, e5, e6, e7⟩
  · cases e
  · simp only [Value.slice.injEq, Option.some.injEq, Addr.mk.injEq, and_true] at e1
    obtain ⟨e1, _, rfl⟩ := e1
    subst e1
    refine .inr ⟨g, c, _, rfl, e2, heap_setCell_same w g k _ _ (.int .u8 z) e3, e4, e5, by rw [Array.size_setIfInBounds]; exact e6, ?_⟩
    rw [Array.toList_setIfInBounds, List.take_set, e7, List.map_set]
theorem own_atD {w : World} {base n : Nat} {v : Value} {zs : List Int} (h : w.ownsRow base 5 1 v n (zs.map (Value.int .u8))) (hn : 0 < n) : ∃ g c, v = .slice (some ⟨g, 0, none⟩) n c ∧ base ≤ g ∧ n ≤ c ∧ (∀ i, i < n → w.cell? ⟨g, i, none⟩ = some (.int .u8 (zs.getD i 0))) ∧ (∀ i, w.frozen? ⟨g, i, none⟩ = false) := by
  have h1 := h.1
  rcases h.2 with ⟨_, e⟩ | ⟨g, cap, cur, e1, e2, e3, e4, e5, e6, e7⟩
  · omega
  · refine ⟨g, cap, e1, e2, e4, fun i hi => ?_, fun i => Lib.frozen_of_heap e3 i⟩
    have hz : i < zs.length := by simp at h1; omega
    have := (Byt.of_owns (w := w) (base := base) (g := g) (n := n) (cap := cap) (zs := zs) (e := 5) (by rw [← e1]; exact h)).cells ⟨g, 0, none⟩ rfl i (.int .u8 (zs.getD i 0)) (by simp [List.getD, List.getElem?_eq_getElem hz])
    rw [Addr.add_lit, Nat.zero_add] at this
    exact this
theorem grown_setN {w w' : World} {base g n c : Nat} {zs : List Value} (h : w.grownBy w' none) (ho : w'.ownsRow base 5 1 (.slice (some ⟨g, 0, none⟩) n c) n zs) (hb : w.heap.size ≤ base) (k : Nat) (v : Value) : w.grownBy (w'.setCell ⟨g, k, none⟩ v) none := grown_setd h (by have := (ho.lt g rfl).1; omega) k v
end Go.Proofs.YtioleabkbkmggaaDoor
