import Derived.Test.YtlhjociijkhimaaGreatDoorKeys3
import Derived.Deep.RegionLaw
namespace Go.Proofs.YtlhjociijkhimaaGreatDoor
open Go.RowKit

/-- A list of strings: each cell a slice of bytes. -/
structure Lz (w : World) (a : Option Addr) (L : List (List Int)) : Prop where
  row : ∀ i, i < L.length → ∃ b off ao n c, a = some ⟨b, off, none⟩ ∧ w.cell? ⟨b, off + i, none⟩ = some (.slice ao n c) ∧ Byt w ao n c (L.getD i []) ∧ n ≤ c ∧ c ≤ 9223372036854775807

theorem Lz.heap {w w' : World} {a : Option Addr} {L : List (List Int)} (h : Lz w a L) (e : w'.heap = w.heap) : Lz w' a L := by
  refine ⟨fun i hi => ?_⟩
  obtain ⟨b, off, ao, n, c, h1, h2, h3, h4, h5⟩ := h.row i hi
  exact ⟨b, off, ao, n, c, h1, (World.cell?_of_block (by rw [e])).trans h2, h3.heap e, h4, h5⟩
theorem Lz.keptN {w w' : World} {a : Option Addr} {L : List (List Int)} (h : Lz w a L) (hg : w.grownBy w' none) : Lz w' a L := by
  refine ⟨fun i hi => ?_⟩
  obtain ⟨b, off, ao, n, c, h1, h2, h3, h4, h5⟩ := h.row i hi
  exact ⟨b, off, ao, n, c, h1, hg.cell h2 (by simp), h3.keptN hg, h4, h5⟩
theorem Lz.tail {w : World} {b off : Nat} {z : List Int} {L : List (List Int)} (h : Lz w (some ⟨b, off, none⟩) (z :: L)) : Lz w (some ⟨b, off + 1, none⟩) L := by
  refine ⟨fun i hi => ?_⟩
  obtain ⟨b', off', ao, n, c, h1, h2, h3, h4, h5⟩ := h.row (i + 1) (by simpa using hi)
  simp only [Option.some.injEq, Addr.mk.injEq] at h1
  obtain ⟨rfl, rfl, _⟩ := h1
  exact ⟨b, off + 1, ao, n, c, rfl, by rw [show off + 1 + i = off + (i + 1) by omega]; exact h2, by simpa using h3, h4, h5⟩
theorem Lz.zero (w : World) (a : Option Addr) : Lz w a [] := ⟨fun i hi => by simp at hi⟩

theorem comAll_snoc (f : List Int) (k : Nat) (L : List (List Int)) (i : Nat) (h : i < L.length) : comAll f k (L.take (i + 1)) = min (comAll f k (L.take i)) (com f (L.getD i [])) := by
  have e : L.getD i [] = L[i] := by simp [List.getD, List.getElem?_eq_getElem h]
  unfold comAll
  rw [List.take_add_one, List.getElem?_eq_getElem h, List.foldl_append, e]
  rfl

/-- What all of a list have in common. -/
def comList : List (List Int) → Nat
  | [] => 0
  | z :: L => comAll z z.length L

end Go.Proofs.YtlhjociijkhimaaGreatDoor
