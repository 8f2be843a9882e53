import Derived.Test.YtmbbflfknldaoaaGreatDoorQ10
import Derived.Deep.RegionLaw
namespace Go.Proofs.YtmbbflfknldaoaaGreatDoor
open Go.RowKit
structure Lz (w : World) (a : Option Addr) (L : List (List Int)) : Prop where
 row : ∀ i, i < L.length → ∃ b off ao n c, a = some ⟨b, off, none⟩ ∧ w.cell? ⟨b, off + i, none⟩ = some (.slice ao n c) ∧ Byt w ao n c (L.getD i []) ∧ n ≤ c ∧ c ≤ 9223372036854775807
theorem Lz.heap {w w' : World} {a : Option Addr} {L : List (List Int)} (h : Lz w a L) (e : w'.heap = w.heap) : Lz w' a L := by
 refine ⟨fun i hi => ?_⟩
 obtain ⟨b, off, ao, n, c, h1, h2, h3, h4, h5⟩ := h.row i hi
 exact ⟨b, off, ao, n, c, h1, (World.cell?_of_block (by rw [e])).trans h2, h3.heap e, h4, h5⟩
theorem Lz.keptN {w w' : World} {a : Option Addr} {L : List (List Int)} (h : Lz w a L) (hg : w.grownBy w' none) : Lz w' a L := by
 refine ⟨fun i hi => ?_⟩
 obtain ⟨b, off, ao, n, c, h1, h2, h3, h4, h5⟩ := h.row i hi
 exact ⟨b, off, ao, n, c, h1, hg.cell h2 (by simp), h3.keptN hg, h4, h5⟩
theorem Lz.zero (w : World) (a : Option Addr) : Lz w a [] := ⟨fun i hi => by simp at hi⟩
end Go.Proofs.YtmbbflfknldaoaaGreatDoor
