/-
  DERIVED. GIVEN WITH THE SEED: THE CARDS: each row of YtmbbflfknldaoaaGreatDoorRows.lean that lists a variable, with what it lists TIED to the program's text (the seventh form; the later family's looks); each row that meets fmt, with fmt's text TOLD by the authors' own Lean function (tested against real Go, not proved from fmt's source: count such statements apart). THE CARD IS WHAT COUNTS. Prove the row's statement (the work); the ties are given (YtmbbflfknldaoaaGreatDoorTie.lean); close each card by the builder's one call (the guide's Derived/Test/ToyasCard.lean, 'card_holds'). Laid BY PROGRAM, IN A SANDBOX (cutbox-door.mjs). By AI agents, Wed Nov 11 2026. No macro, syntax, notation, axiom, sorry.
-/
import Derived.Test.YtmbbflfknldaoaaGreatDoorRows
import GoSem.ClaimSeven
namespace Go.Proofs.YtmbbflfknldaoaaGreatDoor
namespace Rows

/-- THE TIED CARD OF 'coppicelaw6.ChainOwn'. -/
def chainOwnCard : Claim7 := { stood := { row := chainOwnRow, standIns := [], harness := (true, "86da002c0a9534632d962c2576c27fd2864f16caefe6bf16828e0ee94c071b53"), looks := false }, kinds := [], alts := [], laidByText := true, laidKinds := [.data, .data, .data], laidTests := true, laidLooks := .later }
def ChainOwnCardSaid : Prop := Claim7.holds Tryz.pinned (.plain (OpenSpec.ofChange chainOwnSpec)) chainOwnCard

/-- THE SECOND FORM's CARD OF 'coppicelaw6.ChainOwn'. -/
def chainOwnUptoCard : Claim7 := { stood := { row := chainOwnUptoRow, standIns := [], harness := (true, "86da002c0a9534632d962c2576c27fd2864f16caefe6bf16828e0ee94c071b53"), looks := false }, kinds := [], alts := [], laidByText := true, laidKinds := [.data, .data, .data], laidTests := true, laidLooks := .later }
def ChainOwnUptoCardSaid : Prop := Claim7.holds Tryz.pinned (.plain (OpenSpec.upto chainOwnSpec)) chainOwnUptoCard
end Rows
end Go.Proofs.YtmbbflfknldaoaaGreatDoor
