/-
  DERIVED. GIVEN WITH THE SEED: THE CARDS: each row of YtcdkkhbkicejiaaGreatDoorRows.lean that lists a variable, with what it lists TIED to the program's text (the seventh form; the later family's looks); each row that meets fmt, with fmt's text TOLD by the authors' own Lean function (tested against real Go, not proved from fmt's source: count such statements apart). THE CARD IS WHAT COUNTS. Prove the row's statement (the work); the ties are given (YtcdkkhbkicejiaaGreatDoorTie.lean); close each card by the builder's one call (the guide's Derived/Test/ToyasCard.lean, 'card_holds'). Laid BY PROGRAM, IN A SANDBOX (cutbox-door.mjs). By AI agents, Wed Nov 11 2026. No macro, syntax, notation, axiom, sorry.
-/
import Derived.Test.YtcdkkhbkicejiaaGreatDoorRows
import GoSem.ClaimSeven
namespace Go.Proofs.YtcdkkhbkicejiaaGreatDoor
namespace Rows

/-- THE TIED CARD OF 'coppicelaw4.LeafOwn'. -/
def leafOwnCard : Claim7 := { stood := { row := leafOwnRow, standIns := [], harness := (true, "f553b0901486c0a0143b0da6853db80c168d3c24b919e0832aa2c8809c6b1867"), looks := false }, kinds := [], alts := [], laidByText := true, laidKinds := [.data, .data, .data], laidTests := true, laidLooks := .later }
def LeafOwnCardSaid : Prop := Claim7.holds Tryz.pinned (.plain (OpenSpec.ofChange leafOwnSpec)) leafOwnCard

/-- THE SECOND FORM's CARD OF 'coppicelaw4.LeafOwn'. -/
def leafOwnUptoCard : Claim7 := { stood := { row := leafOwnUptoRow, standIns := [], harness := (true, "f553b0901486c0a0143b0da6853db80c168d3c24b919e0832aa2c8809c6b1867"), looks := false }, kinds := [], alts := [], laidByText := true, laidKinds := [.data, .data, .data], laidTests := true, laidLooks := .later }
def LeafOwnUptoCardSaid : Prop := Claim7.holds Tryz.pinned (.plain (OpenSpec.upto leafOwnSpec)) leafOwnUptoCard
end Rows
end Go.Proofs.YtcdkkhbkicejiaaGreatDoor
