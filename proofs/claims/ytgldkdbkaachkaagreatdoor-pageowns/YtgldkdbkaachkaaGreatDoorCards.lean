/-
  DERIVED. GIVEN WITH THE SEED: THE CARDS: each row of YtgldkdbkaachkaaGreatDoorRows.lean that lists a variable, with what it lists TIED to the program's text (the seventh form; the later family's looks); each row that meets fmt, with fmt's text TOLD by the authors' own Lean function (tested against real Go, not proved from fmt's source: count such statements apart). THE CARD IS WHAT COUNTS. Prove the row's statement (the work); the ties are given (YtgldkdbkaachkaaGreatDoorTie.lean); close each card by the builder's one call (the guide's Derived/Test/ToyasCard.lean, 'card_holds'). Laid BY PROGRAM, IN A SANDBOX (cutbox-door.mjs). By AI agents, Wed Nov 11 2026. No macro, syntax, notation, axiom, sorry.
-/
import Derived.Test.YtgldkdbkaachkaaGreatDoorRows
import GoSem.ClaimSeven
namespace Go.Proofs.YtgldkdbkaachkaaGreatDoor
namespace Rows

/-- THE TIED CARD OF 'coppicelaw8.PageOwns'. -/
def pageOwnsCard : Claim7 := { stood := { row := pageOwnsRow, standIns := [], harness := (true, "5427b8651e7289e8747ab82bc4bf3cf899f51655d7e394bbf4653455f793758f"), looks := false }, kinds := [], alts := [], laidByText := true, laidKinds := [.data, .data, .data, .data, .data, .data], laidTests := true, laidLooks := .later }
def PageOwnsCardSaid : Prop := Claim7.holds Tryz.pinned (.plain (OpenSpec.ofChange pageOwnsSpec)) pageOwnsCard

/-- THE SECOND FORM's CARD OF 'coppicelaw8.PageOwns'. -/
def pageOwnsUptoCard : Claim7 := { stood := { row := pageOwnsUptoRow, standIns := [], harness := (true, "5427b8651e7289e8747ab82bc4bf3cf899f51655d7e394bbf4653455f793758f"), looks := false }, kinds := [], alts := [], laidByText := true, laidKinds := [.data, .data, .data, .data, .data, .data], laidTests := true, laidLooks := .later }
def PageOwnsUptoCardSaid : Prop := Claim7.holds Tryz.pinned (.plain (OpenSpec.upto pageOwnsSpec)) pageOwnsUptoCard
end Rows
end Go.Proofs.YtgldkdbkaachkaaGreatDoor
