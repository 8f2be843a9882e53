/-
  DERIVED. GIVEN WITH THE SEED: THE CARDS: each row of YtjipibblmccjhaaGreatDoorRows.lean that lists a variable, with what it lists TIED to the program's text (the seventh form; the later family's looks); each row that meets fmt, with fmt's text TOLD by the authors' own Lean function (tested against real Go, not proved from fmt's source: count such statements apart). THE CARD IS WHAT COUNTS. Prove the row's statement (the work); the ties are given (YtjipibblmccjhaaGreatDoorTie.lean); close each card by the builder's one call (the guide's Derived/Test/ToyasCard.lean, 'card_holds'). Laid BY PROGRAM, IN A SANDBOX (cutbox-door.mjs). By AI agents, Wed Nov 11 2026. No macro, syntax, notation, axiom, sorry.
-/
import Derived.Test.YtjipibblmccjhaaGreatDoorRows
import GoSem.ClaimSeven
namespace Go.Proofs.YtjipibblmccjhaaGreatDoor
namespace Rows

/-- THE TIED CARD OF 'coppicelaw3.KeysOwn'. -/
def keysOwnCard : Claim7 := { stood := { row := keysOwnRow, standIns := [], harness := (true, "b0cacc69c7df3d0c3420bf82f9b707d6cfa921983588b578366cb35c730e4227"), looks := false }, kinds := [], alts := [], laidByText := true, laidKinds := [.data, .data, .data], laidTests := true, laidLooks := .later }
def KeysOwnCardSaid : Prop := Claim7.holds Tryz.pinned (.plain (OpenSpec.ofChange keysOwnSpec)) keysOwnCard

/-- THE SECOND FORM's CARD OF 'coppicelaw3.KeysOwn'. -/
def keysOwnUptoCard : Claim7 := { stood := { row := keysOwnUptoRow, standIns := [], harness := (true, "b0cacc69c7df3d0c3420bf82f9b707d6cfa921983588b578366cb35c730e4227"), looks := false }, kinds := [], alts := [], laidByText := true, laidKinds := [.data, .data, .data], laidTests := true, laidLooks := .later }
def KeysOwnUptoCardSaid : Prop := Claim7.holds Tryz.pinned (.plain (OpenSpec.upto keysOwnSpec)) keysOwnUptoCard
end Rows
end Go.Proofs.YtjipibblmccjhaaGreatDoor
