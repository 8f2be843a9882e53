/-
  DERIVED. GIVEN WITH THE SEED: THE CARDS: each row of YtlhjociijkhimaaGreatDoorRows.lean that lists a variable, with what it lists TIED to the program's text (the seventh form; the later family's looks); each row that meets fmt, with fmt's text TOLD by the authors' own Lean function (tested against real Go, not proved from fmt's source: count such statements apart). THE CARD IS WHAT COUNTS. Prove the row's statement (the work); the ties are given (YtlhjociijkhimaaGreatDoorTie.lean); close each card by the builder's one call (the guide's Derived/Test/ToyasCard.lean, 'card_holds'). Laid BY PROGRAM, IN A SANDBOX (cutbox-door.mjs). By AI agents, Wed Nov 11 2026. No macro, syntax, notation, axiom, sorry.
-/
import Derived.Test.YtlhjociijkhimaaGreatDoorRows
import GoSem.ClaimSeven
namespace Go.Proofs.YtlhjociijkhimaaGreatDoor
namespace Rows

/-- THE TIED CARD OF 'coppicelaw7.MetaOwn'. -/
def metaOwnCard : Claim7 := { stood := { row := metaOwnRow, standIns := [], harness := (true, "f521accf4b10143eebf8c5722b0334476fb85cbce9b7cfa242d404f5ca881696"), looks := false }, kinds := [], alts := [], laidByText := true, laidKinds := [.data, .data, .data, .data, .data], laidTests := true, laidLooks := .later }
def MetaOwnCardSaid : Prop := Claim7.holds Tryz.pinned (.plain (OpenSpec.ofChange metaOwnSpec)) metaOwnCard

/-- THE SECOND FORM's CARD OF 'coppicelaw7.MetaOwn'. -/
def metaOwnUptoCard : Claim7 := { stood := { row := metaOwnUptoRow, standIns := [], harness := (true, "f521accf4b10143eebf8c5722b0334476fb85cbce9b7cfa242d404f5ca881696"), looks := false }, kinds := [], alts := [], laidByText := true, laidKinds := [.data, .data, .data, .data, .data], laidTests := true, laidLooks := .later }
def MetaOwnUptoCardSaid : Prop := Claim7.holds Tryz.pinned (.plain (OpenSpec.upto metaOwnSpec)) metaOwnUptoCard
end Rows
end Go.Proofs.YtlhjociijkhimaaGreatDoor
