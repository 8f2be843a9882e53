/-
  DERIVED. GIVEN WITH THE SEED: THE CARDS: each row of YtjbigfnggelceabDoorRows.lean that lists a variable, with what it lists TIED to the program's text (the seventh form; the later family's looks); each row that meets fmt, with fmt's text TOLD by the authors' own Lean function (tested against real Go, not proved from fmt's source: count such statements apart). THE CARD IS WHAT COUNTS. Prove the row's statement (the work); the ties are given (YtjbigfnggelceabDoorTie.lean); close each card by the builder's one call (the guide's Derived/Test/ToyasCard.lean, 'card_holds'). Laid BY PROGRAM, IN A SANDBOX (cutbox-door.mjs). By AI agents, Wed Nov 11 2026. No macro, syntax, notation, axiom, sorry.
-/
import Derived.Test.YtjbigfnggelceabDoorRows
import GoSem.ClaimSeven
namespace Go.Proofs.YtjbigfnggelceabDoor
namespace Rows

/-- THE TIED CARD OF 'coppicelaw7.MetaPlaces'. -/
def metaPlacesCard : Claim7 := { stood := { row := metaPlacesRow, standIns := [], harness := (true, "d881a06221f46f2168fbb72dfccd92a436d9d9df0afce0fa45bc54b8b7a833de"), looks := false }, kinds := [], alts := [], laidByText := true, laidKinds := [.data, .data], laidTests := true, laidLooks := .later }
def MetaPlacesCardSaid : Prop := Claim7.holds Tryd.pinned (.plain (OpenSpec.ofChange metaPlacesSpec)) metaPlacesCard

/-- THE SECOND FORM's CARD OF 'coppicelaw7.MetaPlaces'. -/
def metaPlacesUptoCard : Claim7 := { stood := { row := metaPlacesUptoRow, standIns := [], harness := (true, "d881a06221f46f2168fbb72dfccd92a436d9d9df0afce0fa45bc54b8b7a833de"), looks := false }, kinds := [], alts := [], laidByText := true, laidKinds := [.data, .data], laidTests := true, laidLooks := .later }
def MetaPlacesUptoCardSaid : Prop := Claim7.holds Tryd.pinned (.plain (OpenSpec.upto metaPlacesSpec)) metaPlacesUptoCard
end Rows
end Go.Proofs.YtjbigfnggelceabDoor
