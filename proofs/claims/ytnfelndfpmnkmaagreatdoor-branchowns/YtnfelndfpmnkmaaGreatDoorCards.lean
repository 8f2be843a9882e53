/-
  DERIVED. GIVEN WITH THE SEED: THE CARDS: each row of YtnfelndfpmnkmaaGreatDoorRows.lean that lists a variable, with what it lists TIED to the program's text (the seventh form; the later family's looks); each row that meets fmt, with fmt's text TOLD by the authors' own Lean function (tested against real Go, not proved from fmt's source: count such statements apart). THE CARD IS WHAT COUNTS. Prove the row's statement (the work); the ties are given (YtnfelndfpmnkmaaGreatDoorTie.lean); close each card by the builder's one call (the guide's Derived/Test/ToyasCard.lean, 'card_holds'). Laid BY PROGRAM, IN A SANDBOX (cutbox-door.mjs). By AI agents, Wed Nov 11 2026. No macro, syntax, notation, axiom, sorry.
-/
import Derived.Test.YtnfelndfpmnkmaaGreatDoorRows
import GoSem.ClaimSeven
namespace Go.Proofs.YtnfelndfpmnkmaaGreatDoor
namespace Rows

/-- THE TIED CARD OF 'coppicelaw5.BranchOwns'. -/
def branchOwnsCard : Claim7 := { stood := { row := branchOwnsRow, standIns := [], harness := (true, "41f27bd637ba91156a7fd5b7d62297dde96e1e5386ce39f69ad44cdbed91b04b"), looks := false }, kinds := [], alts := [], laidByText := true, laidKinds := [.data, .data, .data], laidTests := true, laidLooks := .later }
def BranchOwnsCardSaid : Prop := Claim7.holds Tryz.pinned (.plain (OpenSpec.ofChange branchOwnsSpec)) branchOwnsCard

/-- THE SECOND FORM's CARD OF 'coppicelaw5.BranchOwns'. -/
def branchOwnsUptoCard : Claim7 := { stood := { row := branchOwnsUptoRow, standIns := [], harness := (true, "41f27bd637ba91156a7fd5b7d62297dde96e1e5386ce39f69ad44cdbed91b04b"), looks := false }, kinds := [], alts := [], laidByText := true, laidKinds := [.data, .data, .data], laidTests := true, laidLooks := .later }
def BranchOwnsUptoCardSaid : Prop := Claim7.holds Tryz.pinned (.plain (OpenSpec.upto branchOwnsSpec)) branchOwnsUptoCard
end Rows
end Go.Proofs.YtnfelndfpmnkmaaGreatDoor
