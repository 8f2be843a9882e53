/-
  DERIVED. GIVEN WITH THE SEED: THE CARDS: each row of YtgipnfbojnllnaaGreatDoorRows.lean that lists a variable, with what it lists TIED to the program's text (the seventh form; the later family's looks); each row that meets fmt, with fmt's text TOLD by the authors' own Lean function (tested against real Go, not proved from fmt's source: count such statements apart). THE CARD IS WHAT COUNTS. Prove the row's statement (the work); the ties are given (YtgipnfbojnllnaaGreatDoorTie.lean); close each card by the builder's one call (the guide's Derived/Test/ToyasCard.lean, 'card_holds'). Laid BY PROGRAM, IN A SANDBOX (cutbox-door.mjs). By AI agents, Wed Nov 11 2026. No macro, syntax, notation, axiom, sorry.
-/
import Derived.Test.YtgipnfbojnllnaaGreatDoorRows
import GoSem.ClaimSeven
namespace Go.Proofs.YtgipnfbojnllnaaGreatDoor
namespace Rows

/-- THE TIED CARD OF 'coppicelaw1.WireOwn'. -/
def wireOwnCard : Claim7 := { stood := { row := wireOwnRow, standIns := [], harness := (true, "dffcb7a74c7ca5fb4e644888e0413e6b989a945f85985d17f91c072d4b92bd46"), looks := false }, kinds := [], alts := [], laidByText := true, laidKinds := [.data, .data, .data], laidTests := true, laidLooks := .later }
def WireOwnCardSaid : Prop := Claim7.holds Tryz.pinned (.plain (OpenSpec.ofChange wireOwnSpec)) wireOwnCard

/-- THE TIED CARD OF 'coppicelaw2.CrcOwns'. -/
def crcOwnsCard : Claim7 := { stood := { row := crcOwnsRow, standIns := [], harness := (true, "dffcb7a74c7ca5fb4e644888e0413e6b989a945f85985d17f91c072d4b92bd46"), looks := false }, kinds := [], alts := [], laidByText := true, laidKinds := [.data, .data, .data, .data], laidTests := true, laidLooks := .later }
def CrcOwnsCardSaid : Prop := Claim7.holds Tryz.pinned (.plain (OpenSpec.ofChange crcOwnsSpec)) crcOwnsCard

/-- THE SECOND FORM's CARD OF 'coppicelaw1.WireOwn'. -/
def wireOwnUptoCard : Claim7 := { stood := { row := wireOwnUptoRow, standIns := [], harness := (true, "dffcb7a74c7ca5fb4e644888e0413e6b989a945f85985d17f91c072d4b92bd46"), looks := false }, kinds := [], alts := [], laidByText := true, laidKinds := [.data, .data, .data], laidTests := true, laidLooks := .later }
def WireOwnUptoCardSaid : Prop := Claim7.holds Tryz.pinned (.plain (OpenSpec.upto wireOwnSpec)) wireOwnUptoCard

/-- THE SECOND FORM's CARD OF 'coppicelaw2.CrcOwns'. -/
def crcOwnsUptoCard : Claim7 := { stood := { row := crcOwnsUptoRow, standIns := [], harness := (true, "dffcb7a74c7ca5fb4e644888e0413e6b989a945f85985d17f91c072d4b92bd46"), looks := false }, kinds := [], alts := [], laidByText := true, laidKinds := [.data, .data, .data, .data], laidTests := true, laidLooks := .later }
def CrcOwnsUptoCardSaid : Prop := Claim7.holds Tryz.pinned (.plain (OpenSpec.upto crcOwnsSpec)) crcOwnsUptoCard
end Rows
end Go.Proofs.YtgipnfbojnllnaaGreatDoor
