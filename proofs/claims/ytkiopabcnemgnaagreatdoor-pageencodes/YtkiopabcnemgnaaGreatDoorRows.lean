/-
  NARROWER THAN 'FOR EVERY INPUT', by the rows' own cells (each row's printed sentence says how): PageEncodes: laid · PagePlace: laid · PageDecodes: laid · PageBack: laid · PageSpoilt: laid · PageTorn: laid.
  DERIVED. THE GIVEN ROWS OF THIS SEAT. 6 by the template 'for every input the law returns true; each argument reads behind the call as it read before'; 0 by the template 'total and deterministic' (their statements: YtkiopabcnemgnaaGreatDoorTotals.lean).
  GIVEN WITH THE SEED: the statements are not yours to turn. If you find one false, say at which input.
  Laid BY PROGRAM, IN A SANDBOX (cutbox-rows.mjs): the forced cells as the released guide's own fill.sh prints them over the translation c1e880275bb48853… (all of the seat's roots in one cut). By AI agents, Wed Nov 11 2026. No macro, syntax, notation, axiom, sorry.
-/
import Derived.Test.YtkiopabcnemgnaaGreatDoorChecked
import GoSem.Claim
import GoSem.ClaimJoined
import GoSem.ClaimMapViews
import Derived.JoinedTies
import Derived.KernelRfl
namespace Go.Proofs.YtkiopabcnemgnaaGreatDoor
/- THE CELL 'sum', in the pinned program and in every row, IS THE sha256 OF THE DUMP (.gsa) THAT YtkiopabcnemgnaaGreatDoorProg.lean LOADS. Nothing in Lean hashes anything: it is a label: what it is worth is what the hold of that sum in a sandbox is worth. -/
noncomputable def Tryz.pinned : Pinned := { name := "ytkiopabcnemgnaagreatdoor", sum := "c1e880275bb4885369b853ebd9428a88506c229365d536c55a0951e9f52aa00b", checked := Tryz.checked }
namespace Rows
def none {H : Type} : Left H := { results := [], args := [] }

/- WHAT THE LISTED PACKAGE-LEVEL VARIABLES READ AS WHEN THE CALL BEGINS. Each datum BY PROGRAM (the guide's laid-datum.mjs) off the statement by which the dump's own 'gosem.cut.vars' lays the variable. In a bare row this is a premise. The card (YtkiopabcnemgnaaGreatDoorCards.lean) ties it to the program's text. -/
def laid_coppice_crc_fourSteps {H : Type} : DataW H := .agg [.lit (.int .u32 0), .lit (.int .u32 498536548), .lit (.int .u32 997073096), .lit (.int .u32 651767980), .lit (.int .u32 1994146192), .lit (.int .u32 1802195444), .lit (.int .u32 1303535960), .lit (.int .u32 1342533948), .lit (.int .u32 3988292384), .lit (.int .u32 4027552580), .lit (.int .u32 3604390888), .lit (.int .u32 3412177804), .lit (.int .u32 2607071920), .lit (.int .u32 2262029012), .lit (.int .u32 2685067896), .lit (.int .u32 3183342108)]
def laid_coppice_meta_frontMark {H : Type} : DataW H := .agg [.lit (.int .u8 99), .lit (.int .u8 111), .lit (.int .u8 112)]
def laid_coppice_meta_endMark {H : Type} : DataW H := .agg [.lit (.int .u8 101), .lit (.int .u8 110), .lit (.int .u8 100), .lit (.int .u8 46)]

/-- 'coppicelaw8.PageEncodes': WHATEVER THE INPUT: true; the input reads as it did. -/
def pageEncodesSpec : ChangeSpec := { name := "pageEncodes", fn := fun _ => fun
  | [d] => { results := [.lit (.bool true)], args := [d] }
  | _ => none }
def pageEncodesRow : OpenClaim := { program := "ytkiopabcnemgnaagreatdoor", sum := "c1e880275bb4885369b853ebd9428a88506c229365d536c55a0951e9f52aa00b", func := "coppice/coppicelaw8.PageEncodes", spec := "pageEncodes", inPlace := ["internal/bytealg.Compare"], unfollowed := true, recurses := true, named := ["coppice/meta.frontMark", "coppice/meta.endMark", "coppice/crc.fourSteps"], apart := false, laid := [("coppice/crc.fourSteps", laid_coppice_crc_fourSteps), ("coppice/meta.frontMark", laid_coppice_meta_frontMark), ("coppice/meta.endMark", laid_coppice_meta_endMark)] }
def PageEncodesSaid : Prop := pageEncodesRow.holds Tryz.pinned (OpenSpec.ofChange pageEncodesSpec)

/-- ITS FALSE NEIGHBOUR: 'it returns false'. Refute it at one input. -/
def pageEncodesWrong : ChangeSpec := { name := "pageEncodes", fn := fun _ => fun
  | [d] => { results := [.lit (.bool false)], args := [d] }
  | _ => none }
def PageEncodesWrongFalsely : Prop := pageEncodesRow.holds Tryz.pinned (OpenSpec.ofChange pageEncodesWrong)

/-- 'coppicelaw8.PagePlace': WHATEVER THE INPUT: true; the input reads as it did. -/
def pagePlaceSpec : ChangeSpec := { name := "pagePlace", fn := fun _ => fun
  | [d1, d2, d3, d4] => { results := [.lit (.bool true)], args := [d1, d2, d3, d4] }
  | _ => none }
def pagePlaceRow : OpenClaim := { program := "ytkiopabcnemgnaagreatdoor", sum := "c1e880275bb4885369b853ebd9428a88506c229365d536c55a0951e9f52aa00b", func := "coppice/coppicelaw8.PagePlace", spec := "pagePlace", inPlace := ["internal/bytealg.Compare"], unfollowed := true, recurses := true, named := ["coppice/meta.frontMark", "coppice/meta.endMark", "coppice/crc.fourSteps"], apart := false, laid := [("coppice/crc.fourSteps", laid_coppice_crc_fourSteps), ("coppice/meta.frontMark", laid_coppice_meta_frontMark), ("coppice/meta.endMark", laid_coppice_meta_endMark)] }
def PagePlaceSaid : Prop := pagePlaceRow.holds Tryz.pinned (OpenSpec.ofChange pagePlaceSpec)

/-- ITS FALSE NEIGHBOUR: 'it returns false'. Refute it at one input. -/
def pagePlaceWrong : ChangeSpec := { name := "pagePlace", fn := fun _ => fun
  | [d1, d2, d3, d4] => { results := [.lit (.bool false)], args := [d1, d2, d3, d4] }
  | _ => none }
def PagePlaceWrongFalsely : Prop := pagePlaceRow.holds Tryz.pinned (OpenSpec.ofChange pagePlaceWrong)

/-- 'coppicelaw8.PageDecodes': WHATEVER THE INPUT: true; the input reads as it did. -/
def pageDecodesSpec : ChangeSpec := { name := "pageDecodes", fn := fun _ => fun
  | [d1, d2, d3] => { results := [.lit (.bool true)], args := [d1, d2, d3] }
  | _ => none }
def pageDecodesRow : OpenClaim := { program := "ytkiopabcnemgnaagreatdoor", sum := "c1e880275bb4885369b853ebd9428a88506c229365d536c55a0951e9f52aa00b", func := "coppice/coppicelaw8.PageDecodes", spec := "pageDecodes", inPlace := ["internal/bytealg.Compare"], unfollowed := true, recurses := true, named := ["coppice/meta.frontMark", "coppice/meta.endMark", "coppice/crc.fourSteps"], apart := false, laid := [("coppice/crc.fourSteps", laid_coppice_crc_fourSteps), ("coppice/meta.frontMark", laid_coppice_meta_frontMark), ("coppice/meta.endMark", laid_coppice_meta_endMark)] }
def PageDecodesSaid : Prop := pageDecodesRow.holds Tryz.pinned (OpenSpec.ofChange pageDecodesSpec)

/-- ITS FALSE NEIGHBOUR: 'it returns false'. Refute it at one input. -/
def pageDecodesWrong : ChangeSpec := { name := "pageDecodes", fn := fun _ => fun
  | [d1, d2, d3] => { results := [.lit (.bool false)], args := [d1, d2, d3] }
  | _ => none }
def PageDecodesWrongFalsely : Prop := pageDecodesRow.holds Tryz.pinned (OpenSpec.ofChange pageDecodesWrong)

/-- 'coppicelaw8.PageBack': WHATEVER THE INPUT: true; the input reads as it did. -/
def pageBackSpec : ChangeSpec := { name := "pageBack", fn := fun _ => fun
  | [d1, d2, d3] => { results := [.lit (.bool true)], args := [d1, d2, d3] }
  | _ => none }
def pageBackRow : OpenClaim := { program := "ytkiopabcnemgnaagreatdoor", sum := "c1e880275bb4885369b853ebd9428a88506c229365d536c55a0951e9f52aa00b", func := "coppice/coppicelaw8.PageBack", spec := "pageBack", inPlace := ["internal/bytealg.Compare"], unfollowed := true, recurses := true, named := ["coppice/meta.frontMark", "coppice/meta.endMark", "coppice/crc.fourSteps"], apart := false, laid := [("coppice/crc.fourSteps", laid_coppice_crc_fourSteps), ("coppice/meta.frontMark", laid_coppice_meta_frontMark), ("coppice/meta.endMark", laid_coppice_meta_endMark)] }
def PageBackSaid : Prop := pageBackRow.holds Tryz.pinned (OpenSpec.ofChange pageBackSpec)

/-- ITS FALSE NEIGHBOUR: 'it returns false'. Refute it at one input. -/
def pageBackWrong : ChangeSpec := { name := "pageBack", fn := fun _ => fun
  | [d1, d2, d3] => { results := [.lit (.bool false)], args := [d1, d2, d3] }
  | _ => none }
def PageBackWrongFalsely : Prop := pageBackRow.holds Tryz.pinned (OpenSpec.ofChange pageBackWrong)

/-- 'coppicelaw8.PageSpoilt': WHATEVER THE INPUT: true; the input reads as it did. -/
def pageSpoiltSpec : ChangeSpec := { name := "pageSpoilt", fn := fun _ => fun
  | [d1, d2, d3, d4] => { results := [.lit (.bool true)], args := [d1, d2, d3, d4] }
  | _ => none }
def pageSpoiltRow : OpenClaim := { program := "ytkiopabcnemgnaagreatdoor", sum := "c1e880275bb4885369b853ebd9428a88506c229365d536c55a0951e9f52aa00b", func := "coppice/coppicelaw8.PageSpoilt", spec := "pageSpoilt", inPlace := ["internal/bytealg.Compare"], unfollowed := true, recurses := true, named := ["coppice/meta.frontMark", "coppice/meta.endMark", "coppice/crc.fourSteps"], apart := false, laid := [("coppice/crc.fourSteps", laid_coppice_crc_fourSteps), ("coppice/meta.frontMark", laid_coppice_meta_frontMark), ("coppice/meta.endMark", laid_coppice_meta_endMark)] }
def PageSpoiltSaid : Prop := pageSpoiltRow.holds Tryz.pinned (OpenSpec.ofChange pageSpoiltSpec)

/-- ITS FALSE NEIGHBOUR: 'it returns false'. Refute it at one input. -/
def pageSpoiltWrong : ChangeSpec := { name := "pageSpoilt", fn := fun _ => fun
  | [d1, d2, d3, d4] => { results := [.lit (.bool false)], args := [d1, d2, d3, d4] }
  | _ => none }
def PageSpoiltWrongFalsely : Prop := pageSpoiltRow.holds Tryz.pinned (OpenSpec.ofChange pageSpoiltWrong)

/-- 'coppicelaw8.PageTorn': WHATEVER THE INPUT: true; the input reads as it did. -/
def pageTornSpec : ChangeSpec := { name := "pageTorn", fn := fun _ => fun
  | [d1, d2] => { results := [.lit (.bool true)], args := [d1, d2] }
  | _ => none }
def pageTornRow : OpenClaim := { program := "ytkiopabcnemgnaagreatdoor", sum := "c1e880275bb4885369b853ebd9428a88506c229365d536c55a0951e9f52aa00b", func := "coppice/coppicelaw8.PageTorn", spec := "pageTorn", inPlace := ["internal/bytealg.Compare"], unfollowed := true, recurses := true, named := ["coppice/meta.frontMark", "coppice/meta.endMark", "coppice/crc.fourSteps"], apart := false, laid := [("coppice/crc.fourSteps", laid_coppice_crc_fourSteps), ("coppice/meta.frontMark", laid_coppice_meta_frontMark), ("coppice/meta.endMark", laid_coppice_meta_endMark)] }
def PageTornSaid : Prop := pageTornRow.holds Tryz.pinned (OpenSpec.ofChange pageTornSpec)

/-- ITS FALSE NEIGHBOUR: 'it returns false'. Refute it at one input. -/
def pageTornWrong : ChangeSpec := { name := "pageTorn", fn := fun _ => fun
  | [d1, d2] => { results := [.lit (.bool false)], args := [d1, d2] }
  | _ => none }
def PageTornWrongFalsely : Prop := pageTornRow.holds Tryz.pinned (OpenSpec.ofChange pageTornWrong)

/- THE SECOND FORM. 'bulk': how many values and letters a reading holds, each counted each time it is reached (what is shared counts as often as it is met; a slice's spare places count too). A statement '..UptoSaid' is the law's where the arguments, and the package variables that the reading takes, are together of bulk at most 1048576: NARROWER than '..Said'. Prove '..Said' where nothing that the law and all that it calls make is longer than what came in: it says more and counts as full. Else prove '..UptoSaid'. A law counts once. -/
mutual
def uptoBulk {H : Type} : DataW H → Nat
  | .lit (.string bytes) => bytes.length + 1
  | .lit _ => 1
  | .nil => 1
  | .ptr d => uptoBulk d + 1
  | .slice elems spare => uptoBulkAll elems + uptoBulkAll spare + 1
  | .agg parts => uptoBulkAll parts + 1
  | .iface _ d => uptoBulk d + 1
  | .map entries => uptoBulkEntries entries + 1
  | .held _ => 1
def uptoBulkAll {H : Type} : List (DataW H) → Nat
  | [] => 0
  | d :: r => uptoBulk d + uptoBulkAll r
def uptoBulkEntries {H : Type} : List (Lit × DataW H) → Nat
  | [] => 0
  | x :: r => uptoBulkEntry x + uptoBulkEntries r
def uptoBulkEntry {H : Type} : Lit × DataW H → Nat
  | (.string bytes, d) => bytes.length + uptoBulk d + 1
  | (_, d) => uptoBulk d + 1
 end
def uptoSmall : (H : Type) → List (DataW H) → Bool := fun _ ds => decide (uptoBulkAll ds ≤ 1048576)
def OpenSpec.upto (s : _root_.Go.ChangeSpec) : _root_.Go.OpenSpec := { _root_.Go.OpenSpec.ofChange s with cond := some uptoSmall }

/-- 'coppicelaw8.PageEncodes', WHERE WHAT IT READS IS OF BULK AT MOST 1048576: true; the input reads as it did. -/
def pageEncodesUptoRow : OpenClaim := { program := "ytkiopabcnemgnaagreatdoor", sum := "c1e880275bb4885369b853ebd9428a88506c229365d536c55a0951e9f52aa00b", func := "coppice/coppicelaw8.PageEncodes", spec := "pageEncodes", inPlace := ["internal/bytealg.Compare"], unfollowed := true, recurses := true, named := ["coppice/meta.frontMark", "coppice/meta.endMark", "coppice/crc.fourSteps"], apart := false, laid := [("coppice/crc.fourSteps", laid_coppice_crc_fourSteps), ("coppice/meta.frontMark", laid_coppice_meta_frontMark), ("coppice/meta.endMark", laid_coppice_meta_endMark)], narrowed := true }
def PageEncodesUptoSaid : Prop := pageEncodesUptoRow.holds Tryz.pinned (OpenSpec.upto pageEncodesSpec)

/-- 'coppicelaw8.PagePlace', WHERE WHAT IT READS IS OF BULK AT MOST 1048576: true; the input reads as it did. -/
def pagePlaceUptoRow : OpenClaim := { program := "ytkiopabcnemgnaagreatdoor", sum := "c1e880275bb4885369b853ebd9428a88506c229365d536c55a0951e9f52aa00b", func := "coppice/coppicelaw8.PagePlace", spec := "pagePlace", inPlace := ["internal/bytealg.Compare"], unfollowed := true, recurses := true, named := ["coppice/meta.frontMark", "coppice/meta.endMark", "coppice/crc.fourSteps"], apart := false, laid := [("coppice/crc.fourSteps", laid_coppice_crc_fourSteps), ("coppice/meta.frontMark", laid_coppice_meta_frontMark), ("coppice/meta.endMark", laid_coppice_meta_endMark)], narrowed := true }
def PagePlaceUptoSaid : Prop := pagePlaceUptoRow.holds Tryz.pinned (OpenSpec.upto pagePlaceSpec)

/-- 'coppicelaw8.PageDecodes', WHERE WHAT IT READS IS OF BULK AT MOST 1048576: true; the input reads as it did. -/
def pageDecodesUptoRow : OpenClaim := { program := "ytkiopabcnemgnaagreatdoor", sum := "c1e880275bb4885369b853ebd9428a88506c229365d536c55a0951e9f52aa00b", func := "coppice/coppicelaw8.PageDecodes", spec := "pageDecodes", inPlace := ["internal/bytealg.Compare"], unfollowed := true, recurses := true, named := ["coppice/meta.frontMark", "coppice/meta.endMark", "coppice/crc.fourSteps"], apart := false, laid := [("coppice/crc.fourSteps", laid_coppice_crc_fourSteps), ("coppice/meta.frontMark", laid_coppice_meta_frontMark), ("coppice/meta.endMark", laid_coppice_meta_endMark)], narrowed := true }
def PageDecodesUptoSaid : Prop := pageDecodesUptoRow.holds Tryz.pinned (OpenSpec.upto pageDecodesSpec)

/-- 'coppicelaw8.PageBack', WHERE WHAT IT READS IS OF BULK AT MOST 1048576: true; the input reads as it did. -/
def pageBackUptoRow : OpenClaim := { program := "ytkiopabcnemgnaagreatdoor", sum := "c1e880275bb4885369b853ebd9428a88506c229365d536c55a0951e9f52aa00b", func := "coppice/coppicelaw8.PageBack", spec := "pageBack", inPlace := ["internal/bytealg.Compare"], unfollowed := true, recurses := true, named := ["coppice/meta.frontMark", "coppice/meta.endMark", "coppice/crc.fourSteps"], apart := false, laid := [("coppice/crc.fourSteps", laid_coppice_crc_fourSteps), ("coppice/meta.frontMark", laid_coppice_meta_frontMark), ("coppice/meta.endMark", laid_coppice_meta_endMark)], narrowed := true }
def PageBackUptoSaid : Prop := pageBackUptoRow.holds Tryz.pinned (OpenSpec.upto pageBackSpec)

/-- 'coppicelaw8.PageSpoilt', WHERE WHAT IT READS IS OF BULK AT MOST 1048576: true; the input reads as it did. -/
def pageSpoiltUptoRow : OpenClaim := { program := "ytkiopabcnemgnaagreatdoor", sum := "c1e880275bb4885369b853ebd9428a88506c229365d536c55a0951e9f52aa00b", func := "coppice/coppicelaw8.PageSpoilt", spec := "pageSpoilt", inPlace := ["internal/bytealg.Compare"], unfollowed := true, recurses := true, named := ["coppice/meta.frontMark", "coppice/meta.endMark", "coppice/crc.fourSteps"], apart := false, laid := [("coppice/crc.fourSteps", laid_coppice_crc_fourSteps), ("coppice/meta.frontMark", laid_coppice_meta_frontMark), ("coppice/meta.endMark", laid_coppice_meta_endMark)], narrowed := true }
def PageSpoiltUptoSaid : Prop := pageSpoiltUptoRow.holds Tryz.pinned (OpenSpec.upto pageSpoiltSpec)

/-- 'coppicelaw8.PageTorn', WHERE WHAT IT READS IS OF BULK AT MOST 1048576: true; the input reads as it did. -/
def pageTornUptoRow : OpenClaim := { program := "ytkiopabcnemgnaagreatdoor", sum := "c1e880275bb4885369b853ebd9428a88506c229365d536c55a0951e9f52aa00b", func := "coppice/coppicelaw8.PageTorn", spec := "pageTorn", inPlace := ["internal/bytealg.Compare"], unfollowed := true, recurses := true, named := ["coppice/meta.frontMark", "coppice/meta.endMark", "coppice/crc.fourSteps"], apart := false, laid := [("coppice/crc.fourSteps", laid_coppice_crc_fourSteps), ("coppice/meta.frontMark", laid_coppice_meta_frontMark), ("coppice/meta.endMark", laid_coppice_meta_endMark)], narrowed := true }
def PageTornUptoSaid : Prop := pageTornUptoRow.holds Tryz.pinned (OpenSpec.upto pageTornSpec)

end Rows
end Go.Proofs.YtkiopabcnemgnaaGreatDoor
