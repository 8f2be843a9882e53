/-
  No cell of these rows narrows 'for every input' (looked for: loops, veiled, ifaces, maps, wideKeys, modest, calm, conditions, laid).
  DERIVED. THE GIVEN ROWS OF THIS SEAT. 3 by the template 'for every input the law returns true; each argument reads behind the call as it read before'; 0 by the template 'total and deterministic' (their statements: YtomknmboapgmbabTotals.lean).
  GIVEN WITH THE SEED: the statements are not yours to turn. If you find one false, say at which input.
  Laid BY PROGRAM, IN A SANDBOX (cutbox-rows.mjs): the forced cells as the released guide's own fill.sh prints them over the translation 55a40e35f24f942d… (all of the seat's roots in one cut). By AI agents, Wed Nov 11 2026. No macro, syntax, notation, axiom, sorry.
-/
import Derived.Test.YtomknmboapgmbabChecked
import GoSem.Claim
import GoSem.ClaimJoined
import GoSem.ClaimMapViews
import Derived.JoinedTies
import Derived.KernelRfl
namespace Go.Proofs.Ytomknmboapgmbab
/- THE CELL 'sum', in the pinned program and in every row, IS THE sha256 OF THE DUMP (.gsa) THAT YtomknmboapgmbabProg.lean LOADS. Nothing in Lean hashes anything: it is a label: what it is worth is what the hold of that sum in a sandbox is worth. -/
noncomputable def Try.pinned : Pinned := { name := "ytomknmboapgmbab", sum := "55a40e35f24f942ddb50b5da3b6bbbcdcee088fec2dfa47262760c7128feefc2", checked := Try.checked }
namespace Rows
def none {H : Type} : Left H := { results := [], args := [] }

/-- 'coppicelaw5.BranchKinds': WHATEVER THE INPUT: true; the input reads as it did. -/
def branchKindsSpec : ChangeSpec := { name := "branchKinds", fn := fun _ => fun
  | [d1, d2, d3, d4] => { results := [.lit (.bool true)], args := [d1, d2, d3, d4] }
  | _ => none }
def branchKindsRow : OpenClaim := { program := "ytomknmboapgmbab", sum := "55a40e35f24f942ddb50b5da3b6bbbcdcee088fec2dfa47262760c7128feefc2", func := "coppice/coppicelaw5.BranchKinds", spec := "branchKinds", inPlace := ["internal/bytealg.Compare"], unfollowed := true, recurses := true, apart := false }
def BranchKindsSaid : Prop := branchKindsRow.holds Try.pinned (OpenSpec.ofChange branchKindsSpec)

/-- ITS FALSE NEIGHBOUR: 'it returns false'. Refute it at one input. -/
def branchKindsWrong : ChangeSpec := { name := "branchKinds", fn := fun _ => fun
  | [d1, d2, d3, d4] => { results := [.lit (.bool false)], args := [d1, d2, d3, d4] }
  | _ => none }
def BranchKindsWrongFalsely : Prop := branchKindsRow.holds Try.pinned (OpenSpec.ofChange branchKindsWrong)

/-- 'coppicelaw5.BranchFewer': WHATEVER THE INPUT: true; the input reads as it did. -/
def branchFewerSpec : ChangeSpec := { name := "branchFewer", fn := fun _ => fun
  | [d1, d2] => { results := [.lit (.bool true)], args := [d1, d2] }
  | _ => none }
def branchFewerRow : OpenClaim := { program := "ytomknmboapgmbab", sum := "55a40e35f24f942ddb50b5da3b6bbbcdcee088fec2dfa47262760c7128feefc2", func := "coppice/coppicelaw5.BranchFewer", spec := "branchFewer", inPlace := ["internal/bytealg.Compare"], unfollowed := true, recurses := true, apart := false }
def BranchFewerSaid : Prop := branchFewerRow.holds Try.pinned (OpenSpec.ofChange branchFewerSpec)

/-- ITS FALSE NEIGHBOUR: 'it returns false'. Refute it at one input. -/
def branchFewerWrong : ChangeSpec := { name := "branchFewer", fn := fun _ => fun
  | [d1, d2] => { results := [.lit (.bool false)], args := [d1, d2] }
  | _ => none }
def BranchFewerWrongFalsely : Prop := branchFewerRow.holds Try.pinned (OpenSpec.ofChange branchFewerWrong)

/-- 'coppicelaw5.BranchLaid': WHATEVER THE INPUT: true; the input reads as it did. -/
def branchLaidSpec : ChangeSpec := { name := "branchLaid", fn := fun _ => fun
  | [d1, d2] => { results := [.lit (.bool true)], args := [d1, d2] }
  | _ => none }
def branchLaidRow : OpenClaim := { program := "ytomknmboapgmbab", sum := "55a40e35f24f942ddb50b5da3b6bbbcdcee088fec2dfa47262760c7128feefc2", func := "coppice/coppicelaw5.BranchLaid", spec := "branchLaid", inPlace := ["internal/bytealg.Compare"], unfollowed := true, recurses := true, apart := false }
def BranchLaidSaid : Prop := branchLaidRow.holds Try.pinned (OpenSpec.ofChange branchLaidSpec)

/-- ITS FALSE NEIGHBOUR: 'it returns false'. Refute it at one input. -/
def branchLaidWrong : ChangeSpec := { name := "branchLaid", fn := fun _ => fun
  | [d1, d2] => { results := [.lit (.bool false)], args := [d1, d2] }
  | _ => none }
def BranchLaidWrongFalsely : Prop := branchLaidRow.holds Try.pinned (OpenSpec.ofChange branchLaidWrong)

/- THE SECOND FORM. 'bulk': how many values and letters a reading holds, each counted each time it is reached (what is shared counts as often as it is met; a slice's spare places count too). A statement '..UptoSaid' is the law's where the arguments, and the package variables that the reading takes, are together of bulk at most 1048576: NARROWER than '..Said'. Prove '..Said' where nothing that the law and all that it calls make is longer than what came in: it says more and counts as full. Else prove '..UptoSaid'. A law counts once. -/
mutual
def uptoBulk {H : Type} : DataW H → Nat
  | .lit (.string bytes) => bytes.length + 1
  | .lit _ => 1
  | .nil => 1
  | .ptr d => uptoBulk d + 1
  | .slice elems spare => uptoBulkAll elems + uptoBulkAll spare + 1
  | .agg parts => uptoBulkAll parts + 1
  | .iface _ d => uptoBulk d + 1
  | .map entries => uptoBulkEntries entries + 1
  | .held _ => 1
def uptoBulkAll {H : Type} : List (DataW H) → Nat
  | [] => 0
  | d :: r => uptoBulk d + uptoBulkAll r
def uptoBulkEntries {H : Type} : List (Lit × DataW H) → Nat
  | [] => 0
  | x :: r => uptoBulkEntry x + uptoBulkEntries r
def uptoBulkEntry {H : Type} : Lit × DataW H → Nat
  | (.string bytes, d) => bytes.length + uptoBulk d + 1
  | (_, d) => uptoBulk d + 1
 end
def uptoSmall : (H : Type) → List (DataW H) → Bool := fun _ ds => decide (uptoBulkAll ds ≤ 1048576)
def OpenSpec.upto (s : _root_.Go.ChangeSpec) : _root_.Go.OpenSpec := { _root_.Go.OpenSpec.ofChange s with cond := some uptoSmall }

/-- 'coppicelaw5.BranchKinds', WHERE WHAT IT READS IS OF BULK AT MOST 1048576: true; the input reads as it did. -/
def branchKindsUptoRow : OpenClaim := { program := "ytomknmboapgmbab", sum := "55a40e35f24f942ddb50b5da3b6bbbcdcee088fec2dfa47262760c7128feefc2", func := "coppice/coppicelaw5.BranchKinds", spec := "branchKinds", inPlace := ["internal/bytealg.Compare"], unfollowed := true, recurses := true, apart := false, narrowed := true }
def BranchKindsUptoSaid : Prop := branchKindsUptoRow.holds Try.pinned (OpenSpec.upto branchKindsSpec)

/-- 'coppicelaw5.BranchFewer', WHERE WHAT IT READS IS OF BULK AT MOST 1048576: true; the input reads as it did. -/
def branchFewerUptoRow : OpenClaim := { program := "ytomknmboapgmbab", sum := "55a40e35f24f942ddb50b5da3b6bbbcdcee088fec2dfa47262760c7128feefc2", func := "coppice/coppicelaw5.BranchFewer", spec := "branchFewer", inPlace := ["internal/bytealg.Compare"], unfollowed := true, recurses := true, apart := false, narrowed := true }
def BranchFewerUptoSaid : Prop := branchFewerUptoRow.holds Try.pinned (OpenSpec.upto branchFewerSpec)

/-- 'coppicelaw5.BranchLaid', WHERE WHAT IT READS IS OF BULK AT MOST 1048576: true; the input reads as it did. -/
def branchLaidUptoRow : OpenClaim := { program := "ytomknmboapgmbab", sum := "55a40e35f24f942ddb50b5da3b6bbbcdcee088fec2dfa47262760c7128feefc2", func := "coppice/coppicelaw5.BranchLaid", spec := "branchLaid", inPlace := ["internal/bytealg.Compare"], unfollowed := true, recurses := true, apart := false, narrowed := true }
def BranchLaidUptoSaid : Prop := branchLaidUptoRow.holds Try.pinned (OpenSpec.upto branchLaidSpec)

end Rows
end Go.Proofs.Ytomknmboapgmbab
