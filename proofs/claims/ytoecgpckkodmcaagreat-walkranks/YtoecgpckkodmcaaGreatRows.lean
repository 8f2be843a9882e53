/-
  No cell of these rows narrows 'for every input' (looked for: loops, veiled, ifaces, maps, wideKeys, modest, calm, conditions, laid).
  DERIVED. THE GIVEN ROWS OF THIS SEAT. 6 by the template 'for every input the law returns true; each argument reads behind the call as it read before'; 0 by the template 'total and deterministic' (their statements: YtoecgpckkodmcaaGreatTotals.lean).
  GIVEN WITH THE SEED: the statements are not yours to turn. If you find one false, say at which input.
  Laid BY PROGRAM, IN A SANDBOX (cutbox-rows.mjs): the forced cells as the released guide's own fill.sh prints them over the translation d0b6d11deeb414ca… (all of the seat's roots in one cut). By AI agents, Wed Nov 11 2026. No macro, syntax, notation, axiom, sorry.
-/
import Derived.Test.YtoecgpckkodmcaaGreatChecked
import GoSem.Claim
import GoSem.ClaimJoined
import GoSem.ClaimMapViews
import Derived.JoinedTies
import Derived.KernelRfl
namespace Go.Proofs.YtoecgpckkodmcaaGreat
/- THE CELL 'sum', in the pinned program and in every row, IS THE sha256 OF THE DUMP (.gsa) THAT YtoecgpckkodmcaaGreatProg.lean LOADS. Nothing in Lean hashes anything: it is a label: what it is worth is what the hold of that sum in a sandbox is worth. -/
noncomputable def Tryz.pinned : Pinned := { name := "ytoecgpckkodmcaagreat", sum := "d0b6d11deeb414ca2d4adc1c52da1f4cbed6e1a2fa71ece33a7efb53af22cf79", checked := Tryz.checked }
namespace Rows
def none {H : Type} : Left H := { results := [], args := [] }

/-- 'coppicelaw11.WalkRanges': WHATEVER THE INPUT: true; the input reads as it did. -/
def walkRangesSpec : ChangeSpec := { name := "walkRanges", fn := fun _ => fun
  | [d1, d2, d3, d4] => { results := [.lit (.bool true)], args := [d1, d2, d3, d4] }
  | _ => none }
def walkRangesRow : OpenClaim := { program := "ytoecgpckkodmcaagreat", sum := "d0b6d11deeb414ca2d4adc1c52da1f4cbed6e1a2fa71ece33a7efb53af22cf79", func := "coppice/coppicelaw11.WalkRanges", spec := "walkRanges", inPlace := ["internal/bytealg.Compare"], unfollowed := true, recurses := true, apart := false }
def WalkRangesSaid : Prop := walkRangesRow.holds Tryz.pinned (OpenSpec.ofChange walkRangesSpec)

/-- ITS FALSE NEIGHBOUR: 'it returns false'. Refute it at one input. -/
def walkRangesWrong : ChangeSpec := { name := "walkRanges", fn := fun _ => fun
  | [d1, d2, d3, d4] => { results := [.lit (.bool false)], args := [d1, d2, d3, d4] }
  | _ => none }
def WalkRangesWrongFalsely : Prop := walkRangesRow.holds Tryz.pinned (OpenSpec.ofChange walkRangesWrong)

/-- 'coppicelaw11.WalkNested': WHATEVER THE INPUT: true; the input reads as it did. -/
def walkNestedSpec : ChangeSpec := { name := "walkNested", fn := fun _ => fun
  | [d1, d2, d3] => { results := [.lit (.bool true)], args := [d1, d2, d3] }
  | _ => none }
def walkNestedRow : OpenClaim := { program := "ytoecgpckkodmcaagreat", sum := "d0b6d11deeb414ca2d4adc1c52da1f4cbed6e1a2fa71ece33a7efb53af22cf79", func := "coppice/coppicelaw11.WalkNested", spec := "walkNested", inPlace := ["internal/bytealg.Compare"], unfollowed := true, recurses := true, apart := false }
def WalkNestedSaid : Prop := walkNestedRow.holds Tryz.pinned (OpenSpec.ofChange walkNestedSpec)

/-- ITS FALSE NEIGHBOUR: 'it returns false'. Refute it at one input. -/
def walkNestedWrong : ChangeSpec := { name := "walkNested", fn := fun _ => fun
  | [d1, d2, d3] => { results := [.lit (.bool false)], args := [d1, d2, d3] }
  | _ => none }
def WalkNestedWrongFalsely : Prop := walkNestedRow.holds Tryz.pinned (OpenSpec.ofChange walkNestedWrong)

/-- 'coppicelaw11.WalkTakes': WHATEVER THE INPUT: true; the input reads as it did. -/
def walkTakesSpec : ChangeSpec := { name := "walkTakes", fn := fun _ => fun
  | [d1, d2, d3, d4] => { results := [.lit (.bool true)], args := [d1, d2, d3, d4] }
  | _ => none }
def walkTakesRow : OpenClaim := { program := "ytoecgpckkodmcaagreat", sum := "d0b6d11deeb414ca2d4adc1c52da1f4cbed6e1a2fa71ece33a7efb53af22cf79", func := "coppice/coppicelaw11.WalkTakes", spec := "walkTakes", inPlace := ["internal/bytealg.Compare"], unfollowed := true, recurses := true, apart := false }
def WalkTakesSaid : Prop := walkTakesRow.holds Tryz.pinned (OpenSpec.ofChange walkTakesSpec)

/-- ITS FALSE NEIGHBOUR: 'it returns false'. Refute it at one input. -/
def walkTakesWrong : ChangeSpec := { name := "walkTakes", fn := fun _ => fun
  | [d1, d2, d3, d4] => { results := [.lit (.bool false)], args := [d1, d2, d3, d4] }
  | _ => none }
def WalkTakesWrongFalsely : Prop := walkTakesRow.holds Tryz.pinned (OpenSpec.ofChange walkTakesWrong)

/-- 'coppicelaw11.WalkRanks': WHATEVER THE INPUT: true; the input reads as it did. -/
def walkRanksSpec : ChangeSpec := { name := "walkRanks", fn := fun _ => fun
  | [d1, d2, d3, d4] => { results := [.lit (.bool true)], args := [d1, d2, d3, d4] }
  | _ => none }
def walkRanksRow : OpenClaim := { program := "ytoecgpckkodmcaagreat", sum := "d0b6d11deeb414ca2d4adc1c52da1f4cbed6e1a2fa71ece33a7efb53af22cf79", func := "coppice/coppicelaw11.WalkRanks", spec := "walkRanks", inPlace := ["internal/bytealg.Compare"], unfollowed := true, recurses := true, apart := false }
def WalkRanksSaid : Prop := walkRanksRow.holds Tryz.pinned (OpenSpec.ofChange walkRanksSpec)

/-- ITS FALSE NEIGHBOUR: 'it returns false'. Refute it at one input. -/
def walkRanksWrong : ChangeSpec := { name := "walkRanks", fn := fun _ => fun
  | [d1, d2, d3, d4] => { results := [.lit (.bool false)], args := [d1, d2, d3, d4] }
  | _ => none }
def WalkRanksWrongFalsely : Prop := walkRanksRow.holds Tryz.pinned (OpenSpec.ofChange walkRanksWrong)

/-- 'coppicelaw11.WalkBoth': WHATEVER THE INPUT: true; the input reads as it did. -/
def walkBothSpec : ChangeSpec := { name := "walkBoth", fn := fun _ => fun
  | [d1, d2, d3, d4] => { results := [.lit (.bool true)], args := [d1, d2, d3, d4] }
  | _ => none }
def walkBothRow : OpenClaim := { program := "ytoecgpckkodmcaagreat", sum := "d0b6d11deeb414ca2d4adc1c52da1f4cbed6e1a2fa71ece33a7efb53af22cf79", func := "coppice/coppicelaw11.WalkBoth", spec := "walkBoth", inPlace := ["internal/bytealg.Compare"], unfollowed := true, recurses := true, apart := false }
def WalkBothSaid : Prop := walkBothRow.holds Tryz.pinned (OpenSpec.ofChange walkBothSpec)

/-- ITS FALSE NEIGHBOUR: 'it returns false'. Refute it at one input. -/
def walkBothWrong : ChangeSpec := { name := "walkBoth", fn := fun _ => fun
  | [d1, d2, d3, d4] => { results := [.lit (.bool false)], args := [d1, d2, d3, d4] }
  | _ => none }
def WalkBothWrongFalsely : Prop := walkBothRow.holds Tryz.pinned (OpenSpec.ofChange walkBothWrong)

/-- 'coppicelaw11.WalkRanked': WHATEVER THE INPUT: true; the input reads as it did. -/
def walkRankedSpec : ChangeSpec := { name := "walkRanked", fn := fun _ => fun
  | [d1, d2, d3] => { results := [.lit (.bool true)], args := [d1, d2, d3] }
  | _ => none }
def walkRankedRow : OpenClaim := { program := "ytoecgpckkodmcaagreat", sum := "d0b6d11deeb414ca2d4adc1c52da1f4cbed6e1a2fa71ece33a7efb53af22cf79", func := "coppice/coppicelaw11.WalkRanked", spec := "walkRanked", inPlace := ["internal/bytealg.Compare"], unfollowed := true, recurses := true, apart := false }
def WalkRankedSaid : Prop := walkRankedRow.holds Tryz.pinned (OpenSpec.ofChange walkRankedSpec)

/-- ITS FALSE NEIGHBOUR: 'it returns false'. Refute it at one input. -/
def walkRankedWrong : ChangeSpec := { name := "walkRanked", fn := fun _ => fun
  | [d1, d2, d3] => { results := [.lit (.bool false)], args := [d1, d2, d3] }
  | _ => none }
def WalkRankedWrongFalsely : Prop := walkRankedRow.holds Tryz.pinned (OpenSpec.ofChange walkRankedWrong)

/- THE SECOND FORM. 'bulk': how many values and letters a reading holds, each counted each time it is reached (what is shared counts as often as it is met; a slice's spare places count too). A statement '..UptoSaid' is the law's where the arguments, and the package variables that the reading takes, are together of bulk at most 1048576: NARROWER than '..Said'. Prove '..Said' where nothing that the law and all that it calls make is longer than what came in: it says more and counts as full. Else prove '..UptoSaid'. A law counts once. -/
mutual
def uptoBulk {H : Type} : DataW H → Nat
  | .lit (.string bytes) => bytes.length + 1
  | .lit _ => 1
  | .nil => 1
  | .ptr d => uptoBulk d + 1
  | .slice elems spare => uptoBulkAll elems + uptoBulkAll spare + 1
  | .agg parts => uptoBulkAll parts + 1
  | .iface _ d => uptoBulk d + 1
  | .map entries => uptoBulkEntries entries + 1
  | .held _ => 1
def uptoBulkAll {H : Type} : List (DataW H) → Nat
  | [] => 0
  | d :: r => uptoBulk d + uptoBulkAll r
def uptoBulkEntries {H : Type} : List (Lit × DataW H) → Nat
  | [] => 0
  | x :: r => uptoBulkEntry x + uptoBulkEntries r
def uptoBulkEntry {H : Type} : Lit × DataW H → Nat
  | (.string bytes, d) => bytes.length + uptoBulk d + 1
  | (_, d) => uptoBulk d + 1
 end
def uptoSmall : (H : Type) → List (DataW H) → Bool := fun _ ds => decide (uptoBulkAll ds ≤ 1048576)
def OpenSpec.upto (s : _root_.Go.ChangeSpec) : _root_.Go.OpenSpec := { _root_.Go.OpenSpec.ofChange s with cond := some uptoSmall }

/-- 'coppicelaw11.WalkRanges', WHERE WHAT IT READS IS OF BULK AT MOST 1048576: true; the input reads as it did. -/
def walkRangesUptoRow : OpenClaim := { program := "ytoecgpckkodmcaagreat", sum := "d0b6d11deeb414ca2d4adc1c52da1f4cbed6e1a2fa71ece33a7efb53af22cf79", func := "coppice/coppicelaw11.WalkRanges", spec := "walkRanges", inPlace := ["internal/bytealg.Compare"], unfollowed := true, recurses := true, apart := false, narrowed := true }
def WalkRangesUptoSaid : Prop := walkRangesUptoRow.holds Tryz.pinned (OpenSpec.upto walkRangesSpec)

/-- 'coppicelaw11.WalkNested', WHERE WHAT IT READS IS OF BULK AT MOST 1048576: true; the input reads as it did. -/
def walkNestedUptoRow : OpenClaim := { program := "ytoecgpckkodmcaagreat", sum := "d0b6d11deeb414ca2d4adc1c52da1f4cbed6e1a2fa71ece33a7efb53af22cf79", func := "coppice/coppicelaw11.WalkNested", spec := "walkNested", inPlace := ["internal/bytealg.Compare"], unfollowed := true, recurses := true, apart := false, narrowed := true }
def WalkNestedUptoSaid : Prop := walkNestedUptoRow.holds Tryz.pinned (OpenSpec.upto walkNestedSpec)

/-- 'coppicelaw11.WalkTakes', WHERE WHAT IT READS IS OF BULK AT MOST 1048576: true; the input reads as it did. -/
def walkTakesUptoRow : OpenClaim := { program := "ytoecgpckkodmcaagreat", sum := "d0b6d11deeb414ca2d4adc1c52da1f4cbed6e1a2fa71ece33a7efb53af22cf79", func := "coppice/coppicelaw11.WalkTakes", spec := "walkTakes", inPlace := ["internal/bytealg.Compare"], unfollowed := true, recurses := true, apart := false, narrowed := true }
def WalkTakesUptoSaid : Prop := walkTakesUptoRow.holds Tryz.pinned (OpenSpec.upto walkTakesSpec)

/-- 'coppicelaw11.WalkRanks', WHERE WHAT IT READS IS OF BULK AT MOST 1048576: true; the input reads as it did. -/
def walkRanksUptoRow : OpenClaim := { program := "ytoecgpckkodmcaagreat", sum := "d0b6d11deeb414ca2d4adc1c52da1f4cbed6e1a2fa71ece33a7efb53af22cf79", func := "coppice/coppicelaw11.WalkRanks", spec := "walkRanks", inPlace := ["internal/bytealg.Compare"], unfollowed := true, recurses := true, apart := false, narrowed := true }
def WalkRanksUptoSaid : Prop := walkRanksUptoRow.holds Tryz.pinned (OpenSpec.upto walkRanksSpec)

/-- 'coppicelaw11.WalkBoth', WHERE WHAT IT READS IS OF BULK AT MOST 1048576: true; the input reads as it did. -/
def walkBothUptoRow : OpenClaim := { program := "ytoecgpckkodmcaagreat", sum := "d0b6d11deeb414ca2d4adc1c52da1f4cbed6e1a2fa71ece33a7efb53af22cf79", func := "coppice/coppicelaw11.WalkBoth", spec := "walkBoth", inPlace := ["internal/bytealg.Compare"], unfollowed := true, recurses := true, apart := false, narrowed := true }
def WalkBothUptoSaid : Prop := walkBothUptoRow.holds Tryz.pinned (OpenSpec.upto walkBothSpec)

/-- 'coppicelaw11.WalkRanked', WHERE WHAT IT READS IS OF BULK AT MOST 1048576: true; the input reads as it did. -/
def walkRankedUptoRow : OpenClaim := { program := "ytoecgpckkodmcaagreat", sum := "d0b6d11deeb414ca2d4adc1c52da1f4cbed6e1a2fa71ece33a7efb53af22cf79", func := "coppice/coppicelaw11.WalkRanked", spec := "walkRanked", inPlace := ["internal/bytealg.Compare"], unfollowed := true, recurses := true, apart := false, narrowed := true }
def WalkRankedUptoSaid : Prop := walkRankedUptoRow.holds Tryz.pinned (OpenSpec.upto walkRankedSpec)

end Rows
end Go.Proofs.YtoecgpckkodmcaaGreat
