/-
  No cell of these rows narrows 'for every input' (looked for: loops, veiled, ifaces, maps, wideKeys, modest, calm, conditions, laid).
  DERIVED. THE GIVEN ROWS OF THIS SEAT. 6 by the template 'for every input the law returns true; each argument reads behind the call as it read before'; 0 by the template 'total and deterministic' (their statements: YteaahinjcfjngaaGreatTotals.lean).
  GIVEN WITH THE SEED: the statements are not yours to turn. If you find one false, say at which input.
  Laid BY PROGRAM, IN A SANDBOX (cutbox-rows.mjs): the forced cells as the released guide's own fill.sh prints them over the translation 33df83da1cbc5454… (all of the seat's roots in one cut). By AI agents, Wed Nov 11 2026. No macro, syntax, notation, axiom, sorry.
-/
import Derived.Test.YteaahinjcfjngaaGreatChecked
import GoSem.Claim
import GoSem.ClaimJoined
import GoSem.ClaimMapViews
import Derived.JoinedTies
import Derived.KernelRfl
namespace Go.Proofs.YteaahinjcfjngaaGreat
/- THE CELL 'sum', in the pinned program and in every row, IS THE sha256 OF THE DUMP (.gsa) THAT YteaahinjcfjngaaGreatProg.lean LOADS. Nothing in Lean hashes anything: it is a label: what it is worth is what the hold of that sum in a sandbox is worth. -/
noncomputable def Tryz.pinned : Pinned := { name := "yteaahinjcfjngaagreat", sum := "33df83da1cbc54548dbc04588f96a37d531a5a802b5fe4780f9e06f4f11141a8", checked := Tryz.checked }
namespace Rows
def none {H : Type} : Left H := { results := [], args := [] }

/-- 'coppicelaw22.StatsSum': WHATEVER THE INPUT: true; the input reads as it did. -/
def statsSumSpec : ChangeSpec := { name := "statsSum", fn := fun _ => fun
  | [d] => { results := [.lit (.bool true)], args := [d] }
  | _ => none }
def statsSumRow : OpenClaim := { program := "yteaahinjcfjngaagreat", sum := "33df83da1cbc54548dbc04588f96a37d531a5a802b5fe4780f9e06f4f11141a8", func := "coppice/coppicelaw22.StatsSum", spec := "statsSum", inPlace := ["internal/bytealg.Compare", "math.sqrt"], unfollowed := true, recurses := true, apart := false }
def StatsSumSaid : Prop := statsSumRow.holds Tryz.pinned (OpenSpec.ofChange statsSumSpec)

/-- ITS FALSE NEIGHBOUR: 'it returns false'. Refute it at one input. -/
def statsSumWrong : ChangeSpec := { name := "statsSum", fn := fun _ => fun
  | [d] => { results := [.lit (.bool false)], args := [d] }
  | _ => none }
def StatsSumWrongFalsely : Prop := statsSumRow.holds Tryz.pinned (OpenSpec.ofChange statsSumWrong)

/-- 'coppicelaw22.StatsLevels': WHATEVER THE INPUT: true; the input reads as it did. -/
def statsLevelsSpec : ChangeSpec := { name := "statsLevels", fn := fun _ => fun
  | [d] => { results := [.lit (.bool true)], args := [d] }
  | _ => none }
def statsLevelsRow : OpenClaim := { program := "yteaahinjcfjngaagreat", sum := "33df83da1cbc54548dbc04588f96a37d531a5a802b5fe4780f9e06f4f11141a8", func := "coppice/coppicelaw22.StatsLevels", spec := "statsLevels", inPlace := ["internal/bytealg.Compare", "math.sqrt"], unfollowed := true, recurses := true, apart := false }
def StatsLevelsSaid : Prop := statsLevelsRow.holds Tryz.pinned (OpenSpec.ofChange statsLevelsSpec)

/-- ITS FALSE NEIGHBOUR: 'it returns false'. Refute it at one input. -/
def statsLevelsWrong : ChangeSpec := { name := "statsLevels", fn := fun _ => fun
  | [d] => { results := [.lit (.bool false)], args := [d] }
  | _ => none }
def StatsLevelsWrongFalsely : Prop := statsLevelsRow.holds Tryz.pinned (OpenSpec.ofChange statsLevelsWrong)

/-- 'coppicelaw22.StatsParts': WHATEVER THE INPUT: true; the input reads as it did. -/
def statsPartsSpec : ChangeSpec := { name := "statsParts", fn := fun _ => fun
  | [d1, d2] => { results := [.lit (.bool true)], args := [d1, d2] }
  | _ => none }
def statsPartsRow : OpenClaim := { program := "yteaahinjcfjngaagreat", sum := "33df83da1cbc54548dbc04588f96a37d531a5a802b5fe4780f9e06f4f11141a8", func := "coppice/coppicelaw22.StatsParts", spec := "statsParts", inPlace := ["internal/bytealg.Compare", "math.sqrt"], unfollowed := true, recurses := true, apart := false }
def StatsPartsSaid : Prop := statsPartsRow.holds Tryz.pinned (OpenSpec.ofChange statsPartsSpec)

/-- ITS FALSE NEIGHBOUR: 'it returns false'. Refute it at one input. -/
def statsPartsWrong : ChangeSpec := { name := "statsParts", fn := fun _ => fun
  | [d1, d2] => { results := [.lit (.bool false)], args := [d1, d2] }
  | _ => none }
def StatsPartsWrongFalsely : Prop := statsPartsRow.holds Tryz.pinned (OpenSpec.ofChange statsPartsWrong)

/-- 'coppicelaw22.StatsQuantiles': WHATEVER THE INPUT: true; the input reads as it did. -/
def statsQuantilesSpec : ChangeSpec := { name := "statsQuantiles", fn := fun _ => fun
  | [d1, d2] => { results := [.lit (.bool true)], args := [d1, d2] }
  | _ => none }
def statsQuantilesRow : OpenClaim := { program := "yteaahinjcfjngaagreat", sum := "33df83da1cbc54548dbc04588f96a37d531a5a802b5fe4780f9e06f4f11141a8", func := "coppice/coppicelaw22.StatsQuantiles", spec := "statsQuantiles", inPlace := ["internal/bytealg.Compare", "math.sqrt"], unfollowed := true, recurses := true, apart := false }
def StatsQuantilesSaid : Prop := statsQuantilesRow.holds Tryz.pinned (OpenSpec.ofChange statsQuantilesSpec)

/-- ITS FALSE NEIGHBOUR: 'it returns false'. Refute it at one input. -/
def statsQuantilesWrong : ChangeSpec := { name := "statsQuantiles", fn := fun _ => fun
  | [d1, d2] => { results := [.lit (.bool false)], args := [d1, d2] }
  | _ => none }
def StatsQuantilesWrongFalsely : Prop := statsQuantilesRow.holds Tryz.pinned (OpenSpec.ofChange statsQuantilesWrong)

/-- 'coppicelaw22.StatsFit': WHATEVER THE INPUT: true; the input reads as it did. -/
def statsFitSpec : ChangeSpec := { name := "statsFit", fn := fun _ => fun
  | [d] => { results := [.lit (.bool true)], args := [d] }
  | _ => none }
def statsFitRow : OpenClaim := { program := "yteaahinjcfjngaagreat", sum := "33df83da1cbc54548dbc04588f96a37d531a5a802b5fe4780f9e06f4f11141a8", func := "coppice/coppicelaw22.StatsFit", spec := "statsFit", inPlace := ["internal/bytealg.Compare", "math.sqrt"], unfollowed := true, recurses := true, apart := false }
def StatsFitSaid : Prop := statsFitRow.holds Tryz.pinned (OpenSpec.ofChange statsFitSpec)

/-- ITS FALSE NEIGHBOUR: 'it returns false'. Refute it at one input. -/
def statsFitWrong : ChangeSpec := { name := "statsFit", fn := fun _ => fun
  | [d] => { results := [.lit (.bool false)], args := [d] }
  | _ => none }
def StatsFitWrongFalsely : Prop := statsFitRow.holds Tryz.pinned (OpenSpec.ofChange statsFitWrong)

/-- 'coppicelaw22.StatsRises': WHATEVER THE INPUT: true; the input reads as it did. -/
def statsRisesSpec : ChangeSpec := { name := "statsRises", fn := fun _ => fun
  | [d1, d2, d3, d4] => { results := [.lit (.bool true)], args := [d1, d2, d3, d4] }
  | _ => none }
def statsRisesRow : OpenClaim := { program := "yteaahinjcfjngaagreat", sum := "33df83da1cbc54548dbc04588f96a37d531a5a802b5fe4780f9e06f4f11141a8", func := "coppice/coppicelaw22.StatsRises", spec := "statsRises", inPlace := ["internal/bytealg.Compare", "math.sqrt"], unfollowed := true, recurses := true, apart := false }
def StatsRisesSaid : Prop := statsRisesRow.holds Tryz.pinned (OpenSpec.ofChange statsRisesSpec)

/-- ITS FALSE NEIGHBOUR: 'it returns false'. Refute it at one input. -/
def statsRisesWrong : ChangeSpec := { name := "statsRises", fn := fun _ => fun
  | [d1, d2, d3, d4] => { results := [.lit (.bool false)], args := [d1, d2, d3, d4] }
  | _ => none }
def StatsRisesWrongFalsely : Prop := statsRisesRow.holds Tryz.pinned (OpenSpec.ofChange statsRisesWrong)

/- THE SECOND FORM. 'bulk': how many values and letters a reading holds, each counted each time it is reached (what is shared counts as often as it is met; a slice's spare places count too). A statement '..UptoSaid' is the law's where the arguments, and the package variables that the reading takes, are together of bulk at most 1048576: NARROWER than '..Said'. Prove '..Said' where nothing that the law and all that it calls make is longer than what came in: it says more and counts as full. Else prove '..UptoSaid'. A law counts once. -/
mutual
def uptoBulk {H : Type} : DataW H → Nat
  | .lit (.string bytes) => bytes.length + 1
  | .lit _ => 1
  | .nil => 1
  | .ptr d => uptoBulk d + 1
  | .slice elems spare => uptoBulkAll elems + uptoBulkAll spare + 1
  | .agg parts => uptoBulkAll parts + 1
  | .iface _ d => uptoBulk d + 1
  | .map entries => uptoBulkEntries entries + 1
  | .held _ => 1
def uptoBulkAll {H : Type} : List (DataW H) → Nat
  | [] => 0
  | d :: r => uptoBulk d + uptoBulkAll r
def uptoBulkEntries {H : Type} : List (Lit × DataW H) → Nat
  | [] => 0
  | x :: r => uptoBulkEntry x + uptoBulkEntries r
def uptoBulkEntry {H : Type} : Lit × DataW H → Nat
  | (.string bytes, d) => bytes.length + uptoBulk d + 1
  | (_, d) => uptoBulk d + 1
 end
def uptoSmall : (H : Type) → List (DataW H) → Bool := fun _ ds => decide (uptoBulkAll ds ≤ 1048576)
def OpenSpec.upto (s : _root_.Go.ChangeSpec) : _root_.Go.OpenSpec := { _root_.Go.OpenSpec.ofChange s with cond := some uptoSmall }

/-- 'coppicelaw22.StatsSum', WHERE WHAT IT READS IS OF BULK AT MOST 1048576: true; the input reads as it did. -/
def statsSumUptoRow : OpenClaim := { program := "yteaahinjcfjngaagreat", sum := "33df83da1cbc54548dbc04588f96a37d531a5a802b5fe4780f9e06f4f11141a8", func := "coppice/coppicelaw22.StatsSum", spec := "statsSum", inPlace := ["internal/bytealg.Compare", "math.sqrt"], unfollowed := true, recurses := true, apart := false, narrowed := true }
def StatsSumUptoSaid : Prop := statsSumUptoRow.holds Tryz.pinned (OpenSpec.upto statsSumSpec)

/-- 'coppicelaw22.StatsLevels', WHERE WHAT IT READS IS OF BULK AT MOST 1048576: true; the input reads as it did. -/
def statsLevelsUptoRow : OpenClaim := { program := "yteaahinjcfjngaagreat", sum := "33df83da1cbc54548dbc04588f96a37d531a5a802b5fe4780f9e06f4f11141a8", func := "coppice/coppicelaw22.StatsLevels", spec := "statsLevels", inPlace := ["internal/bytealg.Compare", "math.sqrt"], unfollowed := true, recurses := true, apart := false, narrowed := true }
def StatsLevelsUptoSaid : Prop := statsLevelsUptoRow.holds Tryz.pinned (OpenSpec.upto statsLevelsSpec)

/-- 'coppicelaw22.StatsParts', WHERE WHAT IT READS IS OF BULK AT MOST 1048576: true; the input reads as it did. -/
def statsPartsUptoRow : OpenClaim := { program := "yteaahinjcfjngaagreat", sum := "33df83da1cbc54548dbc04588f96a37d531a5a802b5fe4780f9e06f4f11141a8", func := "coppice/coppicelaw22.StatsParts", spec := "statsParts", inPlace := ["internal/bytealg.Compare", "math.sqrt"], unfollowed := true, recurses := true, apart := false, narrowed := true }
def StatsPartsUptoSaid : Prop := statsPartsUptoRow.holds Tryz.pinned (OpenSpec.upto statsPartsSpec)

/-- 'coppicelaw22.StatsQuantiles', WHERE WHAT IT READS IS OF BULK AT MOST 1048576: true; the input reads as it did. -/
def statsQuantilesUptoRow : OpenClaim := { program := "yteaahinjcfjngaagreat", sum := "33df83da1cbc54548dbc04588f96a37d531a5a802b5fe4780f9e06f4f11141a8", func := "coppice/coppicelaw22.StatsQuantiles", spec := "statsQuantiles", inPlace := ["internal/bytealg.Compare", "math.sqrt"], unfollowed := true, recurses := true, apart := false, narrowed := true }
def StatsQuantilesUptoSaid : Prop := statsQuantilesUptoRow.holds Tryz.pinned (OpenSpec.upto statsQuantilesSpec)

/-- 'coppicelaw22.StatsFit', WHERE WHAT IT READS IS OF BULK AT MOST 1048576: true; the input reads as it did. -/
def statsFitUptoRow : OpenClaim := { program := "yteaahinjcfjngaagreat", sum := "33df83da1cbc54548dbc04588f96a37d531a5a802b5fe4780f9e06f4f11141a8", func := "coppice/coppicelaw22.StatsFit", spec := "statsFit", inPlace := ["internal/bytealg.Compare", "math.sqrt"], unfollowed := true, recurses := true, apart := false, narrowed := true }
def StatsFitUptoSaid : Prop := statsFitUptoRow.holds Tryz.pinned (OpenSpec.upto statsFitSpec)

/-- 'coppicelaw22.StatsRises', WHERE WHAT IT READS IS OF BULK AT MOST 1048576: true; the input reads as it did. -/
def statsRisesUptoRow : OpenClaim := { program := "yteaahinjcfjngaagreat", sum := "33df83da1cbc54548dbc04588f96a37d531a5a802b5fe4780f9e06f4f11141a8", func := "coppice/coppicelaw22.StatsRises", spec := "statsRises", inPlace := ["internal/bytealg.Compare", "math.sqrt"], unfollowed := true, recurses := true, apart := false, narrowed := true }
def StatsRisesUptoSaid : Prop := statsRisesUptoRow.holds Tryz.pinned (OpenSpec.upto statsRisesSpec)

end Rows
end Go.Proofs.YteaahinjcfjngaaGreat
