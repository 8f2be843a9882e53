/-
  NARROWER THAN 'FOR EVERY INPUT', by the rows' own cells (each row's printed sentence says how): MetaEncodes: laid · MetaDecodes: laid · MetaNewers: laid · MetaCounts: laid · MetaBack: laid · MetaTorn: laid.
  DERIVED. THE GIVEN ROWS OF THIS SEAT. 6 by the template 'for every input the law returns true; each argument reads behind the call as it read before'; 0 by the template 'total and deterministic' (their statements: YtjbigfnggelceaaDoorTotals.lean).
  GIVEN WITH THE SEED: the statements are not yours to turn. If you find one false, say at which input.
  Laid BY PROGRAM, IN A SANDBOX (cutbox-rows.mjs): the forced cells as the released guide's own fill.sh prints them over the translation 83661b514bc31ac1… (all of the seat's roots in one cut). By AI agents, Wed Nov 11 2026. No macro, syntax, notation, axiom, sorry.
-/
import Derived.Test.YtjbigfnggelceaaDoorChecked
import GoSem.Claim
import GoSem.ClaimJoined
import GoSem.ClaimMapViews
import Derived.JoinedTies
import Derived.KernelRfl
namespace Go.Proofs.YtjbigfnggelceaaDoor
/- THE CELL 'sum', in the pinned program and in every row, IS THE sha256 OF THE DUMP (.gsa) THAT YtjbigfnggelceaaDoorProg.lean LOADS. Nothing in Lean hashes anything: it is a label: what it is worth is what the hold of that sum in a sandbox is worth. -/
noncomputable def Tryd.pinned : Pinned := { name := "ytjbigfnggelceaadoor", sum := "83661b514bc31ac1b0766c4121bfb89f53dd271e22058b32ac65c7f56930507d", checked := Tryd.checked }
namespace Rows
def none {H : Type} : Left H := { results := [], args := [] }

/- WHAT THE LISTED PACKAGE-LEVEL VARIABLES READ AS WHEN THE CALL BEGINS. Each datum BY PROGRAM (the guide's laid-datum.mjs) off the statement by which the dump's own 'gosem.cut.vars' lays the variable. In a bare row this is a premise. The card (YtjbigfnggelceaaDoorCards.lean) ties it to the program's text. -/
def laid_coppice_meta_frontMark {H : Type} : DataW H := .agg [.lit (.int .u8 99), .lit (.int .u8 111), .lit (.int .u8 112)]
def laid_coppice_meta_endMark {H : Type} : DataW H := .agg [.lit (.int .u8 101), .lit (.int .u8 110), .lit (.int .u8 100), .lit (.int .u8 46)]

/-- 'coppicelaw7.MetaEncodes': WHATEVER THE INPUT: true; the input reads as it did. -/
def metaEncodesSpec : ChangeSpec := { name := "metaEncodes", fn := fun _ => fun
  | [d] => { results := [.lit (.bool true)], args := [d] }
  | _ => none }
def metaEncodesRow : OpenClaim := { program := "ytjbigfnggelceaadoor", sum := "83661b514bc31ac1b0766c4121bfb89f53dd271e22058b32ac65c7f56930507d", func := "coppice/coppicelaw7.MetaEncodes", spec := "metaEncodes", named := ["coppice/meta.frontMark", "coppice/meta.endMark"], apart := false, laid := [("coppice/meta.frontMark", laid_coppice_meta_frontMark), ("coppice/meta.endMark", laid_coppice_meta_endMark)] }
def MetaEncodesSaid : Prop := metaEncodesRow.holds Tryd.pinned (OpenSpec.ofChange metaEncodesSpec)

/-- ITS FALSE NEIGHBOUR: 'it returns false'. Refute it at one input. -/
def metaEncodesWrong : ChangeSpec := { name := "metaEncodes", fn := fun _ => fun
  | [d] => { results := [.lit (.bool false)], args := [d] }
  | _ => none }
def MetaEncodesWrongFalsely : Prop := metaEncodesRow.holds Tryd.pinned (OpenSpec.ofChange metaEncodesWrong)

/-- 'coppicelaw7.MetaDecodes': WHATEVER THE INPUT: true; the input reads as it did. -/
def metaDecodesSpec : ChangeSpec := { name := "metaDecodes", fn := fun _ => fun
  | [d1, d2, d3] => { results := [.lit (.bool true)], args := [d1, d2, d3] }
  | _ => none }
def metaDecodesRow : OpenClaim := { program := "ytjbigfnggelceaadoor", sum := "83661b514bc31ac1b0766c4121bfb89f53dd271e22058b32ac65c7f56930507d", func := "coppice/coppicelaw7.MetaDecodes", spec := "metaDecodes", named := ["coppice/meta.frontMark", "coppice/meta.endMark"], apart := false, laid := [("coppice/meta.frontMark", laid_coppice_meta_frontMark), ("coppice/meta.endMark", laid_coppice_meta_endMark)] }
def MetaDecodesSaid : Prop := metaDecodesRow.holds Tryd.pinned (OpenSpec.ofChange metaDecodesSpec)

/-- ITS FALSE NEIGHBOUR: 'it returns false'. Refute it at one input. -/
def metaDecodesWrong : ChangeSpec := { name := "metaDecodes", fn := fun _ => fun
  | [d1, d2, d3] => { results := [.lit (.bool false)], args := [d1, d2, d3] }
  | _ => none }
def MetaDecodesWrongFalsely : Prop := metaDecodesRow.holds Tryd.pinned (OpenSpec.ofChange metaDecodesWrong)

/-- 'coppicelaw7.MetaNewers': WHATEVER THE INPUT: true; the input reads as it did. -/
def metaNewersSpec : ChangeSpec := { name := "metaNewers", fn := fun _ => fun
  | [d1, d2, d3, d4] => { results := [.lit (.bool true)], args := [d1, d2, d3, d4] }
  | _ => none }
def metaNewersRow : OpenClaim := { program := "ytjbigfnggelceaadoor", sum := "83661b514bc31ac1b0766c4121bfb89f53dd271e22058b32ac65c7f56930507d", func := "coppice/coppicelaw7.MetaNewers", spec := "metaNewers", named := ["coppice/meta.frontMark", "coppice/meta.endMark"], apart := false, laid := [("coppice/meta.frontMark", laid_coppice_meta_frontMark), ("coppice/meta.endMark", laid_coppice_meta_endMark)] }
def MetaNewersSaid : Prop := metaNewersRow.holds Tryd.pinned (OpenSpec.ofChange metaNewersSpec)

/-- ITS FALSE NEIGHBOUR: 'it returns false'. Refute it at one input. -/
def metaNewersWrong : ChangeSpec := { name := "metaNewers", fn := fun _ => fun
  | [d1, d2, d3, d4] => { results := [.lit (.bool false)], args := [d1, d2, d3, d4] }
  | _ => none }
def MetaNewersWrongFalsely : Prop := metaNewersRow.holds Tryd.pinned (OpenSpec.ofChange metaNewersWrong)

/-- 'coppicelaw7.MetaCounts': WHATEVER THE INPUT: true; the input reads as it did. -/
def metaCountsSpec : ChangeSpec := { name := "metaCounts", fn := fun _ => fun
  | [d1, d2, d3, d4] => { results := [.lit (.bool true)], args := [d1, d2, d3, d4] }
  | _ => none }
def metaCountsRow : OpenClaim := { program := "ytjbigfnggelceaadoor", sum := "83661b514bc31ac1b0766c4121bfb89f53dd271e22058b32ac65c7f56930507d", func := "coppice/coppicelaw7.MetaCounts", spec := "metaCounts", named := ["coppice/meta.frontMark", "coppice/meta.endMark"], apart := false, laid := [("coppice/meta.frontMark", laid_coppice_meta_frontMark), ("coppice/meta.endMark", laid_coppice_meta_endMark)] }
def MetaCountsSaid : Prop := metaCountsRow.holds Tryd.pinned (OpenSpec.ofChange metaCountsSpec)

/-- ITS FALSE NEIGHBOUR: 'it returns false'. Refute it at one input. -/
def metaCountsWrong : ChangeSpec := { name := "metaCounts", fn := fun _ => fun
  | [d1, d2, d3, d4] => { results := [.lit (.bool false)], args := [d1, d2, d3, d4] }
  | _ => none }
def MetaCountsWrongFalsely : Prop := metaCountsRow.holds Tryd.pinned (OpenSpec.ofChange metaCountsWrong)

/-- 'coppicelaw7.MetaBack': WHATEVER THE INPUT: true; the input reads as it did. -/
def metaBackSpec : ChangeSpec := { name := "metaBack", fn := fun _ => fun
  | [d1, d2] => { results := [.lit (.bool true)], args := [d1, d2] }
  | _ => none }
def metaBackRow : OpenClaim := { program := "ytjbigfnggelceaadoor", sum := "83661b514bc31ac1b0766c4121bfb89f53dd271e22058b32ac65c7f56930507d", func := "coppice/coppicelaw7.MetaBack", spec := "metaBack", named := ["coppice/meta.frontMark", "coppice/meta.endMark"], apart := false, laid := [("coppice/meta.frontMark", laid_coppice_meta_frontMark), ("coppice/meta.endMark", laid_coppice_meta_endMark)] }
def MetaBackSaid : Prop := metaBackRow.holds Tryd.pinned (OpenSpec.ofChange metaBackSpec)

/-- ITS FALSE NEIGHBOUR: 'it returns false'. Refute it at one input. -/
def metaBackWrong : ChangeSpec := { name := "metaBack", fn := fun _ => fun
  | [d1, d2] => { results := [.lit (.bool false)], args := [d1, d2] }
  | _ => none }
def MetaBackWrongFalsely : Prop := metaBackRow.holds Tryd.pinned (OpenSpec.ofChange metaBackWrong)

/-- 'coppicelaw7.MetaTorn': WHATEVER THE INPUT: true; the input reads as it did. -/
def metaTornSpec : ChangeSpec := { name := "metaTorn", fn := fun _ => fun
  | [d1, d2] => { results := [.lit (.bool true)], args := [d1, d2] }
  | _ => none }
def metaTornRow : OpenClaim := { program := "ytjbigfnggelceaadoor", sum := "83661b514bc31ac1b0766c4121bfb89f53dd271e22058b32ac65c7f56930507d", func := "coppice/coppicelaw7.MetaTorn", spec := "metaTorn", named := ["coppice/meta.frontMark", "coppice/meta.endMark"], apart := false, laid := [("coppice/meta.frontMark", laid_coppice_meta_frontMark), ("coppice/meta.endMark", laid_coppice_meta_endMark)] }
def MetaTornSaid : Prop := metaTornRow.holds Tryd.pinned (OpenSpec.ofChange metaTornSpec)

/-- ITS FALSE NEIGHBOUR: 'it returns false'. Refute it at one input. -/
def metaTornWrong : ChangeSpec := { name := "metaTorn", fn := fun _ => fun
  | [d1, d2] => { results := [.lit (.bool false)], args := [d1, d2] }
  | _ => none }
def MetaTornWrongFalsely : Prop := metaTornRow.holds Tryd.pinned (OpenSpec.ofChange metaTornWrong)

/- THE SECOND FORM. 'bulk': how many values and letters a reading holds, each counted each time it is reached (what is shared counts as often as it is met; a slice's spare places count too). A statement '..UptoSaid' is the law's where the arguments, and the package variables that the reading takes, are together of bulk at most 1048576: NARROWER than '..Said'. Prove '..Said' where nothing that the law and all that it calls make is longer than what came in: it says more and counts as full. Else prove '..UptoSaid'. A law counts once. -/
mutual
def uptoBulk {H : Type} : DataW H → Nat
  | .lit (.string bytes) => bytes.length + 1
  | .lit _ => 1
  | .nil => 1
  | .ptr d => uptoBulk d + 1
  | .slice elems spare => uptoBulkAll elems + uptoBulkAll spare + 1
  | .agg parts => uptoBulkAll parts + 1
  | .iface _ d => uptoBulk d + 1
  | .map entries => uptoBulkEntries entries + 1
  | .held _ => 1
def uptoBulkAll {H : Type} : List (DataW H) → Nat
  | [] => 0
  | d :: r => uptoBulk d + uptoBulkAll r
def uptoBulkEntries {H : Type} : List (Lit × DataW H) → Nat
  | [] => 0
  | x :: r => uptoBulkEntry x + uptoBulkEntries r
def uptoBulkEntry {H : Type} : Lit × DataW H → Nat
  | (.string bytes, d) => bytes.length + uptoBulk d + 1
  | (_, d) => uptoBulk d + 1
 end
def uptoSmall : (H : Type) → List (DataW H) → Bool := fun _ ds => decide (uptoBulkAll ds ≤ 1048576)
def OpenSpec.upto (s : _root_.Go.ChangeSpec) : _root_.Go.OpenSpec := { _root_.Go.OpenSpec.ofChange s with cond := some uptoSmall }

/-- 'coppicelaw7.MetaEncodes', WHERE WHAT IT READS IS OF BULK AT MOST 1048576: true; the input reads as it did. -/
def metaEncodesUptoRow : OpenClaim := { program := "ytjbigfnggelceaadoor", sum := "83661b514bc31ac1b0766c4121bfb89f53dd271e22058b32ac65c7f56930507d", func := "coppice/coppicelaw7.MetaEncodes", spec := "metaEncodes", named := ["coppice/meta.frontMark", "coppice/meta.endMark"], apart := false, laid := [("coppice/meta.frontMark", laid_coppice_meta_frontMark), ("coppice/meta.endMark", laid_coppice_meta_endMark)], narrowed := true }
def MetaEncodesUptoSaid : Prop := metaEncodesUptoRow.holds Tryd.pinned (OpenSpec.upto metaEncodesSpec)

/-- 'coppicelaw7.MetaDecodes', WHERE WHAT IT READS IS OF BULK AT MOST 1048576: true; the input reads as it did. -/
def metaDecodesUptoRow : OpenClaim := { program := "ytjbigfnggelceaadoor", sum := "83661b514bc31ac1b0766c4121bfb89f53dd271e22058b32ac65c7f56930507d", func := "coppice/coppicelaw7.MetaDecodes", spec := "metaDecodes", named := ["coppice/meta.frontMark", "coppice/meta.endMark"], apart := false, laid := [("coppice/meta.frontMark", laid_coppice_meta_frontMark), ("coppice/meta.endMark", laid_coppice_meta_endMark)], narrowed := true }
def MetaDecodesUptoSaid : Prop := metaDecodesUptoRow.holds Tryd.pinned (OpenSpec.upto metaDecodesSpec)

/-- 'coppicelaw7.MetaNewers', WHERE WHAT IT READS IS OF BULK AT MOST 1048576: true; the input reads as it did. -/
def metaNewersUptoRow : OpenClaim := { program := "ytjbigfnggelceaadoor", sum := "83661b514bc31ac1b0766c4121bfb89f53dd271e22058b32ac65c7f56930507d", func := "coppice/coppicelaw7.MetaNewers", spec := "metaNewers", named := ["coppice/meta.frontMark", "coppice/meta.endMark"], apart := false, laid := [("coppice/meta.frontMark", laid_coppice_meta_frontMark), ("coppice/meta.endMark", laid_coppice_meta_endMark)], narrowed := true }
def MetaNewersUptoSaid : Prop := metaNewersUptoRow.holds Tryd.pinned (OpenSpec.upto metaNewersSpec)

/-- 'coppicelaw7.MetaCounts', WHERE WHAT IT READS IS OF BULK AT MOST 1048576: true; the input reads as it did. -/
def metaCountsUptoRow : OpenClaim := { program := "ytjbigfnggelceaadoor", sum := "83661b514bc31ac1b0766c4121bfb89f53dd271e22058b32ac65c7f56930507d", func := "coppice/coppicelaw7.MetaCounts", spec := "metaCounts", named := ["coppice/meta.frontMark", "coppice/meta.endMark"], apart := false, laid := [("coppice/meta.frontMark", laid_coppice_meta_frontMark), ("coppice/meta.endMark", laid_coppice_meta_endMark)], narrowed := true }
def MetaCountsUptoSaid : Prop := metaCountsUptoRow.holds Tryd.pinned (OpenSpec.upto metaCountsSpec)

/-- 'coppicelaw7.MetaBack', WHERE WHAT IT READS IS OF BULK AT MOST 1048576: true; the input reads as it did. -/
def metaBackUptoRow : OpenClaim := { program := "ytjbigfnggelceaadoor", sum := "83661b514bc31ac1b0766c4121bfb89f53dd271e22058b32ac65c7f56930507d", func := "coppice/coppicelaw7.MetaBack", spec := "metaBack", named := ["coppice/meta.frontMark", "coppice/meta.endMark"], apart := false, laid := [("coppice/meta.frontMark", laid_coppice_meta_frontMark), ("coppice/meta.endMark", laid_coppice_meta_endMark)], narrowed := true }
def MetaBackUptoSaid : Prop := metaBackUptoRow.holds Tryd.pinned (OpenSpec.upto metaBackSpec)

/-- 'coppicelaw7.MetaTorn', WHERE WHAT IT READS IS OF BULK AT MOST 1048576: true; the input reads as it did. -/
def metaTornUptoRow : OpenClaim := { program := "ytjbigfnggelceaadoor", sum := "83661b514bc31ac1b0766c4121bfb89f53dd271e22058b32ac65c7f56930507d", func := "coppice/coppicelaw7.MetaTorn", spec := "metaTorn", named := ["coppice/meta.frontMark", "coppice/meta.endMark"], apart := false, laid := [("coppice/meta.frontMark", laid_coppice_meta_frontMark), ("coppice/meta.endMark", laid_coppice_meta_endMark)], narrowed := true }
def MetaTornUptoSaid : Prop := metaTornUptoRow.holds Tryd.pinned (OpenSpec.upto metaTornSpec)

end Rows
end Go.Proofs.YtjbigfnggelceaaDoor
