/-
  NARROWER THAN 'FOR EVERY INPUT', by the rows' own cells (each row's printed sentence says how): DumpHexes: laid · DumpUnhexes: laid · DumpTexts: laid · DumpParses: laid · DumpBack: laid · DumpShort: laid.
  DERIVED. THE GIVEN ROWS OF THIS SEAT. 6 by the template 'for every input the law returns true; each argument reads behind the call as it read before'; 0 by the template 'total and deterministic' (their statements: YtioleabkbkmggaaDoorTotals.lean).
  GIVEN WITH THE SEED: the statements are not yours to turn. If you find one false, say at which input.
  Laid BY PROGRAM, IN A SANDBOX (cutbox-rows.mjs): the forced cells as the released guide's own fill.sh prints them over the translation bfbd4efb489cafab… (all of the seat's roots in one cut). By AI agents, Wed Nov 11 2026. No macro, syntax, notation, axiom, sorry.
-/
import Derived.Test.YtioleabkbkmggaaDoorChecked
import GoSem.Claim
import GoSem.ClaimJoined
import GoSem.ClaimMapViews
import Derived.JoinedTies
import Derived.KernelRfl
namespace Go.Proofs.YtioleabkbkmggaaDoor
/- THE CELL 'sum', in the pinned program and in every row, IS THE sha256 OF THE DUMP (.gsa) THAT YtioleabkbkmggaaDoorProg.lean LOADS. Nothing in Lean hashes anything: it is a label: what it is worth is what the hold of that sum in a sandbox is worth. -/
noncomputable def Tryd.pinned : Pinned := { name := "ytioleabkbkmggaadoor", sum := "bfbd4efb489cafab45101fecd0a84aa48b2170bb9f43a7026f8c88e2a9c37de6", checked := Tryd.checked }
namespace Rows
def none {H : Type} : Left H := { results := [], args := [] }

/- WHAT THE LISTED PACKAGE-LEVEL VARIABLES READ AS WHEN THE CALL BEGINS. Each datum BY PROGRAM (the guide's laid-datum.mjs) off the statement by which the dump's own 'gosem.cut.vars' lays the variable. In a bare row this is a premise. The card (YtioleabkbkmggaaDoorCards.lean) ties it to the program's text. -/
def laid_math_bits_deBruijn32tab {H : Type} : DataW H := .agg [.lit (.int .u8 0), .lit (.int .u8 1), .lit (.int .u8 28), .lit (.int .u8 2), .lit (.int .u8 29), .lit (.int .u8 14), .lit (.int .u8 24), .lit (.int .u8 3), .lit (.int .u8 30), .lit (.int .u8 22), .lit (.int .u8 20), .lit (.int .u8 15), .lit (.int .u8 25), .lit (.int .u8 17), .lit (.int .u8 4), .lit (.int .u8 8), .lit (.int .u8 31), .lit (.int .u8 27), .lit (.int .u8 13), .lit (.int .u8 23), .lit (.int .u8 21), .lit (.int .u8 19), .lit (.int .u8 16), .lit (.int .u8 7), .lit (.int .u8 26), .lit (.int .u8 12), .lit (.int .u8 18), .lit (.int .u8 6), .lit (.int .u8 11), .lit (.int .u8 5), .lit (.int .u8 10), .lit (.int .u8 9)]
def laid_math_bits_deBruijn64tab {H : Type} : DataW H := .agg [.lit (.int .u8 0), .lit (.int .u8 1), .lit (.int .u8 56), .lit (.int .u8 2), .lit (.int .u8 57), .lit (.int .u8 49), .lit (.int .u8 28), .lit (.int .u8 3), .lit (.int .u8 61), .lit (.int .u8 58), .lit (.int .u8 42), .lit (.int .u8 50), .lit (.int .u8 38), .lit (.int .u8 29), .lit (.int .u8 17), .lit (.int .u8 4), .lit (.int .u8 62), .lit (.int .u8 47), .lit (.int .u8 59), .lit (.int .u8 36), .lit (.int .u8 45), .lit (.int .u8 43), .lit (.int .u8 51), .lit (.int .u8 22), .lit (.int .u8 53), .lit (.int .u8 39), .lit (.int .u8 33), .lit (.int .u8 30), .lit (.int .u8 24), .lit (.int .u8 18), .lit (.int .u8 12), .lit (.int .u8 5), .lit (.int .u8 63), .lit (.int .u8 55), .lit (.int .u8 48), .lit (.int .u8 27), .lit (.int .u8 60), .lit (.int .u8 41), .lit (.int .u8 37), .lit (.int .u8 16), .lit (.int .u8 46), .lit (.int .u8 35), .lit (.int .u8 44), .lit (.int .u8 21), .lit (.int .u8 52), .lit (.int .u8 32), .lit (.int .u8 23), .lit (.int .u8 11), .lit (.int .u8 54), .lit (.int .u8 26), .lit (.int .u8 40), .lit (.int .u8 15), .lit (.int .u8 34), .lit (.int .u8 20), .lit (.int .u8 31), .lit (.int .u8 10), .lit (.int .u8 25), .lit (.int .u8 14), .lit (.int .u8 19), .lit (.int .u8 9), .lit (.int .u8 13), .lit (.int .u8 8), .lit (.int .u8 7), .lit (.int .u8 6)]
def laid_internal_strconv_uint64pow10 {H : Type} : DataW H := .agg [.lit (.int .u64 1), .lit (.int .u64 10), .lit (.int .u64 100), .lit (.int .u64 1000), .lit (.int .u64 10000), .lit (.int .u64 100000), .lit (.int .u64 1000000), .lit (.int .u64 10000000), .lit (.int .u64 100000000), .lit (.int .u64 1000000000), .lit (.int .u64 10000000000), .lit (.int .u64 100000000000), .lit (.int .u64 1000000000000), .lit (.int .u64 10000000000000), .lit (.int .u64 100000000000000), .lit (.int .u64 1000000000000000), .lit (.int .u64 10000000000000000), .lit (.int .u64 100000000000000000), .lit (.int .u64 1000000000000000000), .lit (.int .u64 10000000000000000000)]

/-- 'coppicelaw20.DumpHexes': WHATEVER THE INPUT: true; the input reads as it did. -/
def dumpHexesSpec : ChangeSpec := { name := "dumpHexes", fn := fun _ => fun
  | [d1, d2, d3] => { results := [.lit (.bool true)], args := [d1, d2, d3] }
  | _ => none }
def dumpHexesRow : OpenClaim := { program := "ytioleabkbkmggaadoor", sum := "bfbd4efb489cafab45101fecd0a84aa48b2170bb9f43a7026f8c88e2a9c37de6", func := "coppice/coppicelaw20.DumpHexes", spec := "dumpHexes", inPlace := ["internal/bytealg.Compare", "internal/abi.NoEscape", "internal/bytealg.IndexByteString", "internal/bytealg.IndexString"], named := ["internal/strconv.uint64pow10", "math/bits.deBruijn32tab", "math/bits.deBruijn64tab", "internal/bytealg.MaxLen"], apart := false, laid := [("math/bits.deBruijn32tab", laid_math_bits_deBruijn32tab), ("math/bits.deBruijn64tab", laid_math_bits_deBruijn64tab), ("internal/strconv.uint64pow10", laid_internal_strconv_uint64pow10)] }
def DumpHexesSaid : Prop := dumpHexesRow.holds Tryd.pinned (OpenSpec.ofChange dumpHexesSpec)

/-- ITS FALSE NEIGHBOUR: 'it returns false'. Refute it at one input. -/
def dumpHexesWrong : ChangeSpec := { name := "dumpHexes", fn := fun _ => fun
  | [d1, d2, d3] => { results := [.lit (.bool false)], args := [d1, d2, d3] }
  | _ => none }
def DumpHexesWrongFalsely : Prop := dumpHexesRow.holds Tryd.pinned (OpenSpec.ofChange dumpHexesWrong)

/-- 'coppicelaw20.DumpUnhexes': WHATEVER THE INPUT: true; the input reads as it did. -/
def dumpUnhexesSpec : ChangeSpec := { name := "dumpUnhexes", fn := fun _ => fun
  | [d] => { results := [.lit (.bool true)], args := [d] }
  | _ => none }
def dumpUnhexesRow : OpenClaim := { program := "ytioleabkbkmggaadoor", sum := "bfbd4efb489cafab45101fecd0a84aa48b2170bb9f43a7026f8c88e2a9c37de6", func := "coppice/coppicelaw20.DumpUnhexes", spec := "dumpUnhexes", inPlace := ["internal/bytealg.Compare", "internal/abi.NoEscape", "internal/bytealg.IndexByteString", "internal/bytealg.IndexString"], named := ["internal/strconv.uint64pow10", "math/bits.deBruijn32tab", "math/bits.deBruijn64tab", "internal/bytealg.MaxLen"], apart := false, laid := [("math/bits.deBruijn32tab", laid_math_bits_deBruijn32tab), ("math/bits.deBruijn64tab", laid_math_bits_deBruijn64tab), ("internal/strconv.uint64pow10", laid_internal_strconv_uint64pow10)] }
def DumpUnhexesSaid : Prop := dumpUnhexesRow.holds Tryd.pinned (OpenSpec.ofChange dumpUnhexesSpec)

/-- ITS FALSE NEIGHBOUR: 'it returns false'. Refute it at one input. -/
def dumpUnhexesWrong : ChangeSpec := { name := "dumpUnhexes", fn := fun _ => fun
  | [d] => { results := [.lit (.bool false)], args := [d] }
  | _ => none }
def DumpUnhexesWrongFalsely : Prop := dumpUnhexesRow.holds Tryd.pinned (OpenSpec.ofChange dumpUnhexesWrong)

/-- 'coppicelaw20.DumpTexts': WHATEVER THE INPUT: true; the input reads as it did. -/
def dumpTextsSpec : ChangeSpec := { name := "dumpTexts", fn := fun _ => fun
  | [d1, d2, d3, d4] => { results := [.lit (.bool true)], args := [d1, d2, d3, d4] }
  | _ => none }
def dumpTextsRow : OpenClaim := { program := "ytioleabkbkmggaadoor", sum := "bfbd4efb489cafab45101fecd0a84aa48b2170bb9f43a7026f8c88e2a9c37de6", func := "coppice/coppicelaw20.DumpTexts", spec := "dumpTexts", inPlace := ["internal/bytealg.Compare", "internal/abi.NoEscape", "internal/bytealg.IndexByteString", "internal/bytealg.IndexString"], recurses := true, named := ["internal/strconv.uint64pow10", "math/bits.deBruijn32tab", "math/bits.deBruijn64tab", "internal/bytealg.MaxLen"], apart := false, laid := [("math/bits.deBruijn32tab", laid_math_bits_deBruijn32tab), ("math/bits.deBruijn64tab", laid_math_bits_deBruijn64tab), ("internal/strconv.uint64pow10", laid_internal_strconv_uint64pow10)] }
def DumpTextsSaid : Prop := dumpTextsRow.holds Tryd.pinned (OpenSpec.ofChange dumpTextsSpec)

/-- ITS FALSE NEIGHBOUR: 'it returns false'. Refute it at one input. -/
def dumpTextsWrong : ChangeSpec := { name := "dumpTexts", fn := fun _ => fun
  | [d1, d2, d3, d4] => { results := [.lit (.bool false)], args := [d1, d2, d3, d4] }
  | _ => none }
def DumpTextsWrongFalsely : Prop := dumpTextsRow.holds Tryd.pinned (OpenSpec.ofChange dumpTextsWrong)

/-- 'coppicelaw20.DumpParses': WHATEVER THE INPUT: true; the input reads as it did. -/
def dumpParsesSpec : ChangeSpec := { name := "dumpParses", fn := fun _ => fun
  | [d1, d2, d3] => { results := [.lit (.bool true)], args := [d1, d2, d3] }
  | _ => none }
def dumpParsesRow : OpenClaim := { program := "ytioleabkbkmggaadoor", sum := "bfbd4efb489cafab45101fecd0a84aa48b2170bb9f43a7026f8c88e2a9c37de6", func := "coppice/coppicelaw20.DumpParses", spec := "dumpParses", inPlace := ["internal/bytealg.Compare", "internal/abi.NoEscape", "internal/bytealg.IndexByteString", "internal/bytealg.IndexString"], recurses := true, named := ["internal/strconv.uint64pow10", "math/bits.deBruijn32tab", "math/bits.deBruijn64tab", "internal/bytealg.MaxLen"], apart := false, laid := [("math/bits.deBruijn32tab", laid_math_bits_deBruijn32tab), ("math/bits.deBruijn64tab", laid_math_bits_deBruijn64tab), ("internal/strconv.uint64pow10", laid_internal_strconv_uint64pow10)] }
def DumpParsesSaid : Prop := dumpParsesRow.holds Tryd.pinned (OpenSpec.ofChange dumpParsesSpec)

/-- ITS FALSE NEIGHBOUR: 'it returns false'. Refute it at one input. -/
def dumpParsesWrong : ChangeSpec := { name := "dumpParses", fn := fun _ => fun
  | [d1, d2, d3] => { results := [.lit (.bool false)], args := [d1, d2, d3] }
  | _ => none }
def DumpParsesWrongFalsely : Prop := dumpParsesRow.holds Tryd.pinned (OpenSpec.ofChange dumpParsesWrong)

/-- 'coppicelaw20.DumpBack': WHATEVER THE INPUT: true; the input reads as it did. -/
def dumpBackSpec : ChangeSpec := { name := "dumpBack", fn := fun _ => fun
  | [d1, d2, d3] => { results := [.lit (.bool true)], args := [d1, d2, d3] }
  | _ => none }
def dumpBackRow : OpenClaim := { program := "ytioleabkbkmggaadoor", sum := "bfbd4efb489cafab45101fecd0a84aa48b2170bb9f43a7026f8c88e2a9c37de6", func := "coppice/coppicelaw20.DumpBack", spec := "dumpBack", inPlace := ["internal/bytealg.Compare", "internal/abi.NoEscape", "internal/bytealg.IndexByteString", "internal/bytealg.IndexString"], named := ["internal/strconv.uint64pow10", "math/bits.deBruijn32tab", "math/bits.deBruijn64tab", "internal/bytealg.MaxLen"], apart := false, laid := [("math/bits.deBruijn32tab", laid_math_bits_deBruijn32tab), ("math/bits.deBruijn64tab", laid_math_bits_deBruijn64tab), ("internal/strconv.uint64pow10", laid_internal_strconv_uint64pow10)] }
def DumpBackSaid : Prop := dumpBackRow.holds Tryd.pinned (OpenSpec.ofChange dumpBackSpec)

/-- ITS FALSE NEIGHBOUR: 'it returns false'. Refute it at one input. -/
def dumpBackWrong : ChangeSpec := { name := "dumpBack", fn := fun _ => fun
  | [d1, d2, d3] => { results := [.lit (.bool false)], args := [d1, d2, d3] }
  | _ => none }
def DumpBackWrongFalsely : Prop := dumpBackRow.holds Tryd.pinned (OpenSpec.ofChange dumpBackWrong)

/-- 'coppicelaw20.DumpShort': WHATEVER THE INPUT: true; the input reads as it did. -/
def dumpShortSpec : ChangeSpec := { name := "dumpShort", fn := fun _ => fun
  | [d1, d2, d3, d4] => { results := [.lit (.bool true)], args := [d1, d2, d3, d4] }
  | _ => none }
def dumpShortRow : OpenClaim := { program := "ytioleabkbkmggaadoor", sum := "bfbd4efb489cafab45101fecd0a84aa48b2170bb9f43a7026f8c88e2a9c37de6", func := "coppice/coppicelaw20.DumpShort", spec := "dumpShort", inPlace := ["internal/bytealg.Compare", "internal/abi.NoEscape", "internal/bytealg.IndexByteString", "internal/bytealg.IndexString"], named := ["internal/strconv.uint64pow10", "math/bits.deBruijn32tab", "math/bits.deBruijn64tab", "internal/bytealg.MaxLen"], apart := false, laid := [("math/bits.deBruijn32tab", laid_math_bits_deBruijn32tab), ("math/bits.deBruijn64tab", laid_math_bits_deBruijn64tab), ("internal/strconv.uint64pow10", laid_internal_strconv_uint64pow10)] }
def DumpShortSaid : Prop := dumpShortRow.holds Tryd.pinned (OpenSpec.ofChange dumpShortSpec)

/-- ITS FALSE NEIGHBOUR: 'it returns false'. Refute it at one input. -/
def dumpShortWrong : ChangeSpec := { name := "dumpShort", fn := fun _ => fun
  | [d1, d2, d3, d4] => { results := [.lit (.bool false)], args := [d1, d2, d3, d4] }
  | _ => none }
def DumpShortWrongFalsely : Prop := dumpShortRow.holds Tryd.pinned (OpenSpec.ofChange dumpShortWrong)

/- THE SECOND FORM. 'bulk': how many values and letters a reading holds, each counted each time it is reached (what is shared counts as often as it is met; a slice's spare places count too). A statement '..UptoSaid' is the law's where the arguments, and the package variables that the reading takes, are together of bulk at most 1048576: NARROWER than '..Said'. Prove '..Said' where nothing that the law and all that it calls make is longer than what came in: it says more and counts as full. Else prove '..UptoSaid'. A law counts once. -/
mutual
def uptoBulk {H : Type} : DataW H → Nat
  | .lit (.string bytes) => bytes.length + 1
  | .lit _ => 1
  | .nil => 1
  | .ptr d => uptoBulk d + 1
  | .slice elems spare => uptoBulkAll elems + uptoBulkAll spare + 1
  | .agg parts => uptoBulkAll parts + 1
  | .iface _ d => uptoBulk d + 1
  | .map entries => uptoBulkEntries entries + 1
  | .held _ => 1
def uptoBulkAll {H : Type} : List (DataW H) → Nat
  | [] => 0
  | d :: r => uptoBulk d + uptoBulkAll r
def uptoBulkEntries {H : Type} : List (Lit × DataW H) → Nat
  | [] => 0
  | x :: r => uptoBulkEntry x + uptoBulkEntries r
def uptoBulkEntry {H : Type} : Lit × DataW H → Nat
  | (.string bytes, d) => bytes.length + uptoBulk d + 1
  | (_, d) => uptoBulk d + 1
 end
def uptoSmall : (H : Type) → List (DataW H) → Bool := fun _ ds => decide (uptoBulkAll ds ≤ 1048576)
def OpenSpec.upto (s : _root_.Go.ChangeSpec) : _root_.Go.OpenSpec := { _root_.Go.OpenSpec.ofChange s with cond := some uptoSmall }

/-- 'coppicelaw20.DumpHexes', WHERE WHAT IT READS IS OF BULK AT MOST 1048576: true; the input reads as it did. -/
def dumpHexesUptoRow : OpenClaim := { program := "ytioleabkbkmggaadoor", sum := "bfbd4efb489cafab45101fecd0a84aa48b2170bb9f43a7026f8c88e2a9c37de6", func := "coppice/coppicelaw20.DumpHexes", spec := "dumpHexes", inPlace := ["internal/bytealg.Compare", "internal/abi.NoEscape", "internal/bytealg.IndexByteString", "internal/bytealg.IndexString"], named := ["internal/strconv.uint64pow10", "math/bits.deBruijn32tab", "math/bits.deBruijn64tab", "internal/bytealg.MaxLen"], apart := false, laid := [("math/bits.deBruijn32tab", laid_math_bits_deBruijn32tab), ("math/bits.deBruijn64tab", laid_math_bits_deBruijn64tab), ("internal/strconv.uint64pow10", laid_internal_strconv_uint64pow10)], narrowed := true }
def DumpHexesUptoSaid : Prop := dumpHexesUptoRow.holds Tryd.pinned (OpenSpec.upto dumpHexesSpec)

/-- 'coppicelaw20.DumpUnhexes', WHERE WHAT IT READS IS OF BULK AT MOST 1048576: true; the input reads as it did. -/
def dumpUnhexesUptoRow : OpenClaim := { program := "ytioleabkbkmggaadoor", sum := "bfbd4efb489cafab45101fecd0a84aa48b2170bb9f43a7026f8c88e2a9c37de6", func := "coppice/coppicelaw20.DumpUnhexes", spec := "dumpUnhexes", inPlace := ["internal/bytealg.Compare", "internal/abi.NoEscape", "internal/bytealg.IndexByteString", "internal/bytealg.IndexString"], named := ["internal/strconv.uint64pow10", "math/bits.deBruijn32tab", "math/bits.deBruijn64tab", "internal/bytealg.MaxLen"], apart := false, laid := [("math/bits.deBruijn32tab", laid_math_bits_deBruijn32tab), ("math/bits.deBruijn64tab", laid_math_bits_deBruijn64tab), ("internal/strconv.uint64pow10", laid_internal_strconv_uint64pow10)], narrowed := true }
def DumpUnhexesUptoSaid : Prop := dumpUnhexesUptoRow.holds Tryd.pinned (OpenSpec.upto dumpUnhexesSpec)

/-- 'coppicelaw20.DumpTexts', WHERE WHAT IT READS IS OF BULK AT MOST 1048576: true; the input reads as it did. -/
def dumpTextsUptoRow : OpenClaim := { program := "ytioleabkbkmggaadoor", sum := "bfbd4efb489cafab45101fecd0a84aa48b2170bb9f43a7026f8c88e2a9c37de6", func := "coppice/coppicelaw20.DumpTexts", spec := "dumpTexts", inPlace := ["internal/bytealg.Compare", "internal/abi.NoEscape", "internal/bytealg.IndexByteString", "internal/bytealg.IndexString"], recurses := true, named := ["internal/strconv.uint64pow10", "math/bits.deBruijn32tab", "math/bits.deBruijn64tab", "internal/bytealg.MaxLen"], apart := false, laid := [("math/bits.deBruijn32tab", laid_math_bits_deBruijn32tab), ("math/bits.deBruijn64tab", laid_math_bits_deBruijn64tab), ("internal/strconv.uint64pow10", laid_internal_strconv_uint64pow10)], narrowed := true }
def DumpTextsUptoSaid : Prop := dumpTextsUptoRow.holds Tryd.pinned (OpenSpec.upto dumpTextsSpec)

/-- 'coppicelaw20.DumpParses', WHERE WHAT IT READS IS OF BULK AT MOST 1048576: true; the input reads as it did. -/
def dumpParsesUptoRow : OpenClaim := { program := "ytioleabkbkmggaadoor", sum := "bfbd4efb489cafab45101fecd0a84aa48b2170bb9f43a7026f8c88e2a9c37de6", func := "coppice/coppicelaw20.DumpParses", spec := "dumpParses", inPlace := ["internal/bytealg.Compare", "internal/abi.NoEscape", "internal/bytealg.IndexByteString", "internal/bytealg.IndexString"], recurses := true, named := ["internal/strconv.uint64pow10", "math/bits.deBruijn32tab", "math/bits.deBruijn64tab", "internal/bytealg.MaxLen"], apart := false, laid := [("math/bits.deBruijn32tab", laid_math_bits_deBruijn32tab), ("math/bits.deBruijn64tab", laid_math_bits_deBruijn64tab), ("internal/strconv.uint64pow10", laid_internal_strconv_uint64pow10)], narrowed := true }
def DumpParsesUptoSaid : Prop := dumpParsesUptoRow.holds Tryd.pinned (OpenSpec.upto dumpParsesSpec)

/-- 'coppicelaw20.DumpBack', WHERE WHAT IT READS IS OF BULK AT MOST 1048576: true; the input reads as it did. -/
def dumpBackUptoRow : OpenClaim := { program := "ytioleabkbkmggaadoor", sum := "bfbd4efb489cafab45101fecd0a84aa48b2170bb9f43a7026f8c88e2a9c37de6", func := "coppice/coppicelaw20.DumpBack", spec := "dumpBack", inPlace := ["internal/bytealg.Compare", "internal/abi.NoEscape", "internal/bytealg.IndexByteString", "internal/bytealg.IndexString"], named := ["internal/strconv.uint64pow10", "math/bits.deBruijn32tab", "math/bits.deBruijn64tab", "internal/bytealg.MaxLen"], apart := false, laid := [("math/bits.deBruijn32tab", laid_math_bits_deBruijn32tab), ("math/bits.deBruijn64tab", laid_math_bits_deBruijn64tab), ("internal/strconv.uint64pow10", laid_internal_strconv_uint64pow10)], narrowed := true }
def DumpBackUptoSaid : Prop := dumpBackUptoRow.holds Tryd.pinned (OpenSpec.upto dumpBackSpec)

/-- 'coppicelaw20.DumpShort', WHERE WHAT IT READS IS OF BULK AT MOST 1048576: true; the input reads as it did. -/
def dumpShortUptoRow : OpenClaim := { program := "ytioleabkbkmggaadoor", sum := "bfbd4efb489cafab45101fecd0a84aa48b2170bb9f43a7026f8c88e2a9c37de6", func := "coppice/coppicelaw20.DumpShort", spec := "dumpShort", inPlace := ["internal/bytealg.Compare", "internal/abi.NoEscape", "internal/bytealg.IndexByteString", "internal/bytealg.IndexString"], named := ["internal/strconv.uint64pow10", "math/bits.deBruijn32tab", "math/bits.deBruijn64tab", "internal/bytealg.MaxLen"], apart := false, laid := [("math/bits.deBruijn32tab", laid_math_bits_deBruijn32tab), ("math/bits.deBruijn64tab", laid_math_bits_deBruijn64tab), ("internal/strconv.uint64pow10", laid_internal_strconv_uint64pow10)], narrowed := true }
def DumpShortUptoSaid : Prop := dumpShortUptoRow.holds Tryd.pinned (OpenSpec.upto dumpShortSpec)

end Rows
end Go.Proofs.YtioleabkbkmggaaDoor
