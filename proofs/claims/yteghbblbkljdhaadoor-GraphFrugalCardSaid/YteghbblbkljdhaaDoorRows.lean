/-
  NARROWER THAN 'FOR EVERY INPUT', by the rows' own cells (each row's printed sentence says how): GraphFresh: laid · GraphFrugal: laid · GraphLong: laid · GraphNil: laid · ReportLines: laid · ReportSorts: laid · ReportOrder: laid · ReportCounts: laid · ReportJoins: laid.
  DERIVED. THE GIVEN ROWS OF THIS SEAT. 9 by the template 'for every input the law returns true; each argument reads behind the call as it read before'; 0 by the template 'total and deterministic' (their statements: YteghbblbkljdhaaDoorTotals.lean).
  GIVEN WITH THE SEED: the statements are not yours to turn. If you find one false, say at which input.
  Laid BY PROGRAM, IN A SANDBOX (cutbox-rows.mjs): the forced cells as the released guide's own fill.sh prints them over the translation 074daaff7ba51492… (all of the seat's roots in one cut). By AI agents, Wed Nov 11 2026. No macro, syntax, notation, axiom, sorry.
-/
import Derived.Test.YteghbblbkljdhaaDoorChecked
import GoSem.Claim
import GoSem.ClaimJoined
import GoSem.ClaimMapViews
import Derived.JoinedTies
import Derived.KernelRfl
namespace Go.Proofs.YteghbblbkljdhaaDoor
/- THE CELL 'sum', in the pinned program and in every row, IS THE sha256 OF THE DUMP (.gsa) THAT YteghbblbkljdhaaDoorProg.lean LOADS. Nothing in Lean hashes anything: it is a label: what it is worth is what the hold of that sum in a sandbox is worth. -/
noncomputable def Tryd.pinned : Pinned := { name := "yteghbblbkljdhaadoor", sum := "074daaff7ba514925191a5458f7911d481872c7f0034f5b0445986d0196f0b52", checked := Tryd.checked }
namespace Rows
def none {H : Type} : Left H := { results := [], args := [] }

/- WHAT THE LISTED PACKAGE-LEVEL VARIABLES READ AS WHEN THE CALL BEGINS. Each datum BY PROGRAM (the guide's laid-datum.mjs) off the statement by which the dump's own 'gosem.cut.vars' lays the variable. In a bare row this is a premise. The card (YteghbblbkljdhaaDoorCards.lean) ties it to the program's text. -/
def laid_math_bits_deBruijn32tab {H : Type} : DataW H := .agg [.lit (.int .u8 0), .lit (.int .u8 1), .lit (.int .u8 28), .lit (.int .u8 2), .lit (.int .u8 29), .lit (.int .u8 14), .lit (.int .u8 24), .lit (.int .u8 3), .lit (.int .u8 30), .lit (.int .u8 22), .lit (.int .u8 20), .lit (.int .u8 15), .lit (.int .u8 25), .lit (.int .u8 17), .lit (.int .u8 4), .lit (.int .u8 8), .lit (.int .u8 31), .lit (.int .u8 27), .lit (.int .u8 13), .lit (.int .u8 23), .lit (.int .u8 21), .lit (.int .u8 19), .lit (.int .u8 16), .lit (.int .u8 7), .lit (.int .u8 26), .lit (.int .u8 12), .lit (.int .u8 18), .lit (.int .u8 6), .lit (.int .u8 11), .lit (.int .u8 5), .lit (.int .u8 10), .lit (.int .u8 9)]
def laid_math_bits_deBruijn64tab {H : Type} : DataW H := .agg [.lit (.int .u8 0), .lit (.int .u8 1), .lit (.int .u8 56), .lit (.int .u8 2), .lit (.int .u8 57), .lit (.int .u8 49), .lit (.int .u8 28), .lit (.int .u8 3), .lit (.int .u8 61), .lit (.int .u8 58), .lit (.int .u8 42), .lit (.int .u8 50), .lit (.int .u8 38), .lit (.int .u8 29), .lit (.int .u8 17), .lit (.int .u8 4), .lit (.int .u8 62), .lit (.int .u8 47), .lit (.int .u8 59), .lit (.int .u8 36), .lit (.int .u8 45), .lit (.int .u8 43), .lit (.int .u8 51), .lit (.int .u8 22), .lit (.int .u8 53), .lit (.int .u8 39), .lit (.int .u8 33), .lit (.int .u8 30), .lit (.int .u8 24), .lit (.int .u8 18), .lit (.int .u8 12), .lit (.int .u8 5), .lit (.int .u8 63), .lit (.int .u8 55), .lit (.int .u8 48), .lit (.int .u8 27), .lit (.int .u8 60), .lit (.int .u8 41), .lit (.int .u8 37), .lit (.int .u8 16), .lit (.int .u8 46), .lit (.int .u8 35), .lit (.int .u8 44), .lit (.int .u8 21), .lit (.int .u8 52), .lit (.int .u8 32), .lit (.int .u8 23), .lit (.int .u8 11), .lit (.int .u8 54), .lit (.int .u8 26), .lit (.int .u8 40), .lit (.int .u8 15), .lit (.int .u8 34), .lit (.int .u8 20), .lit (.int .u8 31), .lit (.int .u8 10), .lit (.int .u8 25), .lit (.int .u8 14), .lit (.int .u8 19), .lit (.int .u8 9), .lit (.int .u8 13), .lit (.int .u8 8), .lit (.int .u8 7), .lit (.int .u8 6)]
def laid_internal_strconv_uint64pow10 {H : Type} : DataW H := .agg [.lit (.int .u64 1), .lit (.int .u64 10), .lit (.int .u64 100), .lit (.int .u64 1000), .lit (.int .u64 10000), .lit (.int .u64 100000), .lit (.int .u64 1000000), .lit (.int .u64 10000000), .lit (.int .u64 100000000), .lit (.int .u64 1000000000), .lit (.int .u64 10000000000), .lit (.int .u64 100000000000), .lit (.int .u64 1000000000000), .lit (.int .u64 10000000000000), .lit (.int .u64 100000000000000), .lit (.int .u64 1000000000000000), .lit (.int .u64 10000000000000000), .lit (.int .u64 100000000000000000), .lit (.int .u64 1000000000000000000), .lit (.int .u64 10000000000000000000)]
def laid_plinth_report_said {H : Type} : DataW H := .agg [.lit (.string []), .lit (.string [115, 121, 110, 116, 97, 120]), .lit (.string [116, 111, 111, 32, 109, 97, 110, 121, 32, 111, 112, 101, 110, 32, 98, 114, 97, 99, 107, 101, 116, 115]), .lit (.string [100, 101, 99, 108, 97, 114, 101, 100, 32, 116, 119, 105, 99, 101]), .lit (.string [111, 118, 101, 114, 108, 111, 97, 100, 32, 119, 105, 116, 104, 111, 117, 116, 32, 97, 32, 102, 117, 110, 99, 116, 105, 111, 110]), .lit (.string [110, 111, 32, 115, 117, 99, 104, 32, 102, 105, 108, 101]), .lit (.string [110, 111, 116, 32, 101, 120, 112, 111, 114, 116, 101, 100]), .lit (.string [119, 114, 111, 110, 103, 32, 110, 117, 109, 98, 101, 114, 32, 111, 102, 32, 97, 114, 103, 117, 109, 101, 110, 116, 115]), .lit (.string [110, 111, 32, 115, 117, 99, 104, 32, 116, 121, 112, 101]), .lit (.string [115, 101, 99, 111, 110, 100, 32, 111, 102, 32, 105, 116, 115, 32, 110, 97, 109, 101]), .lit (.string [99, 97, 110, 110, 111, 116, 32, 98, 101, 32, 112, 117, 116, 32, 116, 111, 103, 101, 116, 104, 101, 114]), .lit (.string [105, 110, 102, 101, 114, 32, 111, 117, 116, 32, 111, 102, 32, 112, 108, 97, 99, 101]), .lit (.string [116, 111, 111, 32, 108, 97, 114, 103, 101]), .lit (.string [117, 110, 108, 105, 107, 101, 32, 116, 121, 112, 101, 32, 118, 97, 114, 105, 97, 98, 108, 101, 115]), .lit (.string [99, 97, 110, 110, 111, 116, 32, 98, 101, 32, 101, 120, 116, 101, 110, 100, 101, 100]), .lit (.string [101, 120, 116, 101, 110, 100, 115, 32, 105, 116, 115, 101, 108, 102]), .lit (.string []), .lit (.string []), .lit (.string []), .lit (.string []), .lit (.string [110, 111, 32, 115, 117, 99, 104, 32, 118, 97, 108, 117, 101]), .lit (.string [99, 97, 110, 110, 111, 116, 32, 98, 101, 32, 99, 97, 108, 108, 101, 100, 32, 115, 111]), .lit (.string [110, 111, 32, 115, 117, 99, 104, 32, 109, 101, 109, 98, 101, 114]), .lit (.string [119, 114, 111, 110, 103, 32, 111, 112, 101, 114, 97, 110, 100]), .lit (.string [100, 111, 101, 115, 32, 110, 111, 116, 32, 102, 105, 116]), .lit (.string [99, 97, 110, 110, 111, 116, 32, 98, 101, 32, 119, 114, 105, 116, 116, 101, 110]), .lit (.string [110, 111, 32, 116, 104, 105, 115, 32, 104, 101, 114, 101]), .lit (.string [108, 105, 109, 105, 116, 32, 114, 101, 97, 99, 104, 101, 100]), .lit (.string [109, 105, 115, 115, 105, 110, 103, 32, 114, 101, 116, 117, 114, 110]), .lit (.string [110, 111, 32, 115, 117, 99, 104, 32, 99, 108, 97, 115, 115]), .lit (.string [115, 101, 99, 111, 110, 100, 32, 111, 102, 32, 105, 116, 115, 32, 110, 97, 109, 101, 32, 105, 110, 32, 116, 104, 105, 115, 32, 98, 108, 111, 99, 107]), .lit (.string [114, 101, 116, 117, 114, 110, 32, 111, 117, 116, 32, 111, 102, 32, 112, 108, 97, 99, 101])]

/-- 'plinthlaw11.GraphFresh': WHATEVER THE INPUT: true; the input reads as it did. -/
def graphFreshSpec : ChangeSpec := { name := "graphFresh", fn := fun _ => fun
  | [d1, d2] => { results := [.lit (.bool true)], args := [d1, d2] }
  | _ => none }
def graphFreshRow : OpenClaim := { program := "yteghbblbkljdhaadoor", sum := "074daaff7ba514925191a5458f7911d481872c7f0034f5b0445986d0196f0b52", func := "plinth/plinthlaw11.GraphFresh", spec := "graphFresh", inPlace := ["internal/abi.NoEscape"], unfollowed := true, recurses := true, named := ["internal/strconv.uint64pow10", "math/bits.deBruijn32tab", "math/bits.deBruijn64tab"], apart := false, laid := [("math/bits.deBruijn32tab", laid_math_bits_deBruijn32tab), ("math/bits.deBruijn64tab", laid_math_bits_deBruijn64tab), ("internal/strconv.uint64pow10", laid_internal_strconv_uint64pow10)] }
def GraphFreshSaid : Prop := graphFreshRow.holds Tryd.pinned (OpenSpec.ofChange graphFreshSpec)

/-- ITS FALSE NEIGHBOUR: 'it returns false'. Refute it at one input. -/
def graphFreshWrong : ChangeSpec := { name := "graphFresh", fn := fun _ => fun
  | [d1, d2] => { results := [.lit (.bool false)], args := [d1, d2] }
  | _ => none }
def GraphFreshWrongFalsely : Prop := graphFreshRow.holds Tryd.pinned (OpenSpec.ofChange graphFreshWrong)

/-- 'plinthlaw11.GraphFrugal': WHATEVER THE INPUT: true; the input reads as it did. -/
def graphFrugalSpec : ChangeSpec := { name := "graphFrugal", fn := fun _ => fun
  | [d1, d2] => { results := [.lit (.bool true)], args := [d1, d2] }
  | _ => none }
def graphFrugalRow : OpenClaim := { program := "yteghbblbkljdhaadoor", sum := "074daaff7ba514925191a5458f7911d481872c7f0034f5b0445986d0196f0b52", func := "plinth/plinthlaw11.GraphFrugal", spec := "graphFrugal", inPlace := ["internal/abi.NoEscape"], unfollowed := true, recurses := true, named := ["internal/strconv.uint64pow10", "math/bits.deBruijn32tab", "math/bits.deBruijn64tab"], apart := false, laid := [("math/bits.deBruijn32tab", laid_math_bits_deBruijn32tab), ("math/bits.deBruijn64tab", laid_math_bits_deBruijn64tab), ("internal/strconv.uint64pow10", laid_internal_strconv_uint64pow10)] }
def GraphFrugalSaid : Prop := graphFrugalRow.holds Tryd.pinned (OpenSpec.ofChange graphFrugalSpec)

/-- ITS FALSE NEIGHBOUR: 'it returns false'. Refute it at one input. -/
def graphFrugalWrong : ChangeSpec := { name := "graphFrugal", fn := fun _ => fun
  | [d1, d2] => { results := [.lit (.bool false)], args := [d1, d2] }
  | _ => none }
def GraphFrugalWrongFalsely : Prop := graphFrugalRow.holds Tryd.pinned (OpenSpec.ofChange graphFrugalWrong)

/-- 'plinthlaw11.GraphLong': WHATEVER THE INPUT: true; the input reads as it did. -/
def graphLongSpec : ChangeSpec := { name := "graphLong", fn := fun _ => fun
  | [d1, d2] => { results := [.lit (.bool true)], args := [d1, d2] }
  | _ => none }
def graphLongRow : OpenClaim := { program := "yteghbblbkljdhaadoor", sum := "074daaff7ba514925191a5458f7911d481872c7f0034f5b0445986d0196f0b52", func := "plinth/plinthlaw11.GraphLong", spec := "graphLong", inPlace := ["internal/abi.NoEscape"], unfollowed := true, recurses := true, named := ["internal/strconv.uint64pow10", "math/bits.deBruijn32tab", "math/bits.deBruijn64tab"], apart := false, laid := [("math/bits.deBruijn32tab", laid_math_bits_deBruijn32tab), ("math/bits.deBruijn64tab", laid_math_bits_deBruijn64tab), ("internal/strconv.uint64pow10", laid_internal_strconv_uint64pow10)] }
def GraphLongSaid : Prop := graphLongRow.holds Tryd.pinned (OpenSpec.ofChange graphLongSpec)

/-- ITS FALSE NEIGHBOUR: 'it returns false'. Refute it at one input. -/
def graphLongWrong : ChangeSpec := { name := "graphLong", fn := fun _ => fun
  | [d1, d2] => { results := [.lit (.bool false)], args := [d1, d2] }
  | _ => none }
def GraphLongWrongFalsely : Prop := graphLongRow.holds Tryd.pinned (OpenSpec.ofChange graphLongWrong)

/-- 'plinthlaw11.GraphNil': WHATEVER THE INPUT: true; the input reads as it did. -/
def graphNilSpec : ChangeSpec := { name := "graphNil", fn := fun _ => fun
  | [d1, d2] => { results := [.lit (.bool true)], args := [d1, d2] }
  | _ => none }
def graphNilRow : OpenClaim := { program := "yteghbblbkljdhaadoor", sum := "074daaff7ba514925191a5458f7911d481872c7f0034f5b0445986d0196f0b52", func := "plinth/plinthlaw11.GraphNil", spec := "graphNil", inPlace := ["internal/abi.NoEscape"], unfollowed := true, recurses := true, named := ["internal/strconv.uint64pow10", "math/bits.deBruijn32tab", "math/bits.deBruijn64tab"], apart := false, laid := [("math/bits.deBruijn32tab", laid_math_bits_deBruijn32tab), ("math/bits.deBruijn64tab", laid_math_bits_deBruijn64tab), ("internal/strconv.uint64pow10", laid_internal_strconv_uint64pow10)] }
def GraphNilSaid : Prop := graphNilRow.holds Tryd.pinned (OpenSpec.ofChange graphNilSpec)

/-- ITS FALSE NEIGHBOUR: 'it returns false'. Refute it at one input. -/
def graphNilWrong : ChangeSpec := { name := "graphNil", fn := fun _ => fun
  | [d1, d2] => { results := [.lit (.bool false)], args := [d1, d2] }
  | _ => none }
def GraphNilWrongFalsely : Prop := graphNilRow.holds Tryd.pinned (OpenSpec.ofChange graphNilWrong)

/-- 'plinthlaw22.ReportLines': WHATEVER THE INPUT: true; the input reads as it did. -/
def reportLinesSpec : ChangeSpec := { name := "reportLines", fn := fun _ => fun
  | [d1, d2, d3] => { results := [.lit (.bool true)], args := [d1, d2, d3] }
  | _ => none }
def reportLinesRow : OpenClaim := { program := "yteghbblbkljdhaadoor", sum := "074daaff7ba514925191a5458f7911d481872c7f0034f5b0445986d0196f0b52", func := "plinth/plinthlaw22.ReportLines", spec := "reportLines", inPlace := ["internal/bytealg.CountString", "internal/bytealg.IndexByteString", "internal/bytealg.IndexString"], named := ["internal/bytealg.MaxLen", "internal/strconv.uint64pow10", "math/bits.deBruijn32tab", "math/bits.deBruijn64tab", "plinth/report.said"], apart := false, laid := [("math/bits.deBruijn32tab", laid_math_bits_deBruijn32tab), ("math/bits.deBruijn64tab", laid_math_bits_deBruijn64tab), ("internal/strconv.uint64pow10", laid_internal_strconv_uint64pow10), ("plinth/report.said", laid_plinth_report_said)] }
def ReportLinesSaid : Prop := reportLinesRow.holds Tryd.pinned (OpenSpec.ofChange reportLinesSpec)

/-- ITS FALSE NEIGHBOUR: 'it returns false'. Refute it at one input. -/
def reportLinesWrong : ChangeSpec := { name := "reportLines", fn := fun _ => fun
  | [d1, d2, d3] => { results := [.lit (.bool false)], args := [d1, d2, d3] }
  | _ => none }
def ReportLinesWrongFalsely : Prop := reportLinesRow.holds Tryd.pinned (OpenSpec.ofChange reportLinesWrong)

/-- 'plinthlaw22.ReportSorts': WHATEVER THE INPUT: true; the input reads as it did. -/
def reportSortsSpec : ChangeSpec := { name := "reportSorts", fn := fun _ => fun
  | [d1, d2] => { results := [.lit (.bool true)], args := [d1, d2] }
  | _ => none }
def reportSortsRow : OpenClaim := { program := "yteghbblbkljdhaadoor", sum := "074daaff7ba514925191a5458f7911d481872c7f0034f5b0445986d0196f0b52", func := "plinth/plinthlaw22.ReportSorts", spec := "reportSorts", inPlace := ["internal/bytealg.CountString", "internal/bytealg.IndexByteString", "internal/bytealg.IndexString", "internal/abi.NoEscape"], unfollowed := true, recurses := true, named := ["internal/bytealg.MaxLen", "internal/strconv.uint64pow10", "math/bits.deBruijn32tab", "math/bits.deBruijn64tab", "plinth/report.said"], apart := false, laid := [("math/bits.deBruijn32tab", laid_math_bits_deBruijn32tab), ("math/bits.deBruijn64tab", laid_math_bits_deBruijn64tab), ("internal/strconv.uint64pow10", laid_internal_strconv_uint64pow10), ("plinth/report.said", laid_plinth_report_said)] }
def ReportSortsSaid : Prop := reportSortsRow.holds Tryd.pinned (OpenSpec.ofChange reportSortsSpec)

/-- ITS FALSE NEIGHBOUR: 'it returns false'. Refute it at one input. -/
def reportSortsWrong : ChangeSpec := { name := "reportSorts", fn := fun _ => fun
  | [d1, d2] => { results := [.lit (.bool false)], args := [d1, d2] }
  | _ => none }
def ReportSortsWrongFalsely : Prop := reportSortsRow.holds Tryd.pinned (OpenSpec.ofChange reportSortsWrong)

/-- 'plinthlaw22.ReportOrder': WHATEVER THE INPUT: true; the input reads as it did. -/
def reportOrderSpec : ChangeSpec := { name := "reportOrder", fn := fun _ => fun
  | [d] => { results := [.lit (.bool true)], args := [d] }
  | _ => none }
def reportOrderRow : OpenClaim := { program := "yteghbblbkljdhaadoor", sum := "074daaff7ba514925191a5458f7911d481872c7f0034f5b0445986d0196f0b52", func := "plinth/plinthlaw22.ReportOrder", spec := "reportOrder", inPlace := ["internal/bytealg.CountString", "internal/bytealg.IndexByteString", "internal/bytealg.IndexString"], unfollowed := true, recurses := true, named := ["internal/bytealg.MaxLen", "internal/strconv.uint64pow10", "math/bits.deBruijn32tab", "math/bits.deBruijn64tab", "plinth/report.said"], apart := false, laid := [("math/bits.deBruijn32tab", laid_math_bits_deBruijn32tab), ("math/bits.deBruijn64tab", laid_math_bits_deBruijn64tab), ("internal/strconv.uint64pow10", laid_internal_strconv_uint64pow10), ("plinth/report.said", laid_plinth_report_said)] }
def ReportOrderSaid : Prop := reportOrderRow.holds Tryd.pinned (OpenSpec.ofChange reportOrderSpec)

/-- ITS FALSE NEIGHBOUR: 'it returns false'. Refute it at one input. -/
def reportOrderWrong : ChangeSpec := { name := "reportOrder", fn := fun _ => fun
  | [d] => { results := [.lit (.bool false)], args := [d] }
  | _ => none }
def ReportOrderWrongFalsely : Prop := reportOrderRow.holds Tryd.pinned (OpenSpec.ofChange reportOrderWrong)

/-- 'plinthlaw22.ReportCounts': WHATEVER THE INPUT: true; the input reads as it did. -/
def reportCountsSpec : ChangeSpec := { name := "reportCounts", fn := fun _ => fun
  | [d] => { results := [.lit (.bool true)], args := [d] }
  | _ => none }
def reportCountsRow : OpenClaim := { program := "yteghbblbkljdhaadoor", sum := "074daaff7ba514925191a5458f7911d481872c7f0034f5b0445986d0196f0b52", func := "plinth/plinthlaw22.ReportCounts", spec := "reportCounts", inPlace := ["internal/bytealg.CountString", "internal/bytealg.IndexByteString", "internal/bytealg.IndexString", "internal/abi.NoEscape"], unfollowed := true, recurses := true, named := ["internal/bytealg.MaxLen", "internal/strconv.uint64pow10", "math/bits.deBruijn32tab", "math/bits.deBruijn64tab", "plinth/report.said"], apart := false, laid := [("math/bits.deBruijn32tab", laid_math_bits_deBruijn32tab), ("math/bits.deBruijn64tab", laid_math_bits_deBruijn64tab), ("internal/strconv.uint64pow10", laid_internal_strconv_uint64pow10), ("plinth/report.said", laid_plinth_report_said)] }
def ReportCountsSaid : Prop := reportCountsRow.holds Tryd.pinned (OpenSpec.ofChange reportCountsSpec)

/-- ITS FALSE NEIGHBOUR: 'it returns false'. Refute it at one input. -/
def reportCountsWrong : ChangeSpec := { name := "reportCounts", fn := fun _ => fun
  | [d] => { results := [.lit (.bool false)], args := [d] }
  | _ => none }
def ReportCountsWrongFalsely : Prop := reportCountsRow.holds Tryd.pinned (OpenSpec.ofChange reportCountsWrong)

/-- 'plinthlaw22.ReportJoins': WHATEVER THE INPUT: true; the input reads as it did. -/
def reportJoinsSpec : ChangeSpec := { name := "reportJoins", fn := fun _ => fun
  | [d1, d2, d3] => { results := [.lit (.bool true)], args := [d1, d2, d3] }
  | _ => none }
def reportJoinsRow : OpenClaim := { program := "yteghbblbkljdhaadoor", sum := "074daaff7ba514925191a5458f7911d481872c7f0034f5b0445986d0196f0b52", func := "plinth/plinthlaw22.ReportJoins", spec := "reportJoins", inPlace := ["internal/bytealg.CountString", "internal/bytealg.IndexByteString", "internal/bytealg.IndexString", "internal/abi.NoEscape"], unfollowed := true, recurses := true, named := ["internal/bytealg.MaxLen", "internal/strconv.uint64pow10", "math/bits.deBruijn32tab", "math/bits.deBruijn64tab", "plinth/report.said"], apart := false, laid := [("math/bits.deBruijn32tab", laid_math_bits_deBruijn32tab), ("math/bits.deBruijn64tab", laid_math_bits_deBruijn64tab), ("internal/strconv.uint64pow10", laid_internal_strconv_uint64pow10), ("plinth/report.said", laid_plinth_report_said)] }
def ReportJoinsSaid : Prop := reportJoinsRow.holds Tryd.pinned (OpenSpec.ofChange reportJoinsSpec)

/-- ITS FALSE NEIGHBOUR: 'it returns false'. Refute it at one input. -/
def reportJoinsWrong : ChangeSpec := { name := "reportJoins", fn := fun _ => fun
  | [d1, d2, d3] => { results := [.lit (.bool false)], args := [d1, d2, d3] }
  | _ => none }
def ReportJoinsWrongFalsely : Prop := reportJoinsRow.holds Tryd.pinned (OpenSpec.ofChange reportJoinsWrong)

/- THE SECOND FORM. 'bulk': how many values and letters a reading holds, each counted each time it is reached (what is shared counts as often as it is met; a slice's spare places count too). A statement '..UptoSaid' is the law's where the arguments, and the package variables that the reading takes, are together of bulk at most 1048576: NARROWER than '..Said'. Prove '..Said' where nothing that the law and all that it calls make is longer than what came in: it says more and counts as full. Else prove '..UptoSaid'. A law counts once. -/
mutual
def uptoBulk {H : Type} : DataW H → Nat
  | .lit (.string bytes) => bytes.length + 1
  | .lit _ => 1
  | .nil => 1
  | .ptr d => uptoBulk d + 1
  | .slice elems spare => uptoBulkAll elems + uptoBulkAll spare + 1
  | .agg parts => uptoBulkAll parts + 1
  | .iface _ d => uptoBulk d + 1
  | .map entries => uptoBulkEntries entries + 1
  | .held _ => 1
def uptoBulkAll {H : Type} : List (DataW H) → Nat
  | [] => 0
  | d :: r => uptoBulk d + uptoBulkAll r
def uptoBulkEntries {H : Type} : List (Lit × DataW H) → Nat
  | [] => 0
  | x :: r => uptoBulkEntry x + uptoBulkEntries r
def uptoBulkEntry {H : Type} : Lit × DataW H → Nat
  | (.string bytes, d) => bytes.length + uptoBulk d + 1
  | (_, d) => uptoBulk d + 1
 end
def uptoSmall : (H : Type) → List (DataW H) → Bool := fun _ ds => decide (uptoBulkAll ds ≤ 1048576)
def OpenSpec.upto (s : _root_.Go.ChangeSpec) : _root_.Go.OpenSpec := { _root_.Go.OpenSpec.ofChange s with cond := some uptoSmall }

/-- 'plinthlaw11.GraphFresh', WHERE WHAT IT READS IS OF BULK AT MOST 1048576: true; the input reads as it did. -/
def graphFreshUptoRow : OpenClaim := { program := "yteghbblbkljdhaadoor", sum := "074daaff7ba514925191a5458f7911d481872c7f0034f5b0445986d0196f0b52", func := "plinth/plinthlaw11.GraphFresh", spec := "graphFresh", inPlace := ["internal/abi.NoEscape"], unfollowed := true, recurses := true, named := ["internal/strconv.uint64pow10", "math/bits.deBruijn32tab", "math/bits.deBruijn64tab"], apart := false, laid := [("math/bits.deBruijn32tab", laid_math_bits_deBruijn32tab), ("math/bits.deBruijn64tab", laid_math_bits_deBruijn64tab), ("internal/strconv.uint64pow10", laid_internal_strconv_uint64pow10)], narrowed := true }
def GraphFreshUptoSaid : Prop := graphFreshUptoRow.holds Tryd.pinned (OpenSpec.upto graphFreshSpec)

/-- 'plinthlaw11.GraphFrugal', WHERE WHAT IT READS IS OF BULK AT MOST 1048576: true; the input reads as it did. -/
def graphFrugalUptoRow : OpenClaim := { program := "yteghbblbkljdhaadoor", sum := "074daaff7ba514925191a5458f7911d481872c7f0034f5b0445986d0196f0b52", func := "plinth/plinthlaw11.GraphFrugal", spec := "graphFrugal", inPlace := ["internal/abi.NoEscape"], unfollowed := true, recurses := true, named := ["internal/strconv.uint64pow10", "math/bits.deBruijn32tab", "math/bits.deBruijn64tab"], apart := false, laid := [("math/bits.deBruijn32tab", laid_math_bits_deBruijn32tab), ("math/bits.deBruijn64tab", laid_math_bits_deBruijn64tab), ("internal/strconv.uint64pow10", laid_internal_strconv_uint64pow10)], narrowed := true }
def GraphFrugalUptoSaid : Prop := graphFrugalUptoRow.holds Tryd.pinned (OpenSpec.upto graphFrugalSpec)

/-- 'plinthlaw11.GraphLong', WHERE WHAT IT READS IS OF BULK AT MOST 1048576: true; the input reads as it did. -/
def graphLongUptoRow : OpenClaim := { program := "yteghbblbkljdhaadoor", sum := "074daaff7ba514925191a5458f7911d481872c7f0034f5b0445986d0196f0b52", func := "plinth/plinthlaw11.GraphLong", spec := "graphLong", inPlace := ["internal/abi.NoEscape"], unfollowed := true, recurses := true, named := ["internal/strconv.uint64pow10", "math/bits.deBruijn32tab", "math/bits.deBruijn64tab"], apart := false, laid := [("math/bits.deBruijn32tab", laid_math_bits_deBruijn32tab), ("math/bits.deBruijn64tab", laid_math_bits_deBruijn64tab), ("internal/strconv.uint64pow10", laid_internal_strconv_uint64pow10)], narrowed := true }
def GraphLongUptoSaid : Prop := graphLongUptoRow.holds Tryd.pinned (OpenSpec.upto graphLongSpec)

/-- 'plinthlaw11.GraphNil', WHERE WHAT IT READS IS OF BULK AT MOST 1048576: true; the input reads as it did. -/
def graphNilUptoRow : OpenClaim := { program := "yteghbblbkljdhaadoor", sum := "074daaff7ba514925191a5458f7911d481872c7f0034f5b0445986d0196f0b52", func := "plinth/plinthlaw11.GraphNil", spec := "graphNil", inPlace := ["internal/abi.NoEscape"], unfollowed := true, recurses := true, named := ["internal/strconv.uint64pow10", "math/bits.deBruijn32tab", "math/bits.deBruijn64tab"], apart := false, laid := [("math/bits.deBruijn32tab", laid_math_bits_deBruijn32tab), ("math/bits.deBruijn64tab", laid_math_bits_deBruijn64tab), ("internal/strconv.uint64pow10", laid_internal_strconv_uint64pow10)], narrowed := true }
def GraphNilUptoSaid : Prop := graphNilUptoRow.holds Tryd.pinned (OpenSpec.upto graphNilSpec)

/-- 'plinthlaw22.ReportLines', WHERE WHAT IT READS IS OF BULK AT MOST 1048576: true; the input reads as it did. -/
def reportLinesUptoRow : OpenClaim := { program := "yteghbblbkljdhaadoor", sum := "074daaff7ba514925191a5458f7911d481872c7f0034f5b0445986d0196f0b52", func := "plinth/plinthlaw22.ReportLines", spec := "reportLines", inPlace := ["internal/bytealg.CountString", "internal/bytealg.IndexByteString", "internal/bytealg.IndexString"], named := ["internal/bytealg.MaxLen", "internal/strconv.uint64pow10", "math/bits.deBruijn32tab", "math/bits.deBruijn64tab", "plinth/report.said"], apart := false, laid := [("math/bits.deBruijn32tab", laid_math_bits_deBruijn32tab), ("math/bits.deBruijn64tab", laid_math_bits_deBruijn64tab), ("internal/strconv.uint64pow10", laid_internal_strconv_uint64pow10), ("plinth/report.said", laid_plinth_report_said)], narrowed := true }
def ReportLinesUptoSaid : Prop := reportLinesUptoRow.holds Tryd.pinned (OpenSpec.upto reportLinesSpec)

/-- 'plinthlaw22.ReportSorts', WHERE WHAT IT READS IS OF BULK AT MOST 1048576: true; the input reads as it did. -/
def reportSortsUptoRow : OpenClaim := { program := "yteghbblbkljdhaadoor", sum := "074daaff7ba514925191a5458f7911d481872c7f0034f5b0445986d0196f0b52", func := "plinth/plinthlaw22.ReportSorts", spec := "reportSorts", inPlace := ["internal/bytealg.CountString", "internal/bytealg.IndexByteString", "internal/bytealg.IndexString", "internal/abi.NoEscape"], unfollowed := true, recurses := true, named := ["internal/bytealg.MaxLen", "internal/strconv.uint64pow10", "math/bits.deBruijn32tab", "math/bits.deBruijn64tab", "plinth/report.said"], apart := false, laid := [("math/bits.deBruijn32tab", laid_math_bits_deBruijn32tab), ("math/bits.deBruijn64tab", laid_math_bits_deBruijn64tab), ("internal/strconv.uint64pow10", laid_internal_strconv_uint64pow10), ("plinth/report.said", laid_plinth_report_said)], narrowed := true }
def ReportSortsUptoSaid : Prop := reportSortsUptoRow.holds Tryd.pinned (OpenSpec.upto reportSortsSpec)

/-- 'plinthlaw22.ReportOrder', WHERE WHAT IT READS IS OF BULK AT MOST 1048576: true; the input reads as it did. -/
def reportOrderUptoRow : OpenClaim := { program := "yteghbblbkljdhaadoor", sum := "074daaff7ba514925191a5458f7911d481872c7f0034f5b0445986d0196f0b52", func := "plinth/plinthlaw22.ReportOrder", spec := "reportOrder", inPlace := ["internal/bytealg.CountString", "internal/bytealg.IndexByteString", "internal/bytealg.IndexString"], unfollowed := true, recurses := true, named := ["internal/bytealg.MaxLen", "internal/strconv.uint64pow10", "math/bits.deBruijn32tab", "math/bits.deBruijn64tab", "plinth/report.said"], apart := false, laid := [("math/bits.deBruijn32tab", laid_math_bits_deBruijn32tab), ("math/bits.deBruijn64tab", laid_math_bits_deBruijn64tab), ("internal/strconv.uint64pow10", laid_internal_strconv_uint64pow10), ("plinth/report.said", laid_plinth_report_said)], narrowed := true }
def ReportOrderUptoSaid : Prop := reportOrderUptoRow.holds Tryd.pinned (OpenSpec.upto reportOrderSpec)

/-- 'plinthlaw22.ReportCounts', WHERE WHAT IT READS IS OF BULK AT MOST 1048576: true; the input reads as it did. -/
def reportCountsUptoRow : OpenClaim := { program := "yteghbblbkljdhaadoor", sum := "074daaff7ba514925191a5458f7911d481872c7f0034f5b0445986d0196f0b52", func := "plinth/plinthlaw22.ReportCounts", spec := "reportCounts", inPlace := ["internal/bytealg.CountString", "internal/bytealg.IndexByteString", "internal/bytealg.IndexString", "internal/abi.NoEscape"], unfollowed := true, recurses := true, named := ["internal/bytealg.MaxLen", "internal/strconv.uint64pow10", "math/bits.deBruijn32tab", "math/bits.deBruijn64tab", "plinth/report.said"], apart := false, laid := [("math/bits.deBruijn32tab", laid_math_bits_deBruijn32tab), ("math/bits.deBruijn64tab", laid_math_bits_deBruijn64tab), ("internal/strconv.uint64pow10", laid_internal_strconv_uint64pow10), ("plinth/report.said", laid_plinth_report_said)], narrowed := true }
def ReportCountsUptoSaid : Prop := reportCountsUptoRow.holds Tryd.pinned (OpenSpec.upto reportCountsSpec)

/-- 'plinthlaw22.ReportJoins', WHERE WHAT IT READS IS OF BULK AT MOST 1048576: true; the input reads as it did. -/
def reportJoinsUptoRow : OpenClaim := { program := "yteghbblbkljdhaadoor", sum := "074daaff7ba514925191a5458f7911d481872c7f0034f5b0445986d0196f0b52", func := "plinth/plinthlaw22.ReportJoins", spec := "reportJoins", inPlace := ["internal/bytealg.CountString", "internal/bytealg.IndexByteString", "internal/bytealg.IndexString", "internal/abi.NoEscape"], unfollowed := true, recurses := true, named := ["internal/bytealg.MaxLen", "internal/strconv.uint64pow10", "math/bits.deBruijn32tab", "math/bits.deBruijn64tab", "plinth/report.said"], apart := false, laid := [("math/bits.deBruijn32tab", laid_math_bits_deBruijn32tab), ("math/bits.deBruijn64tab", laid_math_bits_deBruijn64tab), ("internal/strconv.uint64pow10", laid_internal_strconv_uint64pow10), ("plinth/report.said", laid_plinth_report_said)], narrowed := true }
def ReportJoinsUptoSaid : Prop := reportJoinsUptoRow.holds Tryd.pinned (OpenSpec.upto reportJoinsSpec)

end Rows
end Go.Proofs.YteghbblbkljdhaaDoor
