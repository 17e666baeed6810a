/-
  NARROWER THAN 'FOR EVERY INPUT', by the rows' own cells (each row's printed sentence says how): CondFills: loops, laid · SubstNothing: loops, laid · SubstBack: loops, laid · EvalMaps: loops, laid · EvalThere: loops, laid.
  DERIVED. THE GIVEN ROWS OF THIS SEAT. 5 by the template 'for every input the law returns true; each argument reads behind the call as it read before'; 0 by the template 'total and deterministic' (their statements: YtlpfpehegddcfaaGreatDoorTotals.lean).
  GIVEN WITH THE SEED: the statements are not yours to turn. If you find one false, say at which input.
  Laid BY PROGRAM, IN A SANDBOX (cutbox-rows.mjs): the forced cells as the released guide's own fill.sh prints them over the translation 1a4aa73574719ba5… (all of the seat's roots in one cut). By AI agents, Wed Nov 11 2026. No macro, syntax, notation, axiom, sorry.
-/
import Derived.Test.YtlpfpehegddcfaaGreatDoorChecked
import GoSem.PinnedTables
import GoSem.Claim
import GoSem.ClaimJoined
import GoSem.ClaimMapViews
import Derived.JoinedTies
import Derived.KernelRfl
namespace Go.Proofs.YtlpfpehegddcfaaGreatDoor
/- THE CELL 'sum', in the pinned program and in every row, IS THE sha256 OF THE DUMP (.gsa) THAT YtlpfpehegddcfaaGreatDoorProg.lean LOADS. Nothing in Lean hashes anything: it is a label: what it is worth is what the hold of that sum in a sandbox is worth. -/
noncomputable def Tryz.pinned : Pinned := { name := "ytlpfpehegddcfaagreatdoor", sum := "1a4aa73574719ba5739bdfc9d0da1cb8b3fe6dc8ba9a681e0d862e8b77533eac", checked := Tryz.checked }
namespace Rows
def none {H : Type} : Left H := { results := [], args := [] }

/- WHAT THE LISTED PACKAGE-LEVEL VARIABLES READ AS WHEN THE CALL BEGINS. Each datum BY PROGRAM (the guide's laid-datum.mjs) off the statement by which the dump's own 'gosem.cut.vars' lays the variable. In a bare row this is a premise. The card (YtlpfpehegddcfaaGreatDoorCards.lean) ties it to the program's text. -/
def laid_unicode_utf8_acceptRanges {H : Type} : DataW H := .agg [.agg [.lit (.int .u8 128), .lit (.int .u8 191)], .agg [.lit (.int .u8 160), .lit (.int .u8 191)], .agg [.lit (.int .u8 128), .lit (.int .u8 159)], .agg [.lit (.int .u8 144), .lit (.int .u8 191)], .agg [.lit (.int .u8 128), .lit (.int .u8 143)], .agg [.lit (.int .u8 0), .lit (.int .u8 0)], .agg [.lit (.int .u8 0), .lit (.int .u8 0)], .agg [.lit (.int .u8 0), .lit (.int .u8 0)], .agg [.lit (.int .u8 0), .lit (.int .u8 0)], .agg [.lit (.int .u8 0), .lit (.int .u8 0)], .agg [.lit (.int .u8 0), .lit (.int .u8 0)], .agg [.lit (.int .u8 0), .lit (.int .u8 0)], .agg [.lit (.int .u8 0), .lit (.int .u8 0)], .agg [.lit (.int .u8 0), .lit (.int .u8 0)], .agg [.lit (.int .u8 0), .lit (.int .u8 0)], .agg [.lit (.int .u8 0), .lit (.int .u8 0)]]
/-- One of Go's own tables, pinned by name: the form's constant. -/
def laid_unicode_utf8_first : DataW Unit := Go.Pinned.utf8First

/-- 'plinthlaw14.CondFills': WHATEVER THE INPUT: true; the input reads as it did. -/
def condFillsSpec : ChangeSpec := { name := "condFills", fn := fun _ => fun
  | [d1, d2] => { results := [.lit (.bool true)], args := [d1, d2] }
  | _ => none }
def condFillsRow : OpenClaim := { program := "ytlpfpehegddcfaagreatdoor", sum := "1a4aa73574719ba5739bdfc9d0da1cb8b3fe6dc8ba9a681e0d862e8b77533eac", func := "plinth/plinthlaw14.CondFills", spec := "condFills", inPlace := ["internal/bytealg.IndexByteString", "internal/bytealg.IndexString"], unfollowed := true, recurses := true, named := ["unicode/utf8.first", "unicode/utf8.acceptRanges", "internal/bytealg.MaxLen"], loops := true, apart := false, laid := [("unicode/utf8.acceptRanges", laid_unicode_utf8_acceptRanges), ("unicode/utf8.first", laid_unicode_utf8_first)] }
def CondFillsSaid : Prop := condFillsRow.holds Tryz.pinned (OpenSpec.ofChange condFillsSpec)

/-- ITS FALSE NEIGHBOUR: 'it returns false'. Refute it at one input. -/
def condFillsWrong : ChangeSpec := { name := "condFills", fn := fun _ => fun
  | [d1, d2] => { results := [.lit (.bool false)], args := [d1, d2] }
  | _ => none }
def CondFillsWrongFalsely : Prop := condFillsRow.holds Tryz.pinned (OpenSpec.ofChange condFillsWrong)

/-- 'plinthlaw10.SubstNothing': WHATEVER THE INPUT: true; the input reads as it did. -/
def substNothingSpec : ChangeSpec := { name := "substNothing", fn := fun _ => fun
  | [d1, d2, d3] => { results := [.lit (.bool true)], args := [d1, d2, d3] }
  | _ => none }
def substNothingRow : OpenClaim := { program := "ytlpfpehegddcfaagreatdoor", sum := "1a4aa73574719ba5739bdfc9d0da1cb8b3fe6dc8ba9a681e0d862e8b77533eac", func := "plinth/plinthlaw10.SubstNothing", spec := "substNothing", inPlace := ["internal/bytealg.IndexByteString", "internal/bytealg.IndexString"], unfollowed := true, recurses := true, named := ["unicode/utf8.first", "unicode/utf8.acceptRanges", "internal/bytealg.MaxLen"], loops := true, apart := false, laid := [("unicode/utf8.acceptRanges", laid_unicode_utf8_acceptRanges), ("unicode/utf8.first", laid_unicode_utf8_first)] }
def SubstNothingSaid : Prop := substNothingRow.holds Tryz.pinned (OpenSpec.ofChange substNothingSpec)

/-- ITS FALSE NEIGHBOUR: 'it returns false'. Refute it at one input. -/
def substNothingWrong : ChangeSpec := { name := "substNothing", fn := fun _ => fun
  | [d1, d2, d3] => { results := [.lit (.bool false)], args := [d1, d2, d3] }
  | _ => none }
def SubstNothingWrongFalsely : Prop := substNothingRow.holds Tryz.pinned (OpenSpec.ofChange substNothingWrong)

/-- 'plinthlaw10.SubstBack': WHATEVER THE INPUT: true; the input reads as it did. -/
def substBackSpec : ChangeSpec := { name := "substBack", fn := fun _ => fun
  | [d1, d2] => { results := [.lit (.bool true)], args := [d1, d2] }
  | _ => none }
def substBackRow : OpenClaim := { program := "ytlpfpehegddcfaagreatdoor", sum := "1a4aa73574719ba5739bdfc9d0da1cb8b3fe6dc8ba9a681e0d862e8b77533eac", func := "plinth/plinthlaw10.SubstBack", spec := "substBack", inPlace := ["internal/bytealg.IndexByteString", "internal/bytealg.IndexString"], unfollowed := true, recurses := true, named := ["unicode/utf8.first", "unicode/utf8.acceptRanges", "internal/bytealg.MaxLen"], loops := true, apart := false, laid := [("unicode/utf8.acceptRanges", laid_unicode_utf8_acceptRanges), ("unicode/utf8.first", laid_unicode_utf8_first)] }
def SubstBackSaid : Prop := substBackRow.holds Tryz.pinned (OpenSpec.ofChange substBackSpec)

/-- ITS FALSE NEIGHBOUR: 'it returns false'. Refute it at one input. -/
def substBackWrong : ChangeSpec := { name := "substBack", fn := fun _ => fun
  | [d1, d2] => { results := [.lit (.bool false)], args := [d1, d2] }
  | _ => none }
def SubstBackWrongFalsely : Prop := substBackRow.holds Tryz.pinned (OpenSpec.ofChange substBackWrong)

/-- 'plinthlaw13.EvalMaps': WHATEVER THE INPUT: true; the input reads as it did. -/
def evalMapsSpec : ChangeSpec := { name := "evalMaps", fn := fun _ => fun
  | [d1, d2, d3] => { results := [.lit (.bool true)], args := [d1, d2, d3] }
  | _ => none }
def evalMapsRow : OpenClaim := { program := "ytlpfpehegddcfaagreatdoor", sum := "1a4aa73574719ba5739bdfc9d0da1cb8b3fe6dc8ba9a681e0d862e8b77533eac", func := "plinth/plinthlaw13.EvalMaps", spec := "evalMaps", inPlace := ["internal/bytealg.IndexByteString", "internal/bytealg.IndexString"], unfollowed := true, recurses := true, named := ["unicode/utf8.first", "unicode/utf8.acceptRanges", "internal/bytealg.MaxLen"], loops := true, apart := false, laid := [("unicode/utf8.acceptRanges", laid_unicode_utf8_acceptRanges), ("unicode/utf8.first", laid_unicode_utf8_first)] }
def EvalMapsSaid : Prop := evalMapsRow.holds Tryz.pinned (OpenSpec.ofChange evalMapsSpec)

/-- ITS FALSE NEIGHBOUR: 'it returns false'. Refute it at one input. -/
def evalMapsWrong : ChangeSpec := { name := "evalMaps", fn := fun _ => fun
  | [d1, d2, d3] => { results := [.lit (.bool false)], args := [d1, d2, d3] }
  | _ => none }
def EvalMapsWrongFalsely : Prop := evalMapsRow.holds Tryz.pinned (OpenSpec.ofChange evalMapsWrong)

/-- 'plinthlaw13.EvalThere': WHATEVER THE INPUT: true; the input reads as it did. -/
def evalThereSpec : ChangeSpec := { name := "evalThere", fn := fun _ => fun
  | [d1, d2, d3] => { results := [.lit (.bool true)], args := [d1, d2, d3] }
  | _ => none }
def evalThereRow : OpenClaim := { program := "ytlpfpehegddcfaagreatdoor", sum := "1a4aa73574719ba5739bdfc9d0da1cb8b3fe6dc8ba9a681e0d862e8b77533eac", func := "plinth/plinthlaw13.EvalThere", spec := "evalThere", inPlace := ["internal/bytealg.IndexByteString", "internal/bytealg.IndexString"], unfollowed := true, recurses := true, named := ["unicode/utf8.first", "unicode/utf8.acceptRanges", "internal/bytealg.MaxLen"], loops := true, apart := false, laid := [("unicode/utf8.acceptRanges", laid_unicode_utf8_acceptRanges), ("unicode/utf8.first", laid_unicode_utf8_first)] }
def EvalThereSaid : Prop := evalThereRow.holds Tryz.pinned (OpenSpec.ofChange evalThereSpec)

/-- ITS FALSE NEIGHBOUR: 'it returns false'. Refute it at one input. -/
def evalThereWrong : ChangeSpec := { name := "evalThere", fn := fun _ => fun
  | [d1, d2, d3] => { results := [.lit (.bool false)], args := [d1, d2, d3] }
  | _ => none }
def EvalThereWrongFalsely : Prop := evalThereRow.holds Tryz.pinned (OpenSpec.ofChange evalThereWrong)

/- THE SECOND FORM. 'bulk': how many values and letters a reading holds, each counted each time it is reached (what is shared counts as often as it is met; a slice's spare places count too). A statement '..UptoSaid' is the law's where the arguments, and the package variables that the reading takes, are together of bulk at most 1048576: NARROWER than '..Said'. Prove '..Said' where nothing that the law and all that it calls make is longer than what came in: it says more and counts as full. Else prove '..UptoSaid'. A law counts once. -/
mutual
def uptoBulk {H : Type} : DataW H → Nat
  | .lit (.string bytes) => bytes.length + 1
  | .lit _ => 1
  | .nil => 1
  | .ptr d => uptoBulk d + 1
  | .slice elems spare => uptoBulkAll elems + uptoBulkAll spare + 1
  | .agg parts => uptoBulkAll parts + 1
  | .iface _ d => uptoBulk d + 1
  | .map entries => uptoBulkEntries entries + 1
  | .held _ => 1
def uptoBulkAll {H : Type} : List (DataW H) → Nat
  | [] => 0
  | d :: r => uptoBulk d + uptoBulkAll r
def uptoBulkEntries {H : Type} : List (Lit × DataW H) → Nat
  | [] => 0
  | x :: r => uptoBulkEntry x + uptoBulkEntries r
def uptoBulkEntry {H : Type} : Lit × DataW H → Nat
  | (.string bytes, d) => bytes.length + uptoBulk d + 1
  | (_, d) => uptoBulk d + 1
 end
def uptoSmall : (H : Type) → List (DataW H) → Bool := fun _ ds => decide (uptoBulkAll ds ≤ 1048576)
def OpenSpec.upto (s : _root_.Go.ChangeSpec) : _root_.Go.OpenSpec := { _root_.Go.OpenSpec.ofChange s with cond := some uptoSmall }

/-- 'plinthlaw14.CondFills', WHERE WHAT IT READS IS OF BULK AT MOST 1048576: true; the input reads as it did. -/
def condFillsUptoRow : OpenClaim := { program := "ytlpfpehegddcfaagreatdoor", sum := "1a4aa73574719ba5739bdfc9d0da1cb8b3fe6dc8ba9a681e0d862e8b77533eac", func := "plinth/plinthlaw14.CondFills", spec := "condFills", inPlace := ["internal/bytealg.IndexByteString", "internal/bytealg.IndexString"], unfollowed := true, recurses := true, named := ["unicode/utf8.first", "unicode/utf8.acceptRanges", "internal/bytealg.MaxLen"], loops := true, apart := false, laid := [("unicode/utf8.acceptRanges", laid_unicode_utf8_acceptRanges), ("unicode/utf8.first", laid_unicode_utf8_first)], narrowed := true }
def CondFillsUptoSaid : Prop := condFillsUptoRow.holds Tryz.pinned (OpenSpec.upto condFillsSpec)

/-- 'plinthlaw10.SubstNothing', WHERE WHAT IT READS IS OF BULK AT MOST 1048576: true; the input reads as it did. -/
def substNothingUptoRow : OpenClaim := { program := "ytlpfpehegddcfaagreatdoor", sum := "1a4aa73574719ba5739bdfc9d0da1cb8b3fe6dc8ba9a681e0d862e8b77533eac", func := "plinth/plinthlaw10.SubstNothing", spec := "substNothing", inPlace := ["internal/bytealg.IndexByteString", "internal/bytealg.IndexString"], unfollowed := true, recurses := true, named := ["unicode/utf8.first", "unicode/utf8.acceptRanges", "internal/bytealg.MaxLen"], loops := true, apart := false, laid := [("unicode/utf8.acceptRanges", laid_unicode_utf8_acceptRanges), ("unicode/utf8.first", laid_unicode_utf8_first)], narrowed := true }
def SubstNothingUptoSaid : Prop := substNothingUptoRow.holds Tryz.pinned (OpenSpec.upto substNothingSpec)

/-- 'plinthlaw10.SubstBack', WHERE WHAT IT READS IS OF BULK AT MOST 1048576: true; the input reads as it did. -/
def substBackUptoRow : OpenClaim := { program := "ytlpfpehegddcfaagreatdoor", sum := "1a4aa73574719ba5739bdfc9d0da1cb8b3fe6dc8ba9a681e0d862e8b77533eac", func := "plinth/plinthlaw10.SubstBack", spec := "substBack", inPlace := ["internal/bytealg.IndexByteString", "internal/bytealg.IndexString"], unfollowed := true, recurses := true, named := ["unicode/utf8.first", "unicode/utf8.acceptRanges", "internal/bytealg.MaxLen"], loops := true, apart := false, laid := [("unicode/utf8.acceptRanges", laid_unicode_utf8_acceptRanges), ("unicode/utf8.first", laid_unicode_utf8_first)], narrowed := true }
def SubstBackUptoSaid : Prop := substBackUptoRow.holds Tryz.pinned (OpenSpec.upto substBackSpec)

/-- 'plinthlaw13.EvalMaps', WHERE WHAT IT READS IS OF BULK AT MOST 1048576: true; the input reads as it did. -/
def evalMapsUptoRow : OpenClaim := { program := "ytlpfpehegddcfaagreatdoor", sum := "1a4aa73574719ba5739bdfc9d0da1cb8b3fe6dc8ba9a681e0d862e8b77533eac", func := "plinth/plinthlaw13.EvalMaps", spec := "evalMaps", inPlace := ["internal/bytealg.IndexByteString", "internal/bytealg.IndexString"], unfollowed := true, recurses := true, named := ["unicode/utf8.first", "unicode/utf8.acceptRanges", "internal/bytealg.MaxLen"], loops := true, apart := false, laid := [("unicode/utf8.acceptRanges", laid_unicode_utf8_acceptRanges), ("unicode/utf8.first", laid_unicode_utf8_first)], narrowed := true }
def EvalMapsUptoSaid : Prop := evalMapsUptoRow.holds Tryz.pinned (OpenSpec.upto evalMapsSpec)

/-- 'plinthlaw13.EvalThere', WHERE WHAT IT READS IS OF BULK AT MOST 1048576: true; the input reads as it did. -/
def evalThereUptoRow : OpenClaim := { program := "ytlpfpehegddcfaagreatdoor", sum := "1a4aa73574719ba5739bdfc9d0da1cb8b3fe6dc8ba9a681e0d862e8b77533eac", func := "plinth/plinthlaw13.EvalThere", spec := "evalThere", inPlace := ["internal/bytealg.IndexByteString", "internal/bytealg.IndexString"], unfollowed := true, recurses := true, named := ["unicode/utf8.first", "unicode/utf8.acceptRanges", "internal/bytealg.MaxLen"], loops := true, apart := false, laid := [("unicode/utf8.acceptRanges", laid_unicode_utf8_acceptRanges), ("unicode/utf8.first", laid_unicode_utf8_first)], narrowed := true }
def EvalThereUptoSaid : Prop := evalThereUptoRow.holds Tryz.pinned (OpenSpec.upto evalThereSpec)

end Rows
end Go.Proofs.YtlpfpehegddcfaaGreatDoor
