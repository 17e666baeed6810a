/-
  NARROWER THAN 'FOR EVERY INPUT', by the rows' own cells (each row's printed sentence says how): RelateOrder: loops, laid · RelateUnions: loops, laid · RelateMeans: loops, laid · RelateNames: loops, laid · NarrowFits: loops, laid · NarrowTwice: loops, laid.
  DERIVED. THE GIVEN ROWS OF THIS SEAT. 6 by the template 'for every input the law returns true; each argument reads behind the call as it read before'; 0 by the template 'total and deterministic' (their statements: YtgjblmlibhppiaaGreatDoorTotals.lean).
  GIVEN WITH THE SEED: the statements are not yours to turn. If you find one false, say at which input.
  Laid BY PROGRAM, IN A SANDBOX (cutbox-rows.mjs): the forced cells as the released guide's own fill.sh prints them over the translation 3fef13d6d6c05f8a… (all of the seat's roots in one cut). By AI agents, Wed Nov 11 2026. No macro, syntax, notation, axiom, sorry.
-/
import Derived.Test.YtgjblmlibhppiaaGreatDoorChecked
import GoSem.PinnedTables
import GoSem.Claim
import GoSem.ClaimJoined
import GoSem.ClaimMapViews
import Derived.JoinedTies
import Derived.KernelRfl
namespace Go.Proofs.YtgjblmlibhppiaaGreatDoor
/- THE CELL 'sum', in the pinned program and in every row, IS THE sha256 OF THE DUMP (.gsa) THAT YtgjblmlibhppiaaGreatDoorProg.lean LOADS. Nothing in Lean hashes anything: it is a label: what it is worth is what the hold of that sum in a sandbox is worth. -/
noncomputable def Tryz.pinned : Pinned := { name := "ytgjblmlibhppiaagreatdoor", sum := "3fef13d6d6c05f8ae64be54b850c4b1388e11d607a49c58ab24539544fd0c0ca", checked := Tryz.checked }
namespace Rows
def none {H : Type} : Left H := { results := [], args := [] }

/- WHAT THE LISTED PACKAGE-LEVEL VARIABLES READ AS WHEN THE CALL BEGINS. Each datum BY PROGRAM (the guide's laid-datum.mjs) off the statement by which the dump's own 'gosem.cut.vars' lays the variable. In a bare row this is a premise. The card (YtgjblmlibhppiaaGreatDoorCards.lean) ties it to the program's text. -/
def laid_unicode_utf8_acceptRanges {H : Type} : DataW H := .agg [.agg [.lit (.int .u8 128), .lit (.int .u8 191)], .agg [.lit (.int .u8 160), .lit (.int .u8 191)], .agg [.lit (.int .u8 128), .lit (.int .u8 159)], .agg [.lit (.int .u8 144), .lit (.int .u8 191)], .agg [.lit (.int .u8 128), .lit (.int .u8 143)], .agg [.lit (.int .u8 0), .lit (.int .u8 0)], .agg [.lit (.int .u8 0), .lit (.int .u8 0)], .agg [.lit (.int .u8 0), .lit (.int .u8 0)], .agg [.lit (.int .u8 0), .lit (.int .u8 0)], .agg [.lit (.int .u8 0), .lit (.int .u8 0)], .agg [.lit (.int .u8 0), .lit (.int .u8 0)], .agg [.lit (.int .u8 0), .lit (.int .u8 0)], .agg [.lit (.int .u8 0), .lit (.int .u8 0)], .agg [.lit (.int .u8 0), .lit (.int .u8 0)], .agg [.lit (.int .u8 0), .lit (.int .u8 0)], .agg [.lit (.int .u8 0), .lit (.int .u8 0)]]
/-- One of Go's own tables, pinned by name: the form's constant. -/
def laid_unicode_utf8_first : DataW Unit := Go.Pinned.utf8First

/-- 'plinthlaw15.RelateOrder': WHATEVER THE INPUT: true; the input reads as it did. -/
def relateOrderSpec : ChangeSpec := { name := "relateOrder", fn := fun _ => fun
  | [d1, d2, d3] => { results := [.lit (.bool true)], args := [d1, d2, d3] }
  | _ => none }
def relateOrderRow : OpenClaim := { program := "ytgjblmlibhppiaagreatdoor", sum := "3fef13d6d6c05f8ae64be54b850c4b1388e11d607a49c58ab24539544fd0c0ca", func := "plinth/plinthlaw15.RelateOrder", spec := "relateOrder", inPlace := ["internal/bytealg.IndexByteString", "internal/bytealg.IndexString"], unfollowed := true, recurses := true, named := ["unicode/utf8.first", "unicode/utf8.acceptRanges", "internal/bytealg.MaxLen"], loops := true, apart := false, laid := [("unicode/utf8.acceptRanges", laid_unicode_utf8_acceptRanges), ("unicode/utf8.first", laid_unicode_utf8_first)] }
def RelateOrderSaid : Prop := relateOrderRow.holds Tryz.pinned (OpenSpec.ofChange relateOrderSpec)

/-- ITS FALSE NEIGHBOUR: 'it returns false'. Refute it at one input. -/
def relateOrderWrong : ChangeSpec := { name := "relateOrder", fn := fun _ => fun
  | [d1, d2, d3] => { results := [.lit (.bool false)], args := [d1, d2, d3] }
  | _ => none }
def RelateOrderWrongFalsely : Prop := relateOrderRow.holds Tryz.pinned (OpenSpec.ofChange relateOrderWrong)

/-- 'plinthlaw15.RelateUnions': WHATEVER THE INPUT: true; the input reads as it did. -/
def relateUnionsSpec : ChangeSpec := { name := "relateUnions", fn := fun _ => fun
  | [d1, d2, d3] => { results := [.lit (.bool true)], args := [d1, d2, d3] }
  | _ => none }
def relateUnionsRow : OpenClaim := { program := "ytgjblmlibhppiaagreatdoor", sum := "3fef13d6d6c05f8ae64be54b850c4b1388e11d607a49c58ab24539544fd0c0ca", func := "plinth/plinthlaw15.RelateUnions", spec := "relateUnions", inPlace := ["internal/bytealg.IndexByteString", "internal/bytealg.IndexString"], unfollowed := true, recurses := true, named := ["unicode/utf8.first", "unicode/utf8.acceptRanges", "internal/bytealg.MaxLen"], loops := true, apart := false, laid := [("unicode/utf8.acceptRanges", laid_unicode_utf8_acceptRanges), ("unicode/utf8.first", laid_unicode_utf8_first)] }
def RelateUnionsSaid : Prop := relateUnionsRow.holds Tryz.pinned (OpenSpec.ofChange relateUnionsSpec)

/-- ITS FALSE NEIGHBOUR: 'it returns false'. Refute it at one input. -/
def relateUnionsWrong : ChangeSpec := { name := "relateUnions", fn := fun _ => fun
  | [d1, d2, d3] => { results := [.lit (.bool false)], args := [d1, d2, d3] }
  | _ => none }
def RelateUnionsWrongFalsely : Prop := relateUnionsRow.holds Tryz.pinned (OpenSpec.ofChange relateUnionsWrong)

/-- 'plinthlaw15.RelateMeans': WHATEVER THE INPUT: true; the input reads as it did. -/
def relateMeansSpec : ChangeSpec := { name := "relateMeans", fn := fun _ => fun
  | [d1, d2, d3] => { results := [.lit (.bool true)], args := [d1, d2, d3] }
  | _ => none }
def relateMeansRow : OpenClaim := { program := "ytgjblmlibhppiaagreatdoor", sum := "3fef13d6d6c05f8ae64be54b850c4b1388e11d607a49c58ab24539544fd0c0ca", func := "plinth/plinthlaw15.RelateMeans", spec := "relateMeans", inPlace := ["internal/bytealg.IndexByteString", "internal/bytealg.IndexString"], unfollowed := true, recurses := true, named := ["unicode/utf8.first", "unicode/utf8.acceptRanges", "internal/bytealg.MaxLen"], loops := true, apart := false, laid := [("unicode/utf8.acceptRanges", laid_unicode_utf8_acceptRanges), ("unicode/utf8.first", laid_unicode_utf8_first)] }
def RelateMeansSaid : Prop := relateMeansRow.holds Tryz.pinned (OpenSpec.ofChange relateMeansSpec)

/-- ITS FALSE NEIGHBOUR: 'it returns false'. Refute it at one input. -/
def relateMeansWrong : ChangeSpec := { name := "relateMeans", fn := fun _ => fun
  | [d1, d2, d3] => { results := [.lit (.bool false)], args := [d1, d2, d3] }
  | _ => none }
def RelateMeansWrongFalsely : Prop := relateMeansRow.holds Tryz.pinned (OpenSpec.ofChange relateMeansWrong)

/-- 'plinthlaw15.RelateNames': WHATEVER THE INPUT: true; the input reads as it did. -/
def relateNamesSpec : ChangeSpec := { name := "relateNames", fn := fun _ => fun
  | [d1, d2] => { results := [.lit (.bool true)], args := [d1, d2] }
  | _ => none }
def relateNamesRow : OpenClaim := { program := "ytgjblmlibhppiaagreatdoor", sum := "3fef13d6d6c05f8ae64be54b850c4b1388e11d607a49c58ab24539544fd0c0ca", func := "plinth/plinthlaw15.RelateNames", spec := "relateNames", inPlace := ["internal/bytealg.IndexByteString", "internal/bytealg.IndexString"], unfollowed := true, recurses := true, named := ["unicode/utf8.first", "unicode/utf8.acceptRanges", "internal/bytealg.MaxLen"], loops := true, apart := false, laid := [("unicode/utf8.acceptRanges", laid_unicode_utf8_acceptRanges), ("unicode/utf8.first", laid_unicode_utf8_first)] }
def RelateNamesSaid : Prop := relateNamesRow.holds Tryz.pinned (OpenSpec.ofChange relateNamesSpec)

/-- ITS FALSE NEIGHBOUR: 'it returns false'. Refute it at one input. -/
def relateNamesWrong : ChangeSpec := { name := "relateNames", fn := fun _ => fun
  | [d1, d2] => { results := [.lit (.bool false)], args := [d1, d2] }
  | _ => none }
def RelateNamesWrongFalsely : Prop := relateNamesRow.holds Tryz.pinned (OpenSpec.ofChange relateNamesWrong)

/-- 'plinthlaw18.NarrowFits': WHATEVER THE INPUT: true; the input reads as it did. -/
def narrowFitsSpec : ChangeSpec := { name := "narrowFits", fn := fun _ => fun
  | [d1, d2] => { results := [.lit (.bool true)], args := [d1, d2] }
  | _ => none }
def narrowFitsRow : OpenClaim := { program := "ytgjblmlibhppiaagreatdoor", sum := "3fef13d6d6c05f8ae64be54b850c4b1388e11d607a49c58ab24539544fd0c0ca", func := "plinth/plinthlaw18.NarrowFits", spec := "narrowFits", inPlace := ["internal/bytealg.IndexByteString", "internal/bytealg.IndexString"], unfollowed := true, recurses := true, named := ["unicode/utf8.first", "unicode/utf8.acceptRanges", "internal/bytealg.MaxLen"], loops := true, apart := false, laid := [("unicode/utf8.acceptRanges", laid_unicode_utf8_acceptRanges), ("unicode/utf8.first", laid_unicode_utf8_first)] }
def NarrowFitsSaid : Prop := narrowFitsRow.holds Tryz.pinned (OpenSpec.ofChange narrowFitsSpec)

/-- ITS FALSE NEIGHBOUR: 'it returns false'. Refute it at one input. -/
def narrowFitsWrong : ChangeSpec := { name := "narrowFits", fn := fun _ => fun
  | [d1, d2] => { results := [.lit (.bool false)], args := [d1, d2] }
  | _ => none }
def NarrowFitsWrongFalsely : Prop := narrowFitsRow.holds Tryz.pinned (OpenSpec.ofChange narrowFitsWrong)

/-- 'plinthlaw18.NarrowTwice': WHATEVER THE INPUT: true; the input reads as it did. -/
def narrowTwiceSpec : ChangeSpec := { name := "narrowTwice", fn := fun _ => fun
  | [d1, d2, d3] => { results := [.lit (.bool true)], args := [d1, d2, d3] }
  | _ => none }
def narrowTwiceRow : OpenClaim := { program := "ytgjblmlibhppiaagreatdoor", sum := "3fef13d6d6c05f8ae64be54b850c4b1388e11d607a49c58ab24539544fd0c0ca", func := "plinth/plinthlaw18.NarrowTwice", spec := "narrowTwice", inPlace := ["internal/bytealg.IndexByteString", "internal/bytealg.IndexString"], unfollowed := true, recurses := true, named := ["unicode/utf8.first", "unicode/utf8.acceptRanges", "internal/bytealg.MaxLen"], loops := true, apart := false, laid := [("unicode/utf8.acceptRanges", laid_unicode_utf8_acceptRanges), ("unicode/utf8.first", laid_unicode_utf8_first)] }
def NarrowTwiceSaid : Prop := narrowTwiceRow.holds Tryz.pinned (OpenSpec.ofChange narrowTwiceSpec)

/-- ITS FALSE NEIGHBOUR: 'it returns false'. Refute it at one input. -/
def narrowTwiceWrong : ChangeSpec := { name := "narrowTwice", fn := fun _ => fun
  | [d1, d2, d3] => { results := [.lit (.bool false)], args := [d1, d2, d3] }
  | _ => none }
def NarrowTwiceWrongFalsely : Prop := narrowTwiceRow.holds Tryz.pinned (OpenSpec.ofChange narrowTwiceWrong)

/- THE SECOND FORM. 'bulk': how many values and letters a reading holds, each counted each time it is reached (what is shared counts as often as it is met; a slice's spare places count too). A statement '..UptoSaid' is the law's where the arguments, and the package variables that the reading takes, are together of bulk at most 1048576: NARROWER than '..Said'. Prove '..Said' where nothing that the law and all that it calls make is longer than what came in: it says more and counts as full. Else prove '..UptoSaid'. A law counts once. -/
mutual
def uptoBulk {H : Type} : DataW H → Nat
  | .lit (.string bytes) => bytes.length + 1
  | .lit _ => 1
  | .nil => 1
  | .ptr d => uptoBulk d + 1
  | .slice elems spare => uptoBulkAll elems + uptoBulkAll spare + 1
  | .agg parts => uptoBulkAll parts + 1
  | .iface _ d => uptoBulk d + 1
  | .map entries => uptoBulkEntries entries + 1
  | .held _ => 1
def uptoBulkAll {H : Type} : List (DataW H) → Nat
  | [] => 0
  | d :: r => uptoBulk d + uptoBulkAll r
def uptoBulkEntries {H : Type} : List (Lit × DataW H) → Nat
  | [] => 0
  | x :: r => uptoBulkEntry x + uptoBulkEntries r
def uptoBulkEntry {H : Type} : Lit × DataW H → Nat
  | (.string bytes, d) => bytes.length + uptoBulk d + 1
  | (_, d) => uptoBulk d + 1
 end
def uptoSmall : (H : Type) → List (DataW H) → Bool := fun _ ds => decide (uptoBulkAll ds ≤ 1048576)
def OpenSpec.upto (s : _root_.Go.ChangeSpec) : _root_.Go.OpenSpec := { _root_.Go.OpenSpec.ofChange s with cond := some uptoSmall }

/-- 'plinthlaw15.RelateOrder', WHERE WHAT IT READS IS OF BULK AT MOST 1048576: true; the input reads as it did. -/
def relateOrderUptoRow : OpenClaim := { program := "ytgjblmlibhppiaagreatdoor", sum := "3fef13d6d6c05f8ae64be54b850c4b1388e11d607a49c58ab24539544fd0c0ca", func := "plinth/plinthlaw15.RelateOrder", spec := "relateOrder", inPlace := ["internal/bytealg.IndexByteString", "internal/bytealg.IndexString"], unfollowed := true, recurses := true, named := ["unicode/utf8.first", "unicode/utf8.acceptRanges", "internal/bytealg.MaxLen"], loops := true, apart := false, laid := [("unicode/utf8.acceptRanges", laid_unicode_utf8_acceptRanges), ("unicode/utf8.first", laid_unicode_utf8_first)], narrowed := true }
def RelateOrderUptoSaid : Prop := relateOrderUptoRow.holds Tryz.pinned (OpenSpec.upto relateOrderSpec)

/-- 'plinthlaw15.RelateUnions', WHERE WHAT IT READS IS OF BULK AT MOST 1048576: true; the input reads as it did. -/
def relateUnionsUptoRow : OpenClaim := { program := "ytgjblmlibhppiaagreatdoor", sum := "3fef13d6d6c05f8ae64be54b850c4b1388e11d607a49c58ab24539544fd0c0ca", func := "plinth/plinthlaw15.RelateUnions", spec := "relateUnions", inPlace := ["internal/bytealg.IndexByteString", "internal/bytealg.IndexString"], unfollowed := true, recurses := true, named := ["unicode/utf8.first", "unicode/utf8.acceptRanges", "internal/bytealg.MaxLen"], loops := true, apart := false, laid := [("unicode/utf8.acceptRanges", laid_unicode_utf8_acceptRanges), ("unicode/utf8.first", laid_unicode_utf8_first)], narrowed := true }
def RelateUnionsUptoSaid : Prop := relateUnionsUptoRow.holds Tryz.pinned (OpenSpec.upto relateUnionsSpec)

/-- 'plinthlaw15.RelateMeans', WHERE WHAT IT READS IS OF BULK AT MOST 1048576: true; the input reads as it did. -/
def relateMeansUptoRow : OpenClaim := { program := "ytgjblmlibhppiaagreatdoor", sum := "3fef13d6d6c05f8ae64be54b850c4b1388e11d607a49c58ab24539544fd0c0ca", func := "plinth/plinthlaw15.RelateMeans", spec := "relateMeans", inPlace := ["internal/bytealg.IndexByteString", "internal/bytealg.IndexString"], unfollowed := true, recurses := true, named := ["unicode/utf8.first", "unicode/utf8.acceptRanges", "internal/bytealg.MaxLen"], loops := true, apart := false, laid := [("unicode/utf8.acceptRanges", laid_unicode_utf8_acceptRanges), ("unicode/utf8.first", laid_unicode_utf8_first)], narrowed := true }
def RelateMeansUptoSaid : Prop := relateMeansUptoRow.holds Tryz.pinned (OpenSpec.upto relateMeansSpec)

/-- 'plinthlaw15.RelateNames', WHERE WHAT IT READS IS OF BULK AT MOST 1048576: true; the input reads as it did. -/
def relateNamesUptoRow : OpenClaim := { program := "ytgjblmlibhppiaagreatdoor", sum := "3fef13d6d6c05f8ae64be54b850c4b1388e11d607a49c58ab24539544fd0c0ca", func := "plinth/plinthlaw15.RelateNames", spec := "relateNames", inPlace := ["internal/bytealg.IndexByteString", "internal/bytealg.IndexString"], unfollowed := true, recurses := true, named := ["unicode/utf8.first", "unicode/utf8.acceptRanges", "internal/bytealg.MaxLen"], loops := true, apart := false, laid := [("unicode/utf8.acceptRanges", laid_unicode_utf8_acceptRanges), ("unicode/utf8.first", laid_unicode_utf8_first)], narrowed := true }
def RelateNamesUptoSaid : Prop := relateNamesUptoRow.holds Tryz.pinned (OpenSpec.upto relateNamesSpec)

/-- 'plinthlaw18.NarrowFits', WHERE WHAT IT READS IS OF BULK AT MOST 1048576: true; the input reads as it did. -/
def narrowFitsUptoRow : OpenClaim := { program := "ytgjblmlibhppiaagreatdoor", sum := "3fef13d6d6c05f8ae64be54b850c4b1388e11d607a49c58ab24539544fd0c0ca", func := "plinth/plinthlaw18.NarrowFits", spec := "narrowFits", inPlace := ["internal/bytealg.IndexByteString", "internal/bytealg.IndexString"], unfollowed := true, recurses := true, named := ["unicode/utf8.first", "unicode/utf8.acceptRanges", "internal/bytealg.MaxLen"], loops := true, apart := false, laid := [("unicode/utf8.acceptRanges", laid_unicode_utf8_acceptRanges), ("unicode/utf8.first", laid_unicode_utf8_first)], narrowed := true }
def NarrowFitsUptoSaid : Prop := narrowFitsUptoRow.holds Tryz.pinned (OpenSpec.upto narrowFitsSpec)

/-- 'plinthlaw18.NarrowTwice', WHERE WHAT IT READS IS OF BULK AT MOST 1048576: true; the input reads as it did. -/
def narrowTwiceUptoRow : OpenClaim := { program := "ytgjblmlibhppiaagreatdoor", sum := "3fef13d6d6c05f8ae64be54b850c4b1388e11d607a49c58ab24539544fd0c0ca", func := "plinth/plinthlaw18.NarrowTwice", spec := "narrowTwice", inPlace := ["internal/bytealg.IndexByteString", "internal/bytealg.IndexString"], unfollowed := true, recurses := true, named := ["unicode/utf8.first", "unicode/utf8.acceptRanges", "internal/bytealg.MaxLen"], loops := true, apart := false, laid := [("unicode/utf8.acceptRanges", laid_unicode_utf8_acceptRanges), ("unicode/utf8.first", laid_unicode_utf8_first)], narrowed := true }
def NarrowTwiceUptoSaid : Prop := narrowTwiceUptoRow.holds Tryz.pinned (OpenSpec.upto narrowTwiceSpec)

end Rows
end Go.Proofs.YtgjblmlibhppiaaGreatDoor
