/-
  DERIVED. GIVEN WITH THE SEED: THE CARDS: each row of YthcldnjcijaikabDoorRows.lean that lists a variable, with what it lists TIED to the program's text (the seventh form; the later family's looks); each row that meets fmt, with fmt's text TOLD by the authors' own Lean function (tested against real Go, not proved from fmt's source: count such statements apart). THE CARD IS WHAT COUNTS. Prove the row's statement (the work); the ties are given (YthcldnjcijaikabDoorTie.lean); close each card by the builder's one call (the guide's Derived/Test/ToyasCard.lean, 'card_holds'). Laid BY PROGRAM, IN A SANDBOX (cutbox-door.mjs). By AI agents, Wed Nov 11 2026. No macro, syntax, notation, axiom, sorry.
-/
import Derived.Test.YthcldnjcijaikabDoorRows
import GoSem.ClaimSeven
namespace Go.Proofs.YthcldnjcijaikabDoor
namespace Rows

/-- THE TIED CARD OF 'plinthlaw22.ReportLines'. -/
def reportLinesCard : Claim7 := { stood := { row := reportLinesRow, standIns := [], harness := (true, "0f8e5ce1381d108e3c45143a3ab023ce1a0891d2a64415444b6740e4bf9c4424"), looks := false }, kinds := [], alts := [], laidByText := true, laidKinds := [.data, .data, .data, .data], laidTests := true, laidLooks := .later }
def ReportLinesCardSaid : Prop := Claim7.holds Tryd.pinned (.plain (OpenSpec.ofChange reportLinesSpec)) reportLinesCard

/-- THE TIED CARD OF 'plinthlaw22.ReportSorts'. -/
def reportSortsCard : Claim7 := { stood := { row := reportSortsRow, standIns := [], harness := (true, "0f8e5ce1381d108e3c45143a3ab023ce1a0891d2a64415444b6740e4bf9c4424"), looks := false }, kinds := [], alts := [], laidByText := true, laidKinds := [.data, .data, .data, .data], laidTests := true, laidLooks := .later }
def ReportSortsCardSaid : Prop := Claim7.holds Tryd.pinned (.plain (OpenSpec.ofChange reportSortsSpec)) reportSortsCard

/-- THE TIED CARD OF 'plinthlaw22.ReportOrder'. -/
def reportOrderCard : Claim7 := { stood := { row := reportOrderRow, standIns := [], harness := (true, "0f8e5ce1381d108e3c45143a3ab023ce1a0891d2a64415444b6740e4bf9c4424"), looks := false }, kinds := [], alts := [], laidByText := true, laidKinds := [.data, .data, .data, .data], laidTests := true, laidLooks := .later }
def ReportOrderCardSaid : Prop := Claim7.holds Tryd.pinned (.plain (OpenSpec.ofChange reportOrderSpec)) reportOrderCard

/-- THE TIED CARD OF 'plinthlaw22.ReportCounts'. -/
def reportCountsCard : Claim7 := { stood := { row := reportCountsRow, standIns := [], harness := (true, "0f8e5ce1381d108e3c45143a3ab023ce1a0891d2a64415444b6740e4bf9c4424"), looks := false }, kinds := [], alts := [], laidByText := true, laidKinds := [.data, .data, .data, .data], laidTests := true, laidLooks := .later }
def ReportCountsCardSaid : Prop := Claim7.holds Tryd.pinned (.plain (OpenSpec.ofChange reportCountsSpec)) reportCountsCard

/-- THE TIED CARD OF 'plinthlaw22.ReportJoins'. -/
def reportJoinsCard : Claim7 := { stood := { row := reportJoinsRow, standIns := [], harness := (true, "0f8e5ce1381d108e3c45143a3ab023ce1a0891d2a64415444b6740e4bf9c4424"), looks := false }, kinds := [], alts := [], laidByText := true, laidKinds := [.data, .data, .data, .data], laidTests := true, laidLooks := .later }
def ReportJoinsCardSaid : Prop := Claim7.holds Tryd.pinned (.plain (OpenSpec.ofChange reportJoinsSpec)) reportJoinsCard

/-- THE SECOND FORM's CARD OF 'plinthlaw22.ReportLines'. -/
def reportLinesUptoCard : Claim7 := { stood := { row := reportLinesUptoRow, standIns := [], harness := (true, "0f8e5ce1381d108e3c45143a3ab023ce1a0891d2a64415444b6740e4bf9c4424"), looks := false }, kinds := [], alts := [], laidByText := true, laidKinds := [.data, .data, .data, .data], laidTests := true, laidLooks := .later }
def ReportLinesUptoCardSaid : Prop := Claim7.holds Tryd.pinned (.plain (OpenSpec.upto reportLinesSpec)) reportLinesUptoCard

/-- THE SECOND FORM's CARD OF 'plinthlaw22.ReportSorts'. -/
def reportSortsUptoCard : Claim7 := { stood := { row := reportSortsUptoRow, standIns := [], harness := (true, "0f8e5ce1381d108e3c45143a3ab023ce1a0891d2a64415444b6740e4bf9c4424"), looks := false }, kinds := [], alts := [], laidByText := true, laidKinds := [.data, .data, .data, .data], laidTests := true, laidLooks := .later }
def ReportSortsUptoCardSaid : Prop := Claim7.holds Tryd.pinned (.plain (OpenSpec.upto reportSortsSpec)) reportSortsUptoCard

/-- THE SECOND FORM's CARD OF 'plinthlaw22.ReportOrder'. -/
def reportOrderUptoCard : Claim7 := { stood := { row := reportOrderUptoRow, standIns := [], harness := (true, "0f8e5ce1381d108e3c45143a3ab023ce1a0891d2a64415444b6740e4bf9c4424"), looks := false }, kinds := [], alts := [], laidByText := true, laidKinds := [.data, .data, .data, .data], laidTests := true, laidLooks := .later }
def ReportOrderUptoCardSaid : Prop := Claim7.holds Tryd.pinned (.plain (OpenSpec.upto reportOrderSpec)) reportOrderUptoCard

/-- THE SECOND FORM's CARD OF 'plinthlaw22.ReportCounts'. -/
def reportCountsUptoCard : Claim7 := { stood := { row := reportCountsUptoRow, standIns := [], harness := (true, "0f8e5ce1381d108e3c45143a3ab023ce1a0891d2a64415444b6740e4bf9c4424"), looks := false }, kinds := [], alts := [], laidByText := true, laidKinds := [.data, .data, .data, .data], laidTests := true, laidLooks := .later }
def ReportCountsUptoCardSaid : Prop := Claim7.holds Tryd.pinned (.plain (OpenSpec.upto reportCountsSpec)) reportCountsUptoCard

/-- THE SECOND FORM's CARD OF 'plinthlaw22.ReportJoins'. -/
def reportJoinsUptoCard : Claim7 := { stood := { row := reportJoinsUptoRow, standIns := [], harness := (true, "0f8e5ce1381d108e3c45143a3ab023ce1a0891d2a64415444b6740e4bf9c4424"), looks := false }, kinds := [], alts := [], laidByText := true, laidKinds := [.data, .data, .data, .data], laidTests := true, laidLooks := .later }
def ReportJoinsUptoCardSaid : Prop := Claim7.holds Tryd.pinned (.plain (OpenSpec.upto reportJoinsSpec)) reportJoinsUptoCard
end Rows
end Go.Proofs.YthcldnjcijaikabDoor
