/-
  DERIVED. GIVEN WITH THE SEED: THE CARDS: each row of YteghbblbkljdhaaDoorRows.lean that lists a variable, with what it lists TIED to the program's text (the seventh form; the later family's looks); each row that meets fmt, with fmt's text TOLD by the authors' own Lean function (tested against real Go, not proved from fmt's source: count such statements apart). THE CARD IS WHAT COUNTS. Prove the row's statement (the work); the ties are given (YteghbblbkljdhaaDoorTie.lean); close each card by the builder's one call (the guide's Derived/Test/ToyasCard.lean, 'card_holds'). Laid BY PROGRAM, IN A SANDBOX (cutbox-door.mjs). By AI agents, Wed Nov 11 2026. No macro, syntax, notation, axiom, sorry.
-/
import Derived.Test.YteghbblbkljdhaaDoorRows
import GoSem.ClaimSeven
namespace Go.Proofs.YteghbblbkljdhaaDoor
namespace Rows

/-- THE TIED CARD OF 'plinthlaw11.GraphFresh'. -/
def graphFreshCard : Claim7 := { stood := { row := graphFreshRow, standIns := [], harness := (true, "032228dbd28e8b0d8cbc0c1fff48d420a8cc854c085274c046b25fae7d2a0f88"), looks := false }, kinds := [], alts := [], laidByText := true, laidKinds := [.data, .data, .data], laidTests := true, laidLooks := .later }
def GraphFreshCardSaid : Prop := Claim7.holds Tryd.pinned (.plain (OpenSpec.ofChange graphFreshSpec)) graphFreshCard

/-- THE TIED CARD OF 'plinthlaw11.GraphFrugal'. -/
def graphFrugalCard : Claim7 := { stood := { row := graphFrugalRow, standIns := [], harness := (true, "032228dbd28e8b0d8cbc0c1fff48d420a8cc854c085274c046b25fae7d2a0f88"), looks := false }, kinds := [], alts := [], laidByText := true, laidKinds := [.data, .data, .data], laidTests := true, laidLooks := .later }
def GraphFrugalCardSaid : Prop := Claim7.holds Tryd.pinned (.plain (OpenSpec.ofChange graphFrugalSpec)) graphFrugalCard

/-- THE TIED CARD OF 'plinthlaw11.GraphLong'. -/
def graphLongCard : Claim7 := { stood := { row := graphLongRow, standIns := [], harness := (true, "032228dbd28e8b0d8cbc0c1fff48d420a8cc854c085274c046b25fae7d2a0f88"), looks := false }, kinds := [], alts := [], laidByText := true, laidKinds := [.data, .data, .data], laidTests := true, laidLooks := .later }
def GraphLongCardSaid : Prop := Claim7.holds Tryd.pinned (.plain (OpenSpec.ofChange graphLongSpec)) graphLongCard

/-- THE TIED CARD OF 'plinthlaw11.GraphNil'. -/
def graphNilCard : Claim7 := { stood := { row := graphNilRow, standIns := [], harness := (true, "032228dbd28e8b0d8cbc0c1fff48d420a8cc854c085274c046b25fae7d2a0f88"), looks := false }, kinds := [], alts := [], laidByText := true, laidKinds := [.data, .data, .data], laidTests := true, laidLooks := .later }
def GraphNilCardSaid : Prop := Claim7.holds Tryd.pinned (.plain (OpenSpec.ofChange graphNilSpec)) graphNilCard

/-- THE TIED CARD OF 'plinthlaw22.ReportLines'. -/
def reportLinesCard : Claim7 := { stood := { row := reportLinesRow, standIns := [], harness := (true, "032228dbd28e8b0d8cbc0c1fff48d420a8cc854c085274c046b25fae7d2a0f88"), looks := false }, kinds := [], alts := [], laidByText := true, laidKinds := [.data, .data, .data, .data], laidTests := true, laidLooks := .later }
def ReportLinesCardSaid : Prop := Claim7.holds Tryd.pinned (.plain (OpenSpec.ofChange reportLinesSpec)) reportLinesCard

/-- THE TIED CARD OF 'plinthlaw22.ReportSorts'. -/
def reportSortsCard : Claim7 := { stood := { row := reportSortsRow, standIns := [], harness := (true, "032228dbd28e8b0d8cbc0c1fff48d420a8cc854c085274c046b25fae7d2a0f88"), looks := false }, kinds := [], alts := [], laidByText := true, laidKinds := [.data, .data, .data, .data], laidTests := true, laidLooks := .later }
def ReportSortsCardSaid : Prop := Claim7.holds Tryd.pinned (.plain (OpenSpec.ofChange reportSortsSpec)) reportSortsCard

/-- THE TIED CARD OF 'plinthlaw22.ReportOrder'. -/
def reportOrderCard : Claim7 := { stood := { row := reportOrderRow, standIns := [], harness := (true, "032228dbd28e8b0d8cbc0c1fff48d420a8cc854c085274c046b25fae7d2a0f88"), looks := false }, kinds := [], alts := [], laidByText := true, laidKinds := [.data, .data, .data, .data], laidTests := true, laidLooks := .later }
def ReportOrderCardSaid : Prop := Claim7.holds Tryd.pinned (.plain (OpenSpec.ofChange reportOrderSpec)) reportOrderCard

/-- THE TIED CARD OF 'plinthlaw22.ReportCounts'. -/
def reportCountsCard : Claim7 := { stood := { row := reportCountsRow, standIns := [], harness := (true, "032228dbd28e8b0d8cbc0c1fff48d420a8cc854c085274c046b25fae7d2a0f88"), looks := false }, kinds := [], alts := [], laidByText := true, laidKinds := [.data, .data, .data, .data], laidTests := true, laidLooks := .later }
def ReportCountsCardSaid : Prop := Claim7.holds Tryd.pinned (.plain (OpenSpec.ofChange reportCountsSpec)) reportCountsCard

/-- THE TIED CARD OF 'plinthlaw22.ReportJoins'. -/
def reportJoinsCard : Claim7 := { stood := { row := reportJoinsRow, standIns := [], harness := (true, "032228dbd28e8b0d8cbc0c1fff48d420a8cc854c085274c046b25fae7d2a0f88"), looks := false }, kinds := [], alts := [], laidByText := true, laidKinds := [.data, .data, .data, .data], laidTests := true, laidLooks := .later }
def ReportJoinsCardSaid : Prop := Claim7.holds Tryd.pinned (.plain (OpenSpec.ofChange reportJoinsSpec)) reportJoinsCard

/-- THE SECOND FORM's CARD OF 'plinthlaw11.GraphFresh'. -/
def graphFreshUptoCard : Claim7 := { stood := { row := graphFreshUptoRow, standIns := [], harness := (true, "032228dbd28e8b0d8cbc0c1fff48d420a8cc854c085274c046b25fae7d2a0f88"), looks := false }, kinds := [], alts := [], laidByText := true, laidKinds := [.data, .data, .data], laidTests := true, laidLooks := .later }
def GraphFreshUptoCardSaid : Prop := Claim7.holds Tryd.pinned (.plain (OpenSpec.upto graphFreshSpec)) graphFreshUptoCard

/-- THE SECOND FORM's CARD OF 'plinthlaw11.GraphFrugal'. -/
def graphFrugalUptoCard : Claim7 := { stood := { row := graphFrugalUptoRow, standIns := [], harness := (true, "032228dbd28e8b0d8cbc0c1fff48d420a8cc854c085274c046b25fae7d2a0f88"), looks := false }, kinds := [], alts := [], laidByText := true, laidKinds := [.data, .data, .data], laidTests := true, laidLooks := .later }
def GraphFrugalUptoCardSaid : Prop := Claim7.holds Tryd.pinned (.plain (OpenSpec.upto graphFrugalSpec)) graphFrugalUptoCard

/-- THE SECOND FORM's CARD OF 'plinthlaw11.GraphLong'. -/
def graphLongUptoCard : Claim7 := { stood := { row := graphLongUptoRow, standIns := [], harness := (true, "032228dbd28e8b0d8cbc0c1fff48d420a8cc854c085274c046b25fae7d2a0f88"), looks := false }, kinds := [], alts := [], laidByText := true, laidKinds := [.data, .data, .data], laidTests := true, laidLooks := .later }
def GraphLongUptoCardSaid : Prop := Claim7.holds Tryd.pinned (.plain (OpenSpec.upto graphLongSpec)) graphLongUptoCard

/-- THE SECOND FORM's CARD OF 'plinthlaw11.GraphNil'. -/
def graphNilUptoCard : Claim7 := { stood := { row := graphNilUptoRow, standIns := [], harness := (true, "032228dbd28e8b0d8cbc0c1fff48d420a8cc854c085274c046b25fae7d2a0f88"), looks := false }, kinds := [], alts := [], laidByText := true, laidKinds := [.data, .data, .data], laidTests := true, laidLooks := .later }
def GraphNilUptoCardSaid : Prop := Claim7.holds Tryd.pinned (.plain (OpenSpec.upto graphNilSpec)) graphNilUptoCard

/-- THE SECOND FORM's CARD OF 'plinthlaw22.ReportLines'. -/
def reportLinesUptoCard : Claim7 := { stood := { row := reportLinesUptoRow, standIns := [], harness := (true, "032228dbd28e8b0d8cbc0c1fff48d420a8cc854c085274c046b25fae7d2a0f88"), looks := false }, kinds := [], alts := [], laidByText := true, laidKinds := [.data, .data, .data, .data], laidTests := true, laidLooks := .later }
def ReportLinesUptoCardSaid : Prop := Claim7.holds Tryd.pinned (.plain (OpenSpec.upto reportLinesSpec)) reportLinesUptoCard

/-- THE SECOND FORM's CARD OF 'plinthlaw22.ReportSorts'. -/
def reportSortsUptoCard : Claim7 := { stood := { row := reportSortsUptoRow, standIns := [], harness := (true, "032228dbd28e8b0d8cbc0c1fff48d420a8cc854c085274c046b25fae7d2a0f88"), looks := false }, kinds := [], alts := [], laidByText := true, laidKinds := [.data, .data, .data, .data], laidTests := true, laidLooks := .later }
def ReportSortsUptoCardSaid : Prop := Claim7.holds Tryd.pinned (.plain (OpenSpec.upto reportSortsSpec)) reportSortsUptoCard

/-- THE SECOND FORM's CARD OF 'plinthlaw22.ReportOrder'. -/
def reportOrderUptoCard : Claim7 := { stood := { row := reportOrderUptoRow, standIns := [], harness := (true, "032228dbd28e8b0d8cbc0c1fff48d420a8cc854c085274c046b25fae7d2a0f88"), looks := false }, kinds := [], alts := [], laidByText := true, laidKinds := [.data, .data, .data, .data], laidTests := true, laidLooks := .later }
def ReportOrderUptoCardSaid : Prop := Claim7.holds Tryd.pinned (.plain (OpenSpec.upto reportOrderSpec)) reportOrderUptoCard

/-- THE SECOND FORM's CARD OF 'plinthlaw22.ReportCounts'. -/
def reportCountsUptoCard : Claim7 := { stood := { row := reportCountsUptoRow, standIns := [], harness := (true, "032228dbd28e8b0d8cbc0c1fff48d420a8cc854c085274c046b25fae7d2a0f88"), looks := false }, kinds := [], alts := [], laidByText := true, laidKinds := [.data, .data, .data, .data], laidTests := true, laidLooks := .later }
def ReportCountsUptoCardSaid : Prop := Claim7.holds Tryd.pinned (.plain (OpenSpec.upto reportCountsSpec)) reportCountsUptoCard

/-- THE SECOND FORM's CARD OF 'plinthlaw22.ReportJoins'. -/
def reportJoinsUptoCard : Claim7 := { stood := { row := reportJoinsUptoRow, standIns := [], harness := (true, "032228dbd28e8b0d8cbc0c1fff48d420a8cc854c085274c046b25fae7d2a0f88"), looks := false }, kinds := [], alts := [], laidByText := true, laidKinds := [.data, .data, .data, .data], laidTests := true, laidLooks := .later }
def ReportJoinsUptoCardSaid : Prop := Claim7.holds Tryd.pinned (.plain (OpenSpec.upto reportJoinsSpec)) reportJoinsUptoCard
end Rows
end Go.Proofs.YteghbblbkljdhaaDoor
