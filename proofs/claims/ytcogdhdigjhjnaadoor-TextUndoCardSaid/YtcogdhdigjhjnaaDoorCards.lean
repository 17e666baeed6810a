/-
  DERIVED. GIVEN WITH THE SEED: THE CARDS: each row of YtcogdhdigjhjnaaDoorRows.lean that lists a variable, with what it lists TIED to the program's text (the seventh form; the later family's looks); each row that meets fmt, with fmt's text TOLD by the authors' own Lean function (tested against real Go, not proved from fmt's source: count such statements apart). THE CARD IS WHAT COUNTS. Prove the row's statement (the work); the ties are given (YtcogdhdigjhjnaaDoorTie.lean); close each card by the builder's one call (the guide's Derived/Test/ToyasCard.lean, 'card_holds'). Laid BY PROGRAM, IN A SANDBOX (cutbox-door.mjs). By AI agents, Wed Nov 11 2026. No macro, syntax, notation, axiom, sorry.
-/
import Derived.Test.YtcogdhdigjhjnaaDoorRows
import GoSem.ClaimSeven
namespace Go.Proofs.YtcogdhdigjhjnaaDoor
namespace Rows

/-- THE TIED CARD OF 'plinthlaw01.TextChecks'. -/
def textChecksCard : Claim7 := { stood := { row := textChecksRow, standIns := [], harness := (true, "a6b8dec054a73dd941927204d220c16adc1e28419e5a100f8d10a4737c39dca0"), looks := false }, kinds := [], alts := [], laidByText := true, laidKinds := [.data, .pinned], laidTests := true, laidLooks := .later }
def TextChecksCardSaid : Prop := Claim7.holds Tryd.pinned (.plain (OpenSpec.ofChange textChecksSpec)) textChecksCard

/-- THE TIED CARD OF 'plinthlaw01.TextPlaces'. -/
def textPlacesCard : Claim7 := { stood := { row := textPlacesRow, standIns := [], harness := (true, "a6b8dec054a73dd941927204d220c16adc1e28419e5a100f8d10a4737c39dca0"), looks := false }, kinds := [], alts := [], laidByText := true, laidKinds := [.data, .pinned], laidTests := true, laidLooks := .later }
def TextPlacesCardSaid : Prop := Claim7.holds Tryd.pinned (.plain (OpenSpec.ofChange textPlacesSpec)) textPlacesCard

/-- THE TIED CARD OF 'plinthlaw01.TextBack'. -/
def textBackCard : Claim7 := { stood := { row := textBackRow, standIns := [], harness := (true, "a6b8dec054a73dd941927204d220c16adc1e28419e5a100f8d10a4737c39dca0"), looks := false }, kinds := [], alts := [], laidByText := true, laidKinds := [.data, .pinned], laidTests := true, laidLooks := .later }
def TextBackCardSaid : Prop := Claim7.holds Tryd.pinned (.plain (OpenSpec.ofChange textBackSpec)) textBackCard

/-- THE TIED CARD OF 'plinthlaw01.TextEdits'. -/
def textEditsCard : Claim7 := { stood := { row := textEditsRow, standIns := [], harness := (true, "a6b8dec054a73dd941927204d220c16adc1e28419e5a100f8d10a4737c39dca0"), looks := false }, kinds := [], alts := [], laidByText := true, laidKinds := [.data, .pinned], laidTests := true, laidLooks := .later }
def TextEditsCardSaid : Prop := Claim7.holds Tryd.pinned (.plain (OpenSpec.ofChange textEditsSpec)) textEditsCard

/-- THE TIED CARD OF 'plinthlaw01.TextUndo'. -/
def textUndoCard : Claim7 := { stood := { row := textUndoRow, standIns := [], harness := (true, "a6b8dec054a73dd941927204d220c16adc1e28419e5a100f8d10a4737c39dca0"), looks := false }, kinds := [], alts := [], laidByText := true, laidKinds := [.data, .pinned], laidTests := true, laidLooks := .later }
def TextUndoCardSaid : Prop := Claim7.holds Tryd.pinned (.plain (OpenSpec.ofChange textUndoSpec)) textUndoCard

/-- THE TIED CARD OF 'plinthlaw01.TextJoins'. -/
def textJoinsCard : Claim7 := { stood := { row := textJoinsRow, standIns := [], harness := (true, "a6b8dec054a73dd941927204d220c16adc1e28419e5a100f8d10a4737c39dca0"), looks := false }, kinds := [], alts := [], laidByText := true, laidKinds := [.data, .pinned], laidTests := true, laidLooks := .later }
def TextJoinsCardSaid : Prop := Claim7.holds Tryd.pinned (.plain (OpenSpec.ofChange textJoinsSpec)) textJoinsCard

/-- THE SECOND FORM's CARD OF 'plinthlaw01.TextChecks'. -/
def textChecksUptoCard : Claim7 := { stood := { row := textChecksUptoRow, standIns := [], harness := (true, "a6b8dec054a73dd941927204d220c16adc1e28419e5a100f8d10a4737c39dca0"), looks := false }, kinds := [], alts := [], laidByText := true, laidKinds := [.data, .pinned], laidTests := true, laidLooks := .later }
def TextChecksUptoCardSaid : Prop := Claim7.holds Tryd.pinned (.plain (OpenSpec.upto textChecksSpec)) textChecksUptoCard

/-- THE SECOND FORM's CARD OF 'plinthlaw01.TextPlaces'. -/
def textPlacesUptoCard : Claim7 := { stood := { row := textPlacesUptoRow, standIns := [], harness := (true, "a6b8dec054a73dd941927204d220c16adc1e28419e5a100f8d10a4737c39dca0"), looks := false }, kinds := [], alts := [], laidByText := true, laidKinds := [.data, .pinned], laidTests := true, laidLooks := .later }
def TextPlacesUptoCardSaid : Prop := Claim7.holds Tryd.pinned (.plain (OpenSpec.upto textPlacesSpec)) textPlacesUptoCard

/-- THE SECOND FORM's CARD OF 'plinthlaw01.TextBack'. -/
def textBackUptoCard : Claim7 := { stood := { row := textBackUptoRow, standIns := [], harness := (true, "a6b8dec054a73dd941927204d220c16adc1e28419e5a100f8d10a4737c39dca0"), looks := false }, kinds := [], alts := [], laidByText := true, laidKinds := [.data, .pinned], laidTests := true, laidLooks := .later }
def TextBackUptoCardSaid : Prop := Claim7.holds Tryd.pinned (.plain (OpenSpec.upto textBackSpec)) textBackUptoCard

/-- THE SECOND FORM's CARD OF 'plinthlaw01.TextEdits'. -/
def textEditsUptoCard : Claim7 := { stood := { row := textEditsUptoRow, standIns := [], harness := (true, "a6b8dec054a73dd941927204d220c16adc1e28419e5a100f8d10a4737c39dca0"), looks := false }, kinds := [], alts := [], laidByText := true, laidKinds := [.data, .pinned], laidTests := true, laidLooks := .later }
def TextEditsUptoCardSaid : Prop := Claim7.holds Tryd.pinned (.plain (OpenSpec.upto textEditsSpec)) textEditsUptoCard

/-- THE SECOND FORM's CARD OF 'plinthlaw01.TextUndo'. -/
def textUndoUptoCard : Claim7 := { stood := { row := textUndoUptoRow, standIns := [], harness := (true, "a6b8dec054a73dd941927204d220c16adc1e28419e5a100f8d10a4737c39dca0"), looks := false }, kinds := [], alts := [], laidByText := true, laidKinds := [.data, .pinned], laidTests := true, laidLooks := .later }
def TextUndoUptoCardSaid : Prop := Claim7.holds Tryd.pinned (.plain (OpenSpec.upto textUndoSpec)) textUndoUptoCard

/-- THE SECOND FORM's CARD OF 'plinthlaw01.TextJoins'. -/
def textJoinsUptoCard : Claim7 := { stood := { row := textJoinsUptoRow, standIns := [], harness := (true, "a6b8dec054a73dd941927204d220c16adc1e28419e5a100f8d10a4737c39dca0"), looks := false }, kinds := [], alts := [], laidByText := true, laidKinds := [.data, .pinned], laidTests := true, laidLooks := .later }
def TextJoinsUptoCardSaid : Prop := Claim7.holds Tryd.pinned (.plain (OpenSpec.upto textJoinsSpec)) textJoinsUptoCard
end Rows
end Go.Proofs.YtcogdhdigjhjnaaDoor
