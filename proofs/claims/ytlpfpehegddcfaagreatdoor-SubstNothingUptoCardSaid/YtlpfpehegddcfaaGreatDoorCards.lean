/-
  DERIVED. GIVEN WITH THE SEED: THE CARDS: each row of YtlpfpehegddcfaaGreatDoorRows.lean that lists a variable, with what it lists TIED to the program's text (the seventh form; the later family's looks); each row that meets fmt, with fmt's text TOLD by the authors' own Lean function (tested against real Go, not proved from fmt's source: count such statements apart). THE CARD IS WHAT COUNTS. Prove the row's statement (the work); the ties are given (YtlpfpehegddcfaaGreatDoorTie.lean); close each card by the builder's one call (the guide's Derived/Test/ToyasCard.lean, 'card_holds'). Laid BY PROGRAM, IN A SANDBOX (cutbox-door.mjs). By AI agents, Wed Nov 11 2026. No macro, syntax, notation, axiom, sorry.
-/
import Derived.Test.YtlpfpehegddcfaaGreatDoorRows
import GoSem.ClaimSeven
namespace Go.Proofs.YtlpfpehegddcfaaGreatDoor
namespace Rows

/-- THE TIED CARD OF 'plinthlaw14.CondFills'. -/
def condFillsCard : Claim7 := { stood := { row := condFillsRow, standIns := [], harness := (true, "b6804cbb5f99851a926dcbdae7158dd31afe803b349ebe8cd6824f2616f20f14"), looks := false }, kinds := [], alts := [], laidByText := true, laidKinds := [.data, .pinned], laidTests := true, laidLooks := .later }
def CondFillsCardSaid : Prop := Claim7.holds Tryz.pinned (.plain (OpenSpec.ofChange condFillsSpec)) condFillsCard

/-- THE TIED CARD OF 'plinthlaw10.SubstNothing'. -/
def substNothingCard : Claim7 := { stood := { row := substNothingRow, standIns := [], harness := (true, "b6804cbb5f99851a926dcbdae7158dd31afe803b349ebe8cd6824f2616f20f14"), looks := false }, kinds := [], alts := [], laidByText := true, laidKinds := [.data, .pinned], laidTests := true, laidLooks := .later }
def SubstNothingCardSaid : Prop := Claim7.holds Tryz.pinned (.plain (OpenSpec.ofChange substNothingSpec)) substNothingCard

/-- THE TIED CARD OF 'plinthlaw10.SubstBack'. -/
def substBackCard : Claim7 := { stood := { row := substBackRow, standIns := [], harness := (true, "b6804cbb5f99851a926dcbdae7158dd31afe803b349ebe8cd6824f2616f20f14"), looks := false }, kinds := [], alts := [], laidByText := true, laidKinds := [.data, .pinned], laidTests := true, laidLooks := .later }
def SubstBackCardSaid : Prop := Claim7.holds Tryz.pinned (.plain (OpenSpec.ofChange substBackSpec)) substBackCard

/-- THE TIED CARD OF 'plinthlaw13.EvalMaps'. -/
def evalMapsCard : Claim7 := { stood := { row := evalMapsRow, standIns := [], harness := (true, "b6804cbb5f99851a926dcbdae7158dd31afe803b349ebe8cd6824f2616f20f14"), looks := false }, kinds := [], alts := [], laidByText := true, laidKinds := [.data, .pinned], laidTests := true, laidLooks := .later }
def EvalMapsCardSaid : Prop := Claim7.holds Tryz.pinned (.plain (OpenSpec.ofChange evalMapsSpec)) evalMapsCard

/-- THE TIED CARD OF 'plinthlaw13.EvalThere'. -/
def evalThereCard : Claim7 := { stood := { row := evalThereRow, standIns := [], harness := (true, "b6804cbb5f99851a926dcbdae7158dd31afe803b349ebe8cd6824f2616f20f14"), looks := false }, kinds := [], alts := [], laidByText := true, laidKinds := [.data, .pinned], laidTests := true, laidLooks := .later }
def EvalThereCardSaid : Prop := Claim7.holds Tryz.pinned (.plain (OpenSpec.ofChange evalThereSpec)) evalThereCard

/-- THE SECOND FORM's CARD OF 'plinthlaw14.CondFills'. -/
def condFillsUptoCard : Claim7 := { stood := { row := condFillsUptoRow, standIns := [], harness := (true, "b6804cbb5f99851a926dcbdae7158dd31afe803b349ebe8cd6824f2616f20f14"), looks := false }, kinds := [], alts := [], laidByText := true, laidKinds := [.data, .pinned], laidTests := true, laidLooks := .later }
def CondFillsUptoCardSaid : Prop := Claim7.holds Tryz.pinned (.plain (OpenSpec.upto condFillsSpec)) condFillsUptoCard

/-- THE SECOND FORM's CARD OF 'plinthlaw10.SubstNothing'. -/
def substNothingUptoCard : Claim7 := { stood := { row := substNothingUptoRow, standIns := [], harness := (true, "b6804cbb5f99851a926dcbdae7158dd31afe803b349ebe8cd6824f2616f20f14"), looks := false }, kinds := [], alts := [], laidByText := true, laidKinds := [.data, .pinned], laidTests := true, laidLooks := .later }
def SubstNothingUptoCardSaid : Prop := Claim7.holds Tryz.pinned (.plain (OpenSpec.upto substNothingSpec)) substNothingUptoCard

/-- THE SECOND FORM's CARD OF 'plinthlaw10.SubstBack'. -/
def substBackUptoCard : Claim7 := { stood := { row := substBackUptoRow, standIns := [], harness := (true, "b6804cbb5f99851a926dcbdae7158dd31afe803b349ebe8cd6824f2616f20f14"), looks := false }, kinds := [], alts := [], laidByText := true, laidKinds := [.data, .pinned], laidTests := true, laidLooks := .later }
def SubstBackUptoCardSaid : Prop := Claim7.holds Tryz.pinned (.plain (OpenSpec.upto substBackSpec)) substBackUptoCard

/-- THE SECOND FORM's CARD OF 'plinthlaw13.EvalMaps'. -/
def evalMapsUptoCard : Claim7 := { stood := { row := evalMapsUptoRow, standIns := [], harness := (true, "b6804cbb5f99851a926dcbdae7158dd31afe803b349ebe8cd6824f2616f20f14"), looks := false }, kinds := [], alts := [], laidByText := true, laidKinds := [.data, .pinned], laidTests := true, laidLooks := .later }
def EvalMapsUptoCardSaid : Prop := Claim7.holds Tryz.pinned (.plain (OpenSpec.upto evalMapsSpec)) evalMapsUptoCard

/-- THE SECOND FORM's CARD OF 'plinthlaw13.EvalThere'. -/
def evalThereUptoCard : Claim7 := { stood := { row := evalThereUptoRow, standIns := [], harness := (true, "b6804cbb5f99851a926dcbdae7158dd31afe803b349ebe8cd6824f2616f20f14"), looks := false }, kinds := [], alts := [], laidByText := true, laidKinds := [.data, .pinned], laidTests := true, laidLooks := .later }
def EvalThereUptoCardSaid : Prop := Claim7.holds Tryz.pinned (.plain (OpenSpec.upto evalThereSpec)) evalThereUptoCard
end Rows
end Go.Proofs.YtlpfpehegddcfaaGreatDoor
