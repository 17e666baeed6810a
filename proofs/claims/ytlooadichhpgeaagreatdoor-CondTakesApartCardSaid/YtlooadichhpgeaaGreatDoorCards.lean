/-
  DERIVED. GIVEN WITH THE SEED: THE CARDS: each row of YtlooadichhpgeaaGreatDoorRows.lean that lists a variable, with what it lists TIED to the program's text (the seventh form; the later family's looks); each row that meets fmt, with fmt's text TOLD by the authors' own Lean function (tested against real Go, not proved from fmt's source: count such statements apart). THE CARD IS WHAT COUNTS. Prove the row's statement (the work); the ties are given (YtlooadichhpgeaaGreatDoorTie.lean); close each card by the builder's one call (the guide's Derived/Test/ToyasCard.lean, 'card_holds'). Laid BY PROGRAM, IN A SANDBOX (cutbox-door.mjs). By AI agents, Wed Nov 11 2026. No macro, syntax, notation, axiom, sorry.
-/
import Derived.Test.YtlooadichhpgeaaGreatDoorRows
import GoSem.ClaimSeven
namespace Go.Proofs.YtlooadichhpgeaaGreatDoor
namespace Rows

/-- THE TIED CARD OF 'plinthlaw14.CondAlone'. -/
def condAloneCard : Claim7 := { stood := { row := condAloneRow, standIns := [], harness := (true, "5e1306c3c4c1b25924431550346e8db8f5724c9df0b48587ca55eb8aa7f692f5"), looks := false }, kinds := [], alts := [], laidByText := true, laidKinds := [.data, .pinned], laidTests := true, laidLooks := .later }
def CondAloneCardSaid : Prop := Claim7.holds Tryz.pinned (.plain (OpenSpec.ofChange condAloneSpec)) condAloneCard

/-- THE TIED CARD OF 'plinthlaw14.CondTakesApart'. -/
def condTakesApartCard : Claim7 := { stood := { row := condTakesApartRow, standIns := [], harness := (true, "5e1306c3c4c1b25924431550346e8db8f5724c9df0b48587ca55eb8aa7f692f5"), looks := false }, kinds := [], alts := [], laidByText := true, laidKinds := [.data, .pinned], laidTests := true, laidLooks := .later }
def CondTakesApartCardSaid : Prop := Claim7.holds Tryz.pinned (.plain (OpenSpec.ofChange condTakesApartSpec)) condTakesApartCard

/-- THE TIED CARD OF 'plinthlaw14.CondMerges'. -/
def condMergesCard : Claim7 := { stood := { row := condMergesRow, standIns := [], harness := (true, "5e1306c3c4c1b25924431550346e8db8f5724c9df0b48587ca55eb8aa7f692f5"), looks := false }, kinds := [], alts := [], laidByText := true, laidKinds := [.data, .pinned], laidTests := true, laidLooks := .later }
def CondMergesCardSaid : Prop := Claim7.holds Tryz.pinned (.plain (OpenSpec.ofChange condMergesSpec)) condMergesCard

/-- THE SECOND FORM's CARD OF 'plinthlaw14.CondAlone'. -/
def condAloneUptoCard : Claim7 := { stood := { row := condAloneUptoRow, standIns := [], harness := (true, "5e1306c3c4c1b25924431550346e8db8f5724c9df0b48587ca55eb8aa7f692f5"), looks := false }, kinds := [], alts := [], laidByText := true, laidKinds := [.data, .pinned], laidTests := true, laidLooks := .later }
def CondAloneUptoCardSaid : Prop := Claim7.holds Tryz.pinned (.plain (OpenSpec.upto condAloneSpec)) condAloneUptoCard

/-- THE SECOND FORM's CARD OF 'plinthlaw14.CondTakesApart'. -/
def condTakesApartUptoCard : Claim7 := { stood := { row := condTakesApartUptoRow, standIns := [], harness := (true, "5e1306c3c4c1b25924431550346e8db8f5724c9df0b48587ca55eb8aa7f692f5"), looks := false }, kinds := [], alts := [], laidByText := true, laidKinds := [.data, .pinned], laidTests := true, laidLooks := .later }
def CondTakesApartUptoCardSaid : Prop := Claim7.holds Tryz.pinned (.plain (OpenSpec.upto condTakesApartSpec)) condTakesApartUptoCard

/-- THE SECOND FORM's CARD OF 'plinthlaw14.CondMerges'. -/
def condMergesUptoCard : Claim7 := { stood := { row := condMergesUptoRow, standIns := [], harness := (true, "5e1306c3c4c1b25924431550346e8db8f5724c9df0b48587ca55eb8aa7f692f5"), looks := false }, kinds := [], alts := [], laidByText := true, laidKinds := [.data, .pinned], laidTests := true, laidLooks := .later }
def CondMergesUptoCardSaid : Prop := Claim7.holds Tryz.pinned (.plain (OpenSpec.upto condMergesSpec)) condMergesUptoCard
end Rows
end Go.Proofs.YtlooadichhpgeaaGreatDoor
