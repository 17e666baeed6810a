/-
  DERIVED. GIVEN WITH THE SEED: THE CARDS: each row of YtfchnfnifpopnaaGreatDoorRows.lean that lists a variable, with what it lists TIED to the program's text (the seventh form; the later family's looks); each row that meets fmt, with fmt's text TOLD by the authors' own Lean function (tested against real Go, not proved from fmt's source: count such statements apart). THE CARD IS WHAT COUNTS. Prove the row's statement (the work); the ties are given (YtfchnfnifpopnaaGreatDoorTie.lean); close each card by the builder's one call (the guide's Derived/Test/ToyasCard.lean, 'card_holds'). Laid BY PROGRAM, IN A SANDBOX (cutbox-door.mjs). By AI agents, Wed Nov 11 2026. No macro, syntax, notation, axiom, sorry.
-/
import Derived.Test.YtfchnfnifpopnaaGreatDoorRows
import GoSem.ClaimSeven
namespace Go.Proofs.YtfchnfnifpopnaaGreatDoor
namespace Rows

/-- THE TIED CARD OF 'plinthlaw13.EvalFields'. -/
def evalFieldsCard : Claim7 := { stood := { row := evalFieldsRow, standIns := [], harness := (true, "c53fe67cb3156d622e27987860ce2128d1f8d0a7da6442c13e5a1aa89fe1520c"), looks := false }, kinds := [], alts := [], laidByText := true, laidKinds := [.data, .pinned], laidTests := true, laidLooks := .later }
def EvalFieldsCardSaid : Prop := Claim7.holds Tryz.pinned (.plain (OpenSpec.ofChange evalFieldsSpec)) evalFieldsCard

/-- THE SECOND FORM's CARD OF 'plinthlaw13.EvalFields'. -/
def evalFieldsUptoCard : Claim7 := { stood := { row := evalFieldsUptoRow, standIns := [], harness := (true, "c53fe67cb3156d622e27987860ce2128d1f8d0a7da6442c13e5a1aa89fe1520c"), looks := false }, kinds := [], alts := [], laidByText := true, laidKinds := [.data, .pinned], laidTests := true, laidLooks := .later }
def EvalFieldsUptoCardSaid : Prop := Claim7.holds Tryz.pinned (.plain (OpenSpec.upto evalFieldsSpec)) evalFieldsUptoCard
end Rows
end Go.Proofs.YtfchnfnifpopnaaGreatDoor
