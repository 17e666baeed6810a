/-
  DERIVED. GIVEN WITH THE SEED: THE CARDS: each row of YtnnjbgjhhbmfgaaGreatDoorRows.lean that lists a variable, with what it lists TIED to the program's text (the seventh form; the later family's looks); each row that meets fmt, with fmt's text TOLD by the authors' own Lean function (tested against real Go, not proved from fmt's source: count such statements apart). THE CARD IS WHAT COUNTS. Prove the row's statement (the work); the ties are given (YtnnjbgjhhbmfgaaGreatDoorTie.lean); close each card by the builder's one call (the guide's Derived/Test/ToyasCard.lean, 'card_holds'). Laid BY PROGRAM, IN A SANDBOX (cutbox-door.mjs). By AI agents, Wed Nov 11 2026. No macro, syntax, notation, axiom, sorry.
-/
import Derived.Test.YtnnjbgjhhbmfgaaGreatDoorRows
import GoSem.ClaimSeven
namespace Go.Proofs.YtnnjbgjhhbmfgaaGreatDoor
namespace Rows

/-- THE TIED CARD OF 'plinthlaw09.TypesTotal'. -/
def typesTotalCard : Claim7 := { stood := { row := typesTotalRow, standIns := [], harness := (true, "4797ebba5389b76e7c8b5020907ee11d61477d9e2ba4b3e00d15582a8a2cf6d1"), looks := false }, kinds := [], alts := [], laidByText := true, laidKinds := [.data, .data, .data, .data, .pinned], laidTests := true, laidLooks := .later }
def TypesTotalCardSaid : Prop := Claim7.holds Tryz.pinned (.plain (OpenSpec.ofChange typesTotalSpec)) typesTotalCard

/-- THE SECOND FORM's CARD OF 'plinthlaw09.TypesTotal'. -/
def typesTotalUptoCard : Claim7 := { stood := { row := typesTotalUptoRow, standIns := [], harness := (true, "4797ebba5389b76e7c8b5020907ee11d61477d9e2ba4b3e00d15582a8a2cf6d1"), looks := false }, kinds := [], alts := [], laidByText := true, laidKinds := [.data, .data, .data, .data, .pinned], laidTests := true, laidLooks := .later }
def TypesTotalUptoCardSaid : Prop := Claim7.holds Tryz.pinned (.plain (OpenSpec.upto typesTotalSpec)) typesTotalUptoCard
end Rows
end Go.Proofs.YtnnjbgjhhbmfgaaGreatDoor
