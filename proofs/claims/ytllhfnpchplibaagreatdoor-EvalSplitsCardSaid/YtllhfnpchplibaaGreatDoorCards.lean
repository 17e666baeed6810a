/-
  DERIVED. GIVEN WITH THE SEED: THE CARDS: each row of YtllhfnpchplibaaGreatDoorRows.lean that lists a variable, with what it lists TIED to the program's text (the seventh form; the later family's looks); each row that meets fmt, with fmt's text TOLD by the authors' own Lean function (tested against real Go, not proved from fmt's source: count such statements apart). THE CARD IS WHAT COUNTS. Prove the row's statement (the work); the ties are given (YtllhfnpchplibaaGreatDoorTie.lean); close each card by the builder's one call (the guide's Derived/Test/ToyasCard.lean, 'card_holds'). Laid BY PROGRAM, IN A SANDBOX (cutbox-door.mjs). By AI agents, Wed Nov 11 2026. No macro, syntax, notation, axiom, sorry.
-/
import Derived.Test.YtllhfnpchplibaaGreatDoorRows
import GoSem.ClaimSeven
namespace Go.Proofs.YtllhfnpchplibaaGreatDoor
namespace Rows

/-- THE TIED CARD OF 'plinthlaw13.EvalSplits'. -/
def evalSplitsCard : Claim7 := { stood := { row := evalSplitsRow, standIns := [], harness := (true, "439bbda412521c3c6c749ab546f3c87b59f4b9979eb1a77710148691abd1345b"), looks := false }, kinds := [], alts := [], laidByText := true, laidKinds := [.data, .pinned], laidTests := true, laidLooks := .later }
def EvalSplitsCardSaid : Prop := Claim7.holds Tryz.pinned (.plain (OpenSpec.ofChange evalSplitsSpec)) evalSplitsCard

/-- THE SECOND FORM's CARD OF 'plinthlaw13.EvalSplits'. -/
def evalSplitsUptoCard : Claim7 := { stood := { row := evalSplitsUptoRow, standIns := [], harness := (true, "439bbda412521c3c6c749ab546f3c87b59f4b9979eb1a77710148691abd1345b"), looks := false }, kinds := [], alts := [], laidByText := true, laidKinds := [.data, .pinned], laidTests := true, laidLooks := .later }
def EvalSplitsUptoCardSaid : Prop := Claim7.holds Tryz.pinned (.plain (OpenSpec.upto evalSplitsSpec)) evalSplitsUptoCard
end Rows
end Go.Proofs.YtllhfnpchplibaaGreatDoor
