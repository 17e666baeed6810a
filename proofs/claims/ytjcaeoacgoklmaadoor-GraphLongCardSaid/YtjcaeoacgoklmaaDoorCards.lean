/-
  DERIVED. GIVEN WITH THE SEED: THE CARDS: each row of YtjcaeoacgoklmaaDoorRows.lean that lists a variable, with what it lists TIED to the program's text (the seventh form; the later family's looks); each row that meets fmt, with fmt's text TOLD by the authors' own Lean function (tested against real Go, not proved from fmt's source: count such statements apart). THE CARD IS WHAT COUNTS. Prove the row's statement (the work); the ties are given (YtjcaeoacgoklmaaDoorTie.lean); close each card by the builder's one call (the guide's Derived/Test/ToyasCard.lean, 'card_holds'). Laid BY PROGRAM, IN A SANDBOX (cutbox-door.mjs). By AI agents, Wed Nov 11 2026. No macro, syntax, notation, axiom, sorry.
-/
import Derived.Test.YtjcaeoacgoklmaaDoorRows
import GoSem.ClaimSeven
namespace Go.Proofs.YtjcaeoacgoklmaaDoor
namespace Rows

/-- THE TIED CARD OF 'plinthlaw11.GraphLong'. -/
def graphLongCard : Claim7 := { stood := { row := graphLongRow, standIns := [], harness := (true, "00d721a30a9d5dab2b7951449fc4c0e8e30b20d750161ac7b689e76af8bddbe3"), looks := false }, kinds := [], alts := [], laidByText := true, laidKinds := [.data, .data, .data], laidTests := true, laidLooks := .later }
def GraphLongCardSaid : Prop := Claim7.holds Tryd.pinned (.plain (OpenSpec.ofChange graphLongSpec)) graphLongCard

/-- THE SECOND FORM's CARD OF 'plinthlaw11.GraphLong'. -/
def graphLongUptoCard : Claim7 := { stood := { row := graphLongUptoRow, standIns := [], harness := (true, "00d721a30a9d5dab2b7951449fc4c0e8e30b20d750161ac7b689e76af8bddbe3"), looks := false }, kinds := [], alts := [], laidByText := true, laidKinds := [.data, .data, .data], laidTests := true, laidLooks := .later }
def GraphLongUptoCardSaid : Prop := Claim7.holds Tryd.pinned (.plain (OpenSpec.upto graphLongSpec)) graphLongUptoCard
end Rows
end Go.Proofs.YtjcaeoacgoklmaaDoor
