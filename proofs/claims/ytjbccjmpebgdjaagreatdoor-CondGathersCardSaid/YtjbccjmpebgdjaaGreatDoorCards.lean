/-
  DERIVED. GIVEN WITH THE SEED: THE CARDS: each row of YtjbccjmpebgdjaaGreatDoorRows.lean that lists a variable, with what it lists TIED to the program's text (the seventh form; the later family's looks); each row that meets fmt, with fmt's text TOLD by the authors' own Lean function (tested against real Go, not proved from fmt's source: count such statements apart). THE CARD IS WHAT COUNTS. Prove the row's statement (the work); the ties are given (YtjbccjmpebgdjaaGreatDoorTie.lean); close each card by the builder's one call (the guide's Derived/Test/ToyasCard.lean, 'card_holds'). Laid BY PROGRAM, IN A SANDBOX (cutbox-door.mjs). By AI agents, Wed Nov 11 2026. No macro, syntax, notation, axiom, sorry.
-/
import Derived.Test.YtjbccjmpebgdjaaGreatDoorRows
import GoSem.ClaimSeven
namespace Go.Proofs.YtjbccjmpebgdjaaGreatDoor
namespace Rows

/-- THE TIED CARD OF 'plinthlaw14.CondGathers'. -/
def condGathersCard : Claim7 := { stood := { row := condGathersRow, standIns := [], harness := (true, "c33711f6fba9d610006ad262802397c607d256e987963ecba751d83bde05241a"), looks := false }, kinds := [], alts := [], laidByText := true, laidKinds := [.data, .pinned], laidTests := true, laidLooks := .later }
def CondGathersCardSaid : Prop := Claim7.holds Tryz.pinned (.plain (OpenSpec.ofChange condGathersSpec)) condGathersCard

/-- THE TIED CARD OF 'plinthlaw14.CondFills'. -/
def condFillsCard : Claim7 := { stood := { row := condFillsRow, standIns := [], harness := (true, "c33711f6fba9d610006ad262802397c607d256e987963ecba751d83bde05241a"), looks := false }, kinds := [], alts := [], laidByText := true, laidKinds := [.data, .pinned], laidTests := true, laidLooks := .later }
def CondFillsCardSaid : Prop := Claim7.holds Tryz.pinned (.plain (OpenSpec.ofChange condFillsSpec)) condFillsCard

/-- THE SECOND FORM's CARD OF 'plinthlaw14.CondGathers'. -/
def condGathersUptoCard : Claim7 := { stood := { row := condGathersUptoRow, standIns := [], harness := (true, "c33711f6fba9d610006ad262802397c607d256e987963ecba751d83bde05241a"), looks := false }, kinds := [], alts := [], laidByText := true, laidKinds := [.data, .pinned], laidTests := true, laidLooks := .later }
def CondGathersUptoCardSaid : Prop := Claim7.holds Tryz.pinned (.plain (OpenSpec.upto condGathersSpec)) condGathersUptoCard

/-- THE SECOND FORM's CARD OF 'plinthlaw14.CondFills'. -/
def condFillsUptoCard : Claim7 := { stood := { row := condFillsUptoRow, standIns := [], harness := (true, "c33711f6fba9d610006ad262802397c607d256e987963ecba751d83bde05241a"), looks := false }, kinds := [], alts := [], laidByText := true, laidKinds := [.data, .pinned], laidTests := true, laidLooks := .later }
def CondFillsUptoCardSaid : Prop := Claim7.holds Tryz.pinned (.plain (OpenSpec.upto condFillsSpec)) condFillsUptoCard
end Rows
end Go.Proofs.YtjbccjmpebgdjaaGreatDoor
