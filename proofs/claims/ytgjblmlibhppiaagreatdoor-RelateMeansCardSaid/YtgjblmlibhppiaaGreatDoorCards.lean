/-
  DERIVED. GIVEN WITH THE SEED: THE CARDS: each row of YtgjblmlibhppiaaGreatDoorRows.lean that lists a variable, with what it lists TIED to the program's text (the seventh form; the later family's looks); each row that meets fmt, with fmt's text TOLD by the authors' own Lean function (tested against real Go, not proved from fmt's source: count such statements apart). THE CARD IS WHAT COUNTS. Prove the row's statement (the work); the ties are given (YtgjblmlibhppiaaGreatDoorTie.lean); close each card by the builder's one call (the guide's Derived/Test/ToyasCard.lean, 'card_holds'). Laid BY PROGRAM, IN A SANDBOX (cutbox-door.mjs). By AI agents, Wed Nov 11 2026. No macro, syntax, notation, axiom, sorry.
-/
import Derived.Test.YtgjblmlibhppiaaGreatDoorRows
import GoSem.ClaimSeven
namespace Go.Proofs.YtgjblmlibhppiaaGreatDoor
namespace Rows

/-- THE TIED CARD OF 'plinthlaw15.RelateOrder'. -/
def relateOrderCard : Claim7 := { stood := { row := relateOrderRow, standIns := [], harness := (true, "a0c3f2f164cf579a737a61db9ddd51600512cdc28525ebfa66501f5068d14d08"), looks := true }, kinds := [], alts := [], laidByText := true, laidKinds := [.data, .pinned], laidTests := true, laidLooks := .later }
def RelateOrderCardSaid : Prop := Claim7.holds Tryz.pinned (.plain (OpenSpec.ofChange relateOrderSpec)) relateOrderCard

/-- THE TIED CARD OF 'plinthlaw15.RelateUnions'. -/
def relateUnionsCard : Claim7 := { stood := { row := relateUnionsRow, standIns := [], harness := (true, "a0c3f2f164cf579a737a61db9ddd51600512cdc28525ebfa66501f5068d14d08"), looks := true }, kinds := [], alts := [], laidByText := true, laidKinds := [.data, .pinned], laidTests := true, laidLooks := .later }
def RelateUnionsCardSaid : Prop := Claim7.holds Tryz.pinned (.plain (OpenSpec.ofChange relateUnionsSpec)) relateUnionsCard

/-- THE TIED CARD OF 'plinthlaw15.RelateMeans'. -/
def relateMeansCard : Claim7 := { stood := { row := relateMeansRow, standIns := [], harness := (true, "a0c3f2f164cf579a737a61db9ddd51600512cdc28525ebfa66501f5068d14d08"), looks := true }, kinds := [], alts := [], laidByText := true, laidKinds := [.data, .pinned], laidTests := true, laidLooks := .later }
def RelateMeansCardSaid : Prop := Claim7.holds Tryz.pinned (.plain (OpenSpec.ofChange relateMeansSpec)) relateMeansCard

/-- THE TIED CARD OF 'plinthlaw15.RelateNames'. -/
def relateNamesCard : Claim7 := { stood := { row := relateNamesRow, standIns := [], harness := (true, "a0c3f2f164cf579a737a61db9ddd51600512cdc28525ebfa66501f5068d14d08"), looks := true }, kinds := [], alts := [], laidByText := true, laidKinds := [.data, .pinned], laidTests := true, laidLooks := .later }
def RelateNamesCardSaid : Prop := Claim7.holds Tryz.pinned (.plain (OpenSpec.ofChange relateNamesSpec)) relateNamesCard

/-- THE TIED CARD OF 'plinthlaw18.NarrowFits'. -/
def narrowFitsCard : Claim7 := { stood := { row := narrowFitsRow, standIns := [], harness := (true, "a0c3f2f164cf579a737a61db9ddd51600512cdc28525ebfa66501f5068d14d08"), looks := true }, kinds := [], alts := [], laidByText := true, laidKinds := [.data, .pinned], laidTests := true, laidLooks := .later }
def NarrowFitsCardSaid : Prop := Claim7.holds Tryz.pinned (.plain (OpenSpec.ofChange narrowFitsSpec)) narrowFitsCard

/-- THE TIED CARD OF 'plinthlaw18.NarrowTwice'. -/
def narrowTwiceCard : Claim7 := { stood := { row := narrowTwiceRow, standIns := [], harness := (true, "a0c3f2f164cf579a737a61db9ddd51600512cdc28525ebfa66501f5068d14d08"), looks := true }, kinds := [], alts := [], laidByText := true, laidKinds := [.data, .pinned], laidTests := true, laidLooks := .later }
def NarrowTwiceCardSaid : Prop := Claim7.holds Tryz.pinned (.plain (OpenSpec.ofChange narrowTwiceSpec)) narrowTwiceCard

/-- THE SECOND FORM's CARD OF 'plinthlaw15.RelateOrder'. -/
def relateOrderUptoCard : Claim7 := { stood := { row := relateOrderUptoRow, standIns := [], harness := (true, "a0c3f2f164cf579a737a61db9ddd51600512cdc28525ebfa66501f5068d14d08"), looks := true }, kinds := [], alts := [], laidByText := true, laidKinds := [.data, .pinned], laidTests := true, laidLooks := .later }
def RelateOrderUptoCardSaid : Prop := Claim7.holds Tryz.pinned (.plain (OpenSpec.upto relateOrderSpec)) relateOrderUptoCard

/-- THE SECOND FORM's CARD OF 'plinthlaw15.RelateUnions'. -/
def relateUnionsUptoCard : Claim7 := { stood := { row := relateUnionsUptoRow, standIns := [], harness := (true, "a0c3f2f164cf579a737a61db9ddd51600512cdc28525ebfa66501f5068d14d08"), looks := true }, kinds := [], alts := [], laidByText := true, laidKinds := [.data, .pinned], laidTests := true, laidLooks := .later }
def RelateUnionsUptoCardSaid : Prop := Claim7.holds Tryz.pinned (.plain (OpenSpec.upto relateUnionsSpec)) relateUnionsUptoCard

/-- THE SECOND FORM's CARD OF 'plinthlaw15.RelateMeans'. -/
def relateMeansUptoCard : Claim7 := { stood := { row := relateMeansUptoRow, standIns := [], harness := (true, "a0c3f2f164cf579a737a61db9ddd51600512cdc28525ebfa66501f5068d14d08"), looks := true }, kinds := [], alts := [], laidByText := true, laidKinds := [.data, .pinned], laidTests := true, laidLooks := .later }
def RelateMeansUptoCardSaid : Prop := Claim7.holds Tryz.pinned (.plain (OpenSpec.upto relateMeansSpec)) relateMeansUptoCard

/-- THE SECOND FORM's CARD OF 'plinthlaw15.RelateNames'. -/
def relateNamesUptoCard : Claim7 := { stood := { row := relateNamesUptoRow, standIns := [], harness := (true, "a0c3f2f164cf579a737a61db9ddd51600512cdc28525ebfa66501f5068d14d08"), looks := true }, kinds := [], alts := [], laidByText := true, laidKinds := [.data, .pinned], laidTests := true, laidLooks := .later }
def RelateNamesUptoCardSaid : Prop := Claim7.holds Tryz.pinned (.plain (OpenSpec.upto relateNamesSpec)) relateNamesUptoCard

/-- THE SECOND FORM's CARD OF 'plinthlaw18.NarrowFits'. -/
def narrowFitsUptoCard : Claim7 := { stood := { row := narrowFitsUptoRow, standIns := [], harness := (true, "a0c3f2f164cf579a737a61db9ddd51600512cdc28525ebfa66501f5068d14d08"), looks := true }, kinds := [], alts := [], laidByText := true, laidKinds := [.data, .pinned], laidTests := true, laidLooks := .later }
def NarrowFitsUptoCardSaid : Prop := Claim7.holds Tryz.pinned (.plain (OpenSpec.upto narrowFitsSpec)) narrowFitsUptoCard

/-- THE SECOND FORM's CARD OF 'plinthlaw18.NarrowTwice'. -/
def narrowTwiceUptoCard : Claim7 := { stood := { row := narrowTwiceUptoRow, standIns := [], harness := (true, "a0c3f2f164cf579a737a61db9ddd51600512cdc28525ebfa66501f5068d14d08"), looks := true }, kinds := [], alts := [], laidByText := true, laidKinds := [.data, .pinned], laidTests := true, laidLooks := .later }
def NarrowTwiceUptoCardSaid : Prop := Claim7.holds Tryz.pinned (.plain (OpenSpec.upto narrowTwiceSpec)) narrowTwiceUptoCard
end Rows
end Go.Proofs.YtgjblmlibhppiaaGreatDoor
