/-
  DERIVED. GIVEN WITH THE SEED: THE CARDS: each row of YtoibaeilbolffaaGreatDoorRows.lean that lists a variable, with what it lists TIED to the program's text (the seventh form; the later family's looks); each row that meets fmt, with fmt's text TOLD by the authors' own Lean function (tested against real Go, not proved from fmt's source: count such statements apart). THE CARD IS WHAT COUNTS. Prove the row's statement (the work); the ties are given (YtoibaeilbolffaaGreatDoorTie.lean); close each card by the builder's one call (the guide's Derived/Test/ToyasCard.lean, 'card_holds'). Laid BY PROGRAM, IN A SANDBOX (cutbox-door.mjs). By AI agents, Wed Nov 11 2026. No macro, syntax, notation, axiom, sorry.
-/
import Derived.Test.YtoibaeilbolffaaGreatDoorRows
import GoSem.ClaimSeven
namespace Go.Proofs.YtoibaeilbolffaaGreatDoor
namespace Rows

/-- THE TIED CARD OF 'entrepotlaw4.DyadParses'. -/
def dyadParsesCard : Claim7 := { stood := { row := dyadParsesRow, standIns := [], harness := (true, "3413280c739857ca41827e09988397f8b4fb288ef4b3eece459df2daf315f9cc"), looks := false }, kinds := [], alts := [], laidByText := true, laidKinds := [.data, .data, .data, .data, .pinned], laidTests := true, laidLooks := .later }
def DyadParsesCardSaid : Prop := Claim7.holds Tryz.pinned (.plain (OpenSpec.ofChange dyadParsesSpec)) dyadParsesCard

/-- THE TIED CARD OF 'entrepotlaw4.DyadPrints'. -/
def dyadPrintsCard : Claim7 := { stood := { row := dyadPrintsRow, standIns := [], harness := (true, "3413280c739857ca41827e09988397f8b4fb288ef4b3eece459df2daf315f9cc"), looks := false }, kinds := [], alts := [], laidByText := true, laidKinds := [.data, .data, .data, .data, .pinned], laidTests := true, laidLooks := .later }
def DyadPrintsCardSaid : Prop := Claim7.holds Tryz.pinned (.plain (OpenSpec.ofChange dyadPrintsSpec)) dyadPrintsCard

/-- THE TIED CARD OF 'entrepotlaw4.DyadParts'. -/
def dyadPartsCard : Claim7 := { stood := { row := dyadPartsRow, standIns := [], harness := (true, "3413280c739857ca41827e09988397f8b4fb288ef4b3eece459df2daf315f9cc"), looks := false }, kinds := [], alts := [], laidByText := true, laidKinds := [.data, .data, .data, .data, .pinned], laidTests := true, laidLooks := .later }
def DyadPartsCardSaid : Prop := Claim7.holds Tryz.pinned (.plain (OpenSpec.ofChange dyadPartsSpec)) dyadPartsCard

/-- THE TIED CARD OF 'entrepotlaw4.DyadWrong'. -/
def dyadWrongCard : Claim7 := { stood := { row := dyadWrongRow, standIns := [], harness := (true, "3413280c739857ca41827e09988397f8b4fb288ef4b3eece459df2daf315f9cc"), looks := false }, kinds := [], alts := [], laidByText := true, laidKinds := [.data, .data, .data, .data, .pinned], laidTests := true, laidLooks := .later }
def DyadWrongCardSaid : Prop := Claim7.holds Tryz.pinned (.plain (OpenSpec.ofChange dyadWrongSpec)) dyadWrongCard

/-- THE SECOND FORM's CARD OF 'entrepotlaw4.DyadParses'. -/
def dyadParsesUptoCard : Claim7 := { stood := { row := dyadParsesUptoRow, standIns := [], harness := (true, "3413280c739857ca41827e09988397f8b4fb288ef4b3eece459df2daf315f9cc"), looks := false }, kinds := [], alts := [], laidByText := true, laidKinds := [.data, .data, .data, .data, .pinned], laidTests := true, laidLooks := .later }
def DyadParsesUptoCardSaid : Prop := Claim7.holds Tryz.pinned (.plain (OpenSpec.upto dyadParsesSpec)) dyadParsesUptoCard

/-- THE SECOND FORM's CARD OF 'entrepotlaw4.DyadPrints'. -/
def dyadPrintsUptoCard : Claim7 := { stood := { row := dyadPrintsUptoRow, standIns := [], harness := (true, "3413280c739857ca41827e09988397f8b4fb288ef4b3eece459df2daf315f9cc"), looks := false }, kinds := [], alts := [], laidByText := true, laidKinds := [.data, .data, .data, .data, .pinned], laidTests := true, laidLooks := .later }
def DyadPrintsUptoCardSaid : Prop := Claim7.holds Tryz.pinned (.plain (OpenSpec.upto dyadPrintsSpec)) dyadPrintsUptoCard

/-- THE SECOND FORM's CARD OF 'entrepotlaw4.DyadParts'. -/
def dyadPartsUptoCard : Claim7 := { stood := { row := dyadPartsUptoRow, standIns := [], harness := (true, "3413280c739857ca41827e09988397f8b4fb288ef4b3eece459df2daf315f9cc"), looks := false }, kinds := [], alts := [], laidByText := true, laidKinds := [.data, .data, .data, .data, .pinned], laidTests := true, laidLooks := .later }
def DyadPartsUptoCardSaid : Prop := Claim7.holds Tryz.pinned (.plain (OpenSpec.upto dyadPartsSpec)) dyadPartsUptoCard

/-- THE SECOND FORM's CARD OF 'entrepotlaw4.DyadWrong'. -/
def dyadWrongUptoCard : Claim7 := { stood := { row := dyadWrongUptoRow, standIns := [], harness := (true, "3413280c739857ca41827e09988397f8b4fb288ef4b3eece459df2daf315f9cc"), looks := false }, kinds := [], alts := [], laidByText := true, laidKinds := [.data, .data, .data, .data, .pinned], laidTests := true, laidLooks := .later }
def DyadWrongUptoCardSaid : Prop := Claim7.holds Tryz.pinned (.plain (OpenSpec.upto dyadWrongSpec)) dyadWrongUptoCard
end Rows
end Go.Proofs.YtoibaeilbolffaaGreatDoor
