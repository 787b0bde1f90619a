/-
  DERIVED. GIVEN WITH THE SEED: THE CARDS: each row of YtpgpodjmdflmeaaGreatDoorRows.lean that lists a variable, with what it lists TIED to the program's text (the seventh form; the later family's looks); each row that meets fmt, with fmt's text TOLD by the authors' own Lean function (tested against real Go, not proved from fmt's source: count such statements apart). THE CARD IS WHAT COUNTS. Prove the row's statement (the work); the ties are given (YtpgpodjmdflmeaaGreatDoorTie.lean); close each card by the builder's one call (the guide's Derived/Test/ToyasCard.lean, 'card_holds'). Laid BY PROGRAM, IN A SANDBOX (cutbox-door.mjs). By AI agents, Wed Nov 11 2026. No macro, syntax, notation, axiom, sorry.
-/
import Derived.Test.YtpgpodjmdflmeaaGreatDoorRows
import GoSem.ClaimSeven
namespace Go.Proofs.YtpgpodjmdflmeaaGreatDoor
namespace Rows

/-- THE TIED CARD OF 'entrepotlaw8.CborHeads'. -/
def cborHeadsCard : Claim7 := { stood := { row := cborHeadsRow, standIns := [], harness := (true, "cbea46a90cdb48e29e1f75d5ab20208060da12a11c014d44565008a935d22033"), looks := false }, kinds := [], alts := [], laidByText := true, laidKinds := [.data, .data, .pinned], laidTests := true, laidLooks := .later }
def CborHeadsCardSaid : Prop := Claim7.holds Tryz.pinned (.plain (OpenSpec.ofChange cborHeadsSpec)) cborHeadsCard

/-- THE TIED CARD OF 'entrepotlaw8.CborFloats'. -/
def cborFloatsCard : Claim7 := { stood := { row := cborFloatsRow, standIns := [], harness := (true, "cbea46a90cdb48e29e1f75d5ab20208060da12a11c014d44565008a935d22033"), looks := false }, kinds := [], alts := [], laidByText := true, laidKinds := [.data, .data, .pinned], laidTests := true, laidLooks := .later }
def CborFloatsCardSaid : Prop := Claim7.holds Tryz.pinned (.plain (OpenSpec.ofChange cborFloatsSpec)) cborFloatsCard

/-- THE SECOND FORM's CARD OF 'entrepotlaw8.CborHeads'. -/
def cborHeadsUptoCard : Claim7 := { stood := { row := cborHeadsUptoRow, standIns := [], harness := (true, "cbea46a90cdb48e29e1f75d5ab20208060da12a11c014d44565008a935d22033"), looks := false }, kinds := [], alts := [], laidByText := true, laidKinds := [.data, .data, .pinned], laidTests := true, laidLooks := .later }
def CborHeadsUptoCardSaid : Prop := Claim7.holds Tryz.pinned (.plain (OpenSpec.upto cborHeadsSpec)) cborHeadsUptoCard

/-- THE SECOND FORM's CARD OF 'entrepotlaw8.CborFloats'. -/
def cborFloatsUptoCard : Claim7 := { stood := { row := cborFloatsUptoRow, standIns := [], harness := (true, "cbea46a90cdb48e29e1f75d5ab20208060da12a11c014d44565008a935d22033"), looks := false }, kinds := [], alts := [], laidByText := true, laidKinds := [.data, .data, .pinned], laidTests := true, laidLooks := .later }
def CborFloatsUptoCardSaid : Prop := Claim7.holds Tryz.pinned (.plain (OpenSpec.upto cborFloatsSpec)) cborFloatsUptoCard
end Rows
end Go.Proofs.YtpgpodjmdflmeaaGreatDoor
