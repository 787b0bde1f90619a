/-
  DERIVED. GIVEN WITH THE SEED: THE CARDS: each row of YtgcfhoglcdgekaaGreatDoorRows.lean that lists a variable, with what it lists TIED to the program's text (the seventh form; the later family's looks); each row that meets fmt, with fmt's text TOLD by the authors' own Lean function (tested against real Go, not proved from fmt's source: count such statements apart). THE CARD IS WHAT COUNTS. Prove the row's statement (the work); the ties are given (YtgcfhoglcdgekaaGreatDoorTie.lean); close each card by the builder's one call (the guide's Derived/Test/ToyasCard.lean, 'card_holds'). Laid BY PROGRAM, IN A SANDBOX (cutbox-door.mjs). By AI agents, Wed Nov 11 2026. No macro, syntax, notation, axiom, sorry.
-/
import Derived.Test.YtgcfhoglcdgekaaGreatDoorRows
import GoSem.ClaimSeven
namespace Go.Proofs.YtgcfhoglcdgekaaGreatDoor
namespace Rows

/-- THE TIED CARD OF 'entrepotlaw8.CborHeads'. -/
def cborHeadsCard : Claim7 := { stood := { row := cborHeadsRow, standIns := [], harness := (true, "25eca8b6c3a4b6d8201460bde789acaef4c2ed8d9eadf5622567e1289d551b51"), looks := false }, kinds := [], alts := [], laidByText := true, laidKinds := [.data, .data, .pinned], laidTests := true, laidLooks := .later }
def CborHeadsCardSaid : Prop := Claim7.holds Tryz.pinned (.plain (OpenSpec.ofChange cborHeadsSpec)) cborHeadsCard

/-- THE SECOND FORM's CARD OF 'entrepotlaw8.CborHeads'. -/
def cborHeadsUptoCard : Claim7 := { stood := { row := cborHeadsUptoRow, standIns := [], harness := (true, "25eca8b6c3a4b6d8201460bde789acaef4c2ed8d9eadf5622567e1289d551b51"), looks := false }, kinds := [], alts := [], laidByText := true, laidKinds := [.data, .data, .pinned], laidTests := true, laidLooks := .later }
def CborHeadsUptoCardSaid : Prop := Claim7.holds Tryz.pinned (.plain (OpenSpec.upto cborHeadsSpec)) cborHeadsUptoCard
end Rows
end Go.Proofs.YtgcfhoglcdgekaaGreatDoor
