/-
  DERIVED. GIVEN WITH THE SEED: THE CARDS: each row of YtfaaagmjmljhiaaGreatDoorRows.lean that lists a variable, with what it lists TIED to the program's text (the seventh form; the later family's looks); each row that meets fmt, with fmt's text TOLD by the authors' own Lean function (tested against real Go, not proved from fmt's source: count such statements apart). THE CARD IS WHAT COUNTS. Prove the row's statement (the work); the ties are given (YtfaaagmjmljhiaaGreatDoorTie.lean); close each card by the builder's one call (the guide's Derived/Test/ToyasCard.lean, 'card_holds'). Laid BY PROGRAM, IN A SANDBOX (cutbox-door.mjs). By AI agents, Wed Nov 11 2026. No macro, syntax, notation, axiom, sorry.
-/
import Derived.Test.YtfaaagmjmljhiaaGreatDoorRows
import GoSem.ClaimSeven
namespace Go.Proofs.YtfaaagmjmljhiaaGreatDoor
namespace Rows

/-- THE TIED CARD OF 'entrepotlaw8.CborParts'. -/
def cborPartsCard : Claim7 := { stood := { row := cborPartsRow, standIns := [], harness := (true, "3920b65e9701c01271409db5f4f56ce51716c900d5c530520b5324cf8adca065"), looks := false }, kinds := [], alts := [], laidByText := true, laidKinds := [.data, .data, .pinned], laidTests := true, laidLooks := .later }
def CborPartsCardSaid : Prop := Claim7.holds Tryz.pinned (.plain (OpenSpec.ofChange cborPartsSpec)) cborPartsCard

/-- THE TIED CARD OF 'entrepotlaw8.CborWrites'. -/
def cborWritesCard : Claim7 := { stood := { row := cborWritesRow, standIns := [], harness := (true, "3920b65e9701c01271409db5f4f56ce51716c900d5c530520b5324cf8adca065"), looks := false }, kinds := [], alts := [], laidByText := true, laidKinds := [.data, .data, .pinned], laidTests := true, laidLooks := .later }
def CborWritesCardSaid : Prop := Claim7.holds Tryz.pinned (.plain (OpenSpec.ofChange cborWritesSpec)) cborWritesCard

/-- THE TIED CARD OF 'entrepotlaw8.CborKeys'. -/
def cborKeysCard : Claim7 := { stood := { row := cborKeysRow, standIns := [], harness := (true, "3920b65e9701c01271409db5f4f56ce51716c900d5c530520b5324cf8adca065"), looks := false }, kinds := [], alts := [], laidByText := true, laidKinds := [.data, .data, .pinned], laidTests := true, laidLooks := .later }
def CborKeysCardSaid : Prop := Claim7.holds Tryz.pinned (.plain (OpenSpec.ofChange cborKeysSpec)) cborKeysCard

/-- THE TIED CARD OF 'entrepotlaw8.CborEndless'. -/
def cborEndlessCard : Claim7 := { stood := { row := cborEndlessRow, standIns := [], harness := (true, "3920b65e9701c01271409db5f4f56ce51716c900d5c530520b5324cf8adca065"), looks := false }, kinds := [], alts := [], laidByText := true, laidKinds := [.data, .data, .pinned], laidTests := true, laidLooks := .later }
def CborEndlessCardSaid : Prop := Claim7.holds Tryz.pinned (.plain (OpenSpec.ofChange cborEndlessSpec)) cborEndlessCard

/-- THE SECOND FORM's CARD OF 'entrepotlaw8.CborParts'. -/
def cborPartsUptoCard : Claim7 := { stood := { row := cborPartsUptoRow, standIns := [], harness := (true, "3920b65e9701c01271409db5f4f56ce51716c900d5c530520b5324cf8adca065"), looks := false }, kinds := [], alts := [], laidByText := true, laidKinds := [.data, .data, .pinned], laidTests := true, laidLooks := .later }
def CborPartsUptoCardSaid : Prop := Claim7.holds Tryz.pinned (.plain (OpenSpec.upto cborPartsSpec)) cborPartsUptoCard

/-- THE SECOND FORM's CARD OF 'entrepotlaw8.CborWrites'. -/
def cborWritesUptoCard : Claim7 := { stood := { row := cborWritesUptoRow, standIns := [], harness := (true, "3920b65e9701c01271409db5f4f56ce51716c900d5c530520b5324cf8adca065"), looks := false }, kinds := [], alts := [], laidByText := true, laidKinds := [.data, .data, .pinned], laidTests := true, laidLooks := .later }
def CborWritesUptoCardSaid : Prop := Claim7.holds Tryz.pinned (.plain (OpenSpec.upto cborWritesSpec)) cborWritesUptoCard

/-- THE SECOND FORM's CARD OF 'entrepotlaw8.CborKeys'. -/
def cborKeysUptoCard : Claim7 := { stood := { row := cborKeysUptoRow, standIns := [], harness := (true, "3920b65e9701c01271409db5f4f56ce51716c900d5c530520b5324cf8adca065"), looks := false }, kinds := [], alts := [], laidByText := true, laidKinds := [.data, .data, .pinned], laidTests := true, laidLooks := .later }
def CborKeysUptoCardSaid : Prop := Claim7.holds Tryz.pinned (.plain (OpenSpec.upto cborKeysSpec)) cborKeysUptoCard

/-- THE SECOND FORM's CARD OF 'entrepotlaw8.CborEndless'. -/
def cborEndlessUptoCard : Claim7 := { stood := { row := cborEndlessUptoRow, standIns := [], harness := (true, "3920b65e9701c01271409db5f4f56ce51716c900d5c530520b5324cf8adca065"), looks := false }, kinds := [], alts := [], laidByText := true, laidKinds := [.data, .data, .pinned], laidTests := true, laidLooks := .later }
def CborEndlessUptoCardSaid : Prop := Claim7.holds Tryz.pinned (.plain (OpenSpec.upto cborEndlessSpec)) cborEndlessUptoCard
end Rows
end Go.Proofs.YtfaaagmjmljhiaaGreatDoor
