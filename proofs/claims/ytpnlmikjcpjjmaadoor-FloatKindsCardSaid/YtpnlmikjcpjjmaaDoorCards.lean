/-
  DERIVED. GIVEN WITH THE SEED: THE CARDS: each row of YtpnlmikjcpjjmaaDoorRows.lean that lists a variable, with what it lists TIED to the program's text (the seventh form; the later family's looks); each row that meets fmt, with fmt's text TOLD by the authors' own Lean function (tested against real Go, not proved from fmt's source: count such statements apart). THE CARD IS WHAT COUNTS. Prove the row's statement (the work); the ties are given (YtpnlmikjcpjjmaaDoorTie.lean); close each card by the builder's one call (the guide's Derived/Test/ToyasCard.lean, 'card_holds'). Laid BY PROGRAM, IN A SANDBOX (cutbox-door.mjs). By AI agents, Wed Nov 11 2026. No macro, syntax, notation, axiom, sorry.
-/
import Derived.Test.YtpnlmikjcpjjmaaDoorRows
import GoSem.ClaimSeven
namespace Go.Proofs.YtpnlmikjcpjjmaaDoor
namespace Rows

/-- THE TIED CARD OF 'entrepotlaw1.NatSums'. -/
def natSumsCard : Claim7 := { stood := { row := natSumsRow, standIns := [], harness := (true, "8697cfda2045419ef3d27518a7d1c7d600ff197afd5f58c2a77479f7cd3abe8c"), looks := false }, kinds := [], alts := [], laidByText := true, laidKinds := [.data, .data, .data], laidTests := true, laidLooks := .later }
def NatSumsCardSaid : Prop := Claim7.holds Tryd.pinned (.plain (OpenSpec.ofChange natSumsSpec)) natSumsCard

/-- THE TIED CARD OF 'entrepotlaw1.NatDivs'. -/
def natDivsCard : Claim7 := { stood := { row := natDivsRow, standIns := [], harness := (true, "8697cfda2045419ef3d27518a7d1c7d600ff197afd5f58c2a77479f7cd3abe8c"), looks := false }, kinds := [], alts := [], laidByText := true, laidKinds := [.data, .data, .data], laidTests := true, laidLooks := .later }
def NatDivsCardSaid : Prop := Claim7.holds Tryd.pinned (.plain (OpenSpec.ofChange natDivsSpec)) natDivsCard

/-- THE TIED CARD OF 'entrepotlaw1.NatBits'. -/
def natBitsCard : Claim7 := { stood := { row := natBitsRow, standIns := [], harness := (true, "8697cfda2045419ef3d27518a7d1c7d600ff197afd5f58c2a77479f7cd3abe8c"), looks := false }, kinds := [], alts := [], laidByText := true, laidKinds := [.data, .data, .data], laidTests := true, laidLooks := .later }
def NatBitsCardSaid : Prop := Claim7.holds Tryd.pinned (.plain (OpenSpec.ofChange natBitsSpec)) natBitsCard

/-- THE TIED CARD OF 'entrepotlaw1.NatTexts'. -/
def natTextsCard : Claim7 := { stood := { row := natTextsRow, standIns := [], harness := (true, "8697cfda2045419ef3d27518a7d1c7d600ff197afd5f58c2a77479f7cd3abe8c"), looks := false }, kinds := [], alts := [], laidByText := true, laidKinds := [.data, .data, .data], laidTests := true, laidLooks := .later }
def NatTextsCardSaid : Prop := Claim7.holds Tryd.pinned (.plain (OpenSpec.ofChange natTextsSpec)) natTextsCard

/-- THE TIED CARD OF 'entrepotlaw2.WholeNumbers'. -/
def wholeNumbersCard : Claim7 := { stood := { row := wholeNumbersRow, standIns := [], harness := (true, "8697cfda2045419ef3d27518a7d1c7d600ff197afd5f58c2a77479f7cd3abe8c"), looks := false }, kinds := [], alts := [], laidByText := true, laidKinds := [.data, .data, .data], laidTests := true, laidLooks := .later }
def WholeNumbersCardSaid : Prop := Claim7.holds Tryd.pinned (.plain (OpenSpec.ofChange wholeNumbersSpec)) wholeNumbersCard

/-- THE TIED CARD OF 'entrepotlaw2.WholeTexts'. -/
def wholeTextsCard : Claim7 := { stood := { row := wholeTextsRow, standIns := [], harness := (true, "8697cfda2045419ef3d27518a7d1c7d600ff197afd5f58c2a77479f7cd3abe8c"), looks := false }, kinds := [], alts := [], laidByText := true, laidKinds := [.data, .data, .data], laidTests := true, laidLooks := .later }
def WholeTextsCardSaid : Prop := Claim7.holds Tryd.pinned (.plain (OpenSpec.ofChange wholeTextsSpec)) wholeTextsCard

/-- THE TIED CARD OF 'entrepotlaw2.WholeExact'. -/
def wholeExactCard : Claim7 := { stood := { row := wholeExactRow, standIns := [], harness := (true, "8697cfda2045419ef3d27518a7d1c7d600ff197afd5f58c2a77479f7cd3abe8c"), looks := false }, kinds := [], alts := [], laidByText := true, laidKinds := [.data, .data, .data], laidTests := true, laidLooks := .later }
def WholeExactCardSaid : Prop := Claim7.holds Tryd.pinned (.plain (OpenSpec.ofChange wholeExactSpec)) wholeExactCard

/-- THE TIED CARD OF 'entrepotlaw3.FloatKinds'. -/
def floatKindsCard : Claim7 := { stood := { row := floatKindsRow, standIns := [], harness := (true, "8697cfda2045419ef3d27518a7d1c7d600ff197afd5f58c2a77479f7cd3abe8c"), looks := false }, kinds := [], alts := [], laidByText := true, laidKinds := [.data], laidTests := true, laidLooks := .later }
def FloatKindsCardSaid : Prop := Claim7.holds Tryd.pinned (.plain (OpenSpec.ofChange floatKindsSpec)) floatKindsCard

/-- THE TIED CARD OF 'entrepotlaw3.FloatWidths'. -/
def floatWidthsCard : Claim7 := { stood := { row := floatWidthsRow, standIns := [], harness := (true, "8697cfda2045419ef3d27518a7d1c7d600ff197afd5f58c2a77479f7cd3abe8c"), looks := false }, kinds := [], alts := [], laidByText := true, laidKinds := [.data], laidTests := true, laidLooks := .later }
def FloatWidthsCardSaid : Prop := Claim7.holds Tryd.pinned (.plain (OpenSpec.ofChange floatWidthsSpec)) floatWidthsCard

/-- THE TIED CARD OF 'entrepotlaw3.FloatBack'. -/
def floatBackCard : Claim7 := { stood := { row := floatBackRow, standIns := [], harness := (true, "8697cfda2045419ef3d27518a7d1c7d600ff197afd5f58c2a77479f7cd3abe8c"), looks := false }, kinds := [], alts := [], laidByText := true, laidKinds := [.data], laidTests := true, laidLooks := .later }
def FloatBackCardSaid : Prop := Claim7.holds Tryd.pinned (.plain (OpenSpec.ofChange floatBackSpec)) floatBackCard

/-- THE TIED CARD OF 'entrepotlaw3.FloatWholes'. -/
def floatWholesCard : Claim7 := { stood := { row := floatWholesRow, standIns := [], harness := (true, "8697cfda2045419ef3d27518a7d1c7d600ff197afd5f58c2a77479f7cd3abe8c"), looks := false }, kinds := [], alts := [], laidByText := true, laidKinds := [.data], laidTests := true, laidLooks := .later }
def FloatWholesCardSaid : Prop := Claim7.holds Tryd.pinned (.plain (OpenSpec.ofChange floatWholesSpec)) floatWholesCard

/-- THE TIED CARD OF 'entrepotlaw3.FloatSigns'. -/
def floatSignsCard : Claim7 := { stood := { row := floatSignsRow, standIns := [], harness := (true, "8697cfda2045419ef3d27518a7d1c7d600ff197afd5f58c2a77479f7cd3abe8c"), looks := false }, kinds := [], alts := [], laidByText := true, laidKinds := [.data], laidTests := true, laidLooks := .later }
def FloatSignsCardSaid : Prop := Claim7.holds Tryd.pinned (.plain (OpenSpec.ofChange floatSignsSpec)) floatSignsCard

/-- THE TIED CARD OF 'entrepotlaw3.FloatPowers'. -/
def floatPowersCard : Claim7 := { stood := { row := floatPowersRow, standIns := [], harness := (true, "8697cfda2045419ef3d27518a7d1c7d600ff197afd5f58c2a77479f7cd3abe8c"), looks := false }, kinds := [], alts := [], laidByText := true, laidKinds := [.data], laidTests := true, laidLooks := .later }
def FloatPowersCardSaid : Prop := Claim7.holds Tryd.pinned (.plain (OpenSpec.ofChange floatPowersSpec)) floatPowersCard

/-- THE TIED CARD OF 'entrepotlaw3.FloatNaNs'. -/
def floatNaNsCard : Claim7 := { stood := { row := floatNaNsRow, standIns := [], harness := (true, "8697cfda2045419ef3d27518a7d1c7d600ff197afd5f58c2a77479f7cd3abe8c"), looks := false }, kinds := [], alts := [], laidByText := true, laidKinds := [.data], laidTests := true, laidLooks := .later }
def FloatNaNsCardSaid : Prop := Claim7.holds Tryd.pinned (.plain (OpenSpec.ofChange floatNaNsSpec)) floatNaNsCard

/-- THE TIED CARD OF 'entrepotlaw3.FloatHalves'. -/
def floatHalvesCard : Claim7 := { stood := { row := floatHalvesRow, standIns := [], harness := (true, "8697cfda2045419ef3d27518a7d1c7d600ff197afd5f58c2a77479f7cd3abe8c"), looks := false }, kinds := [], alts := [], laidByText := true, laidKinds := [.data], laidTests := true, laidLooks := .later }
def FloatHalvesCardSaid : Prop := Claim7.holds Tryd.pinned (.plain (OpenSpec.ofChange floatHalvesSpec)) floatHalvesCard

/-- THE SECOND FORM's CARD OF 'entrepotlaw1.NatSums'. -/
def natSumsUptoCard : Claim7 := { stood := { row := natSumsUptoRow, standIns := [], harness := (true, "8697cfda2045419ef3d27518a7d1c7d600ff197afd5f58c2a77479f7cd3abe8c"), looks := false }, kinds := [], alts := [], laidByText := true, laidKinds := [.data, .data, .data], laidTests := true, laidLooks := .later }
def NatSumsUptoCardSaid : Prop := Claim7.holds Tryd.pinned (.plain (OpenSpec.upto natSumsSpec)) natSumsUptoCard

/-- THE SECOND FORM's CARD OF 'entrepotlaw1.NatDivs'. -/
def natDivsUptoCard : Claim7 := { stood := { row := natDivsUptoRow, standIns := [], harness := (true, "8697cfda2045419ef3d27518a7d1c7d600ff197afd5f58c2a77479f7cd3abe8c"), looks := false }, kinds := [], alts := [], laidByText := true, laidKinds := [.data, .data, .data], laidTests := true, laidLooks := .later }
def NatDivsUptoCardSaid : Prop := Claim7.holds Tryd.pinned (.plain (OpenSpec.upto natDivsSpec)) natDivsUptoCard

/-- THE SECOND FORM's CARD OF 'entrepotlaw1.NatBits'. -/
def natBitsUptoCard : Claim7 := { stood := { row := natBitsUptoRow, standIns := [], harness := (true, "8697cfda2045419ef3d27518a7d1c7d600ff197afd5f58c2a77479f7cd3abe8c"), looks := false }, kinds := [], alts := [], laidByText := true, laidKinds := [.data, .data, .data], laidTests := true, laidLooks := .later }
def NatBitsUptoCardSaid : Prop := Claim7.holds Tryd.pinned (.plain (OpenSpec.upto natBitsSpec)) natBitsUptoCard

/-- THE SECOND FORM's CARD OF 'entrepotlaw1.NatTexts'. -/
def natTextsUptoCard : Claim7 := { stood := { row := natTextsUptoRow, standIns := [], harness := (true, "8697cfda2045419ef3d27518a7d1c7d600ff197afd5f58c2a77479f7cd3abe8c"), looks := false }, kinds := [], alts := [], laidByText := true, laidKinds := [.data, .data, .data], laidTests := true, laidLooks := .later }
def NatTextsUptoCardSaid : Prop := Claim7.holds Tryd.pinned (.plain (OpenSpec.upto natTextsSpec)) natTextsUptoCard

/-- THE SECOND FORM's CARD OF 'entrepotlaw2.WholeNumbers'. -/
def wholeNumbersUptoCard : Claim7 := { stood := { row := wholeNumbersUptoRow, standIns := [], harness := (true, "8697cfda2045419ef3d27518a7d1c7d600ff197afd5f58c2a77479f7cd3abe8c"), looks := false }, kinds := [], alts := [], laidByText := true, laidKinds := [.data, .data, .data], laidTests := true, laidLooks := .later }
def WholeNumbersUptoCardSaid : Prop := Claim7.holds Tryd.pinned (.plain (OpenSpec.upto wholeNumbersSpec)) wholeNumbersUptoCard

/-- THE SECOND FORM's CARD OF 'entrepotlaw2.WholeTexts'. -/
def wholeTextsUptoCard : Claim7 := { stood := { row := wholeTextsUptoRow, standIns := [], harness := (true, "8697cfda2045419ef3d27518a7d1c7d600ff197afd5f58c2a77479f7cd3abe8c"), looks := false }, kinds := [], alts := [], laidByText := true, laidKinds := [.data, .data, .data], laidTests := true, laidLooks := .later }
def WholeTextsUptoCardSaid : Prop := Claim7.holds Tryd.pinned (.plain (OpenSpec.upto wholeTextsSpec)) wholeTextsUptoCard

/-- THE SECOND FORM's CARD OF 'entrepotlaw2.WholeExact'. -/
def wholeExactUptoCard : Claim7 := { stood := { row := wholeExactUptoRow, standIns := [], harness := (true, "8697cfda2045419ef3d27518a7d1c7d600ff197afd5f58c2a77479f7cd3abe8c"), looks := false }, kinds := [], alts := [], laidByText := true, laidKinds := [.data, .data, .data], laidTests := true, laidLooks := .later }
def WholeExactUptoCardSaid : Prop := Claim7.holds Tryd.pinned (.plain (OpenSpec.upto wholeExactSpec)) wholeExactUptoCard

/-- THE SECOND FORM's CARD OF 'entrepotlaw3.FloatKinds'. -/
def floatKindsUptoCard : Claim7 := { stood := { row := floatKindsUptoRow, standIns := [], harness := (true, "8697cfda2045419ef3d27518a7d1c7d600ff197afd5f58c2a77479f7cd3abe8c"), looks := false }, kinds := [], alts := [], laidByText := true, laidKinds := [.data], laidTests := true, laidLooks := .later }
def FloatKindsUptoCardSaid : Prop := Claim7.holds Tryd.pinned (.plain (OpenSpec.upto floatKindsSpec)) floatKindsUptoCard

/-- THE SECOND FORM's CARD OF 'entrepotlaw3.FloatWidths'. -/
def floatWidthsUptoCard : Claim7 := { stood := { row := floatWidthsUptoRow, standIns := [], harness := (true, "8697cfda2045419ef3d27518a7d1c7d600ff197afd5f58c2a77479f7cd3abe8c"), looks := false }, kinds := [], alts := [], laidByText := true, laidKinds := [.data], laidTests := true, laidLooks := .later }
def FloatWidthsUptoCardSaid : Prop := Claim7.holds Tryd.pinned (.plain (OpenSpec.upto floatWidthsSpec)) floatWidthsUptoCard

/-- THE SECOND FORM's CARD OF 'entrepotlaw3.FloatBack'. -/
def floatBackUptoCard : Claim7 := { stood := { row := floatBackUptoRow, standIns := [], harness := (true, "8697cfda2045419ef3d27518a7d1c7d600ff197afd5f58c2a77479f7cd3abe8c"), looks := false }, kinds := [], alts := [], laidByText := true, laidKinds := [.data], laidTests := true, laidLooks := .later }
def FloatBackUptoCardSaid : Prop := Claim7.holds Tryd.pinned (.plain (OpenSpec.upto floatBackSpec)) floatBackUptoCard

/-- THE SECOND FORM's CARD OF 'entrepotlaw3.FloatWholes'. -/
def floatWholesUptoCard : Claim7 := { stood := { row := floatWholesUptoRow, standIns := [], harness := (true, "8697cfda2045419ef3d27518a7d1c7d600ff197afd5f58c2a77479f7cd3abe8c"), looks := false }, kinds := [], alts := [], laidByText := true, laidKinds := [.data], laidTests := true, laidLooks := .later }
def FloatWholesUptoCardSaid : Prop := Claim7.holds Tryd.pinned (.plain (OpenSpec.upto floatWholesSpec)) floatWholesUptoCard

/-- THE SECOND FORM's CARD OF 'entrepotlaw3.FloatSigns'. -/
def floatSignsUptoCard : Claim7 := { stood := { row := floatSignsUptoRow, standIns := [], harness := (true, "8697cfda2045419ef3d27518a7d1c7d600ff197afd5f58c2a77479f7cd3abe8c"), looks := false }, kinds := [], alts := [], laidByText := true, laidKinds := [.data], laidTests := true, laidLooks := .later }
def FloatSignsUptoCardSaid : Prop := Claim7.holds Tryd.pinned (.plain (OpenSpec.upto floatSignsSpec)) floatSignsUptoCard

/-- THE SECOND FORM's CARD OF 'entrepotlaw3.FloatPowers'. -/
def floatPowersUptoCard : Claim7 := { stood := { row := floatPowersUptoRow, standIns := [], harness := (true, "8697cfda2045419ef3d27518a7d1c7d600ff197afd5f58c2a77479f7cd3abe8c"), looks := false }, kinds := [], alts := [], laidByText := true, laidKinds := [.data], laidTests := true, laidLooks := .later }
def FloatPowersUptoCardSaid : Prop := Claim7.holds Tryd.pinned (.plain (OpenSpec.upto floatPowersSpec)) floatPowersUptoCard

/-- THE SECOND FORM's CARD OF 'entrepotlaw3.FloatNaNs'. -/
def floatNaNsUptoCard : Claim7 := { stood := { row := floatNaNsUptoRow, standIns := [], harness := (true, "8697cfda2045419ef3d27518a7d1c7d600ff197afd5f58c2a77479f7cd3abe8c"), looks := false }, kinds := [], alts := [], laidByText := true, laidKinds := [.data], laidTests := true, laidLooks := .later }
def FloatNaNsUptoCardSaid : Prop := Claim7.holds Tryd.pinned (.plain (OpenSpec.upto floatNaNsSpec)) floatNaNsUptoCard

/-- THE SECOND FORM's CARD OF 'entrepotlaw3.FloatHalves'. -/
def floatHalvesUptoCard : Claim7 := { stood := { row := floatHalvesUptoRow, standIns := [], harness := (true, "8697cfda2045419ef3d27518a7d1c7d600ff197afd5f58c2a77479f7cd3abe8c"), looks := false }, kinds := [], alts := [], laidByText := true, laidKinds := [.data], laidTests := true, laidLooks := .later }
def FloatHalvesUptoCardSaid : Prop := Claim7.holds Tryd.pinned (.plain (OpenSpec.upto floatHalvesSpec)) floatHalvesUptoCard
end Rows
end Go.Proofs.YtpnlmikjcpjjmaaDoor
