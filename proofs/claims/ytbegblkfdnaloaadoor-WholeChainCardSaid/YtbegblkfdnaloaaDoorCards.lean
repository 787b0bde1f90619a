/-
  DERIVED. GIVEN WITH THE SEED: THE CARDS: each row of YtbegblkfdnaloaaDoorRows.lean that lists a variable, with what it lists TIED to the program's text (the seventh form; the later family's looks); each row that meets fmt, with fmt's text TOLD by the authors' own Lean function (tested against real Go, not proved from fmt's source: count such statements apart). THE CARD IS WHAT COUNTS. Prove the row's statement (the work); the ties are given (YtbegblkfdnaloaaDoorTie.lean); close each card by the builder's one call (the guide's Derived/Test/ToyasCard.lean, 'card_holds'). Laid BY PROGRAM, IN A SANDBOX (cutbox-door.mjs). By AI agents, Wed Nov 11 2026. No macro, syntax, notation, axiom, sorry.
-/
import Derived.Test.YtbegblkfdnaloaaDoorRows
import GoSem.ClaimSeven
namespace Go.Proofs.YtbegblkfdnaloaaDoor
namespace Rows

/-- THE TIED CARD OF 'entrepotlaw1.NatSums'. -/
def natSumsCard : Claim7 := { stood := { row := natSumsRow, standIns := [], harness := (true, "e861d174c6fdaa0996a291aaad748beea759eceee93539940ee928368ff86380"), looks := false }, kinds := [], alts := [], laidByText := true, laidKinds := [.data, .data, .data], laidTests := true, laidLooks := .later }
def NatSumsCardSaid : Prop := Claim7.holds Tryd.pinned (.plain (OpenSpec.ofChange natSumsSpec)) natSumsCard

/-- THE TIED CARD OF 'entrepotlaw1.NatDivs'. -/
def natDivsCard : Claim7 := { stood := { row := natDivsRow, standIns := [], harness := (true, "e861d174c6fdaa0996a291aaad748beea759eceee93539940ee928368ff86380"), looks := false }, kinds := [], alts := [], laidByText := true, laidKinds := [.data, .data, .data], laidTests := true, laidLooks := .later }
def NatDivsCardSaid : Prop := Claim7.holds Tryd.pinned (.plain (OpenSpec.ofChange natDivsSpec)) natDivsCard

/-- THE TIED CARD OF 'entrepotlaw1.NatBits'. -/
def natBitsCard : Claim7 := { stood := { row := natBitsRow, standIns := [], harness := (true, "e861d174c6fdaa0996a291aaad748beea759eceee93539940ee928368ff86380"), looks := false }, kinds := [], alts := [], laidByText := true, laidKinds := [.data, .data, .data], laidTests := true, laidLooks := .later }
def NatBitsCardSaid : Prop := Claim7.holds Tryd.pinned (.plain (OpenSpec.ofChange natBitsSpec)) natBitsCard

/-- THE TIED CARD OF 'entrepotlaw1.NatTexts'. -/
def natTextsCard : Claim7 := { stood := { row := natTextsRow, standIns := [], harness := (true, "e861d174c6fdaa0996a291aaad748beea759eceee93539940ee928368ff86380"), looks := false }, kinds := [], alts := [], laidByText := true, laidKinds := [.data, .data, .data], laidTests := true, laidLooks := .later }
def NatTextsCardSaid : Prop := Claim7.holds Tryd.pinned (.plain (OpenSpec.ofChange natTextsSpec)) natTextsCard

/-- THE TIED CARD OF 'entrepotlaw1.NatLaws'. -/
def natLawsCard : Claim7 := { stood := { row := natLawsRow, standIns := [], harness := (true, "e861d174c6fdaa0996a291aaad748beea759eceee93539940ee928368ff86380"), looks := false }, kinds := [], alts := [], laidByText := true, laidKinds := [.data, .data, .data], laidTests := true, laidLooks := .later }
def NatLawsCardSaid : Prop := Claim7.holds Tryd.pinned (.plain (OpenSpec.ofChange natLawsSpec)) natLawsCard

/-- THE TIED CARD OF 'entrepotlaw1.NatTimes'. -/
def natTimesCard : Claim7 := { stood := { row := natTimesRow, standIns := [], harness := (true, "e861d174c6fdaa0996a291aaad748beea759eceee93539940ee928368ff86380"), looks := false }, kinds := [], alts := [], laidByText := true, laidKinds := [.data, .data, .data], laidTests := true, laidLooks := .later }
def NatTimesCardSaid : Prop := Claim7.holds Tryd.pinned (.plain (OpenSpec.ofChange natTimesSpec)) natTimesCard

/-- THE TIED CARD OF 'entrepotlaw2.WholeNumbers'. -/
def wholeNumbersCard : Claim7 := { stood := { row := wholeNumbersRow, standIns := [], harness := (true, "e861d174c6fdaa0996a291aaad748beea759eceee93539940ee928368ff86380"), looks := false }, kinds := [], alts := [], laidByText := true, laidKinds := [.data, .data, .data], laidTests := true, laidLooks := .later }
def WholeNumbersCardSaid : Prop := Claim7.holds Tryd.pinned (.plain (OpenSpec.ofChange wholeNumbersSpec)) wholeNumbersCard

/-- THE TIED CARD OF 'entrepotlaw2.WholeTexts'. -/
def wholeTextsCard : Claim7 := { stood := { row := wholeTextsRow, standIns := [], harness := (true, "e861d174c6fdaa0996a291aaad748beea759eceee93539940ee928368ff86380"), looks := false }, kinds := [], alts := [], laidByText := true, laidKinds := [.data, .data, .data], laidTests := true, laidLooks := .later }
def WholeTextsCardSaid : Prop := Claim7.holds Tryd.pinned (.plain (OpenSpec.ofChange wholeTextsSpec)) wholeTextsCard

/-- THE TIED CARD OF 'entrepotlaw2.WholeExact'. -/
def wholeExactCard : Claim7 := { stood := { row := wholeExactRow, standIns := [], harness := (true, "e861d174c6fdaa0996a291aaad748beea759eceee93539940ee928368ff86380"), looks := false }, kinds := [], alts := [], laidByText := true, laidKinds := [.data, .data, .data], laidTests := true, laidLooks := .later }
def WholeExactCardSaid : Prop := Claim7.holds Tryd.pinned (.plain (OpenSpec.ofChange wholeExactSpec)) wholeExactCard

/-- THE TIED CARD OF 'entrepotlaw2.WholeNear'. -/
def wholeNearCard : Claim7 := { stood := { row := wholeNearRow, standIns := [], harness := (true, "e861d174c6fdaa0996a291aaad748beea759eceee93539940ee928368ff86380"), looks := false }, kinds := [], alts := [], laidByText := true, laidKinds := [.data, .data, .data], laidTests := true, laidLooks := .later }
def WholeNearCardSaid : Prop := Claim7.holds Tryd.pinned (.plain (OpenSpec.ofChange wholeNearSpec)) wholeNearCard

/-- THE TIED CARD OF 'entrepotlaw2.WholeSteps'. -/
def wholeStepsCard : Claim7 := { stood := { row := wholeStepsRow, standIns := [], harness := (true, "e861d174c6fdaa0996a291aaad748beea759eceee93539940ee928368ff86380"), looks := false }, kinds := [], alts := [], laidByText := true, laidKinds := [.data, .data, .data], laidTests := true, laidLooks := .later }
def WholeStepsCardSaid : Prop := Claim7.holds Tryd.pinned (.plain (OpenSpec.ofChange wholeStepsSpec)) wholeStepsCard

/-- THE TIED CARD OF 'entrepotlaw2.WholeBits'. -/
def wholeBitsCard : Claim7 := { stood := { row := wholeBitsRow, standIns := [], harness := (true, "e861d174c6fdaa0996a291aaad748beea759eceee93539940ee928368ff86380"), looks := false }, kinds := [], alts := [], laidByText := true, laidKinds := [.data, .data, .data], laidTests := true, laidLooks := .later }
def WholeBitsCardSaid : Prop := Claim7.holds Tryd.pinned (.plain (OpenSpec.ofChange wholeBitsSpec)) wholeBitsCard

/-- THE TIED CARD OF 'entrepotlaw2.WholePowers'. -/
def wholePowersCard : Claim7 := { stood := { row := wholePowersRow, standIns := [], harness := (true, "e861d174c6fdaa0996a291aaad748beea759eceee93539940ee928368ff86380"), looks := false }, kinds := [], alts := [], laidByText := true, laidKinds := [.data, .data, .data], laidTests := true, laidLooks := .later }
def WholePowersCardSaid : Prop := Claim7.holds Tryd.pinned (.plain (OpenSpec.ofChange wholePowersSpec)) wholePowersCard

/-- THE TIED CARD OF 'entrepotlaw2.WholeChain'. -/
def wholeChainCard : Claim7 := { stood := { row := wholeChainRow, standIns := [], harness := (true, "e861d174c6fdaa0996a291aaad748beea759eceee93539940ee928368ff86380"), looks := false }, kinds := [], alts := [], laidByText := true, laidKinds := [.data, .data, .data], laidTests := true, laidLooks := .later }
def WholeChainCardSaid : Prop := Claim7.holds Tryd.pinned (.plain (OpenSpec.ofChange wholeChainSpec)) wholeChainCard

/-- THE SECOND FORM's CARD OF 'entrepotlaw1.NatSums'. -/
def natSumsUptoCard : Claim7 := { stood := { row := natSumsUptoRow, standIns := [], harness := (true, "e861d174c6fdaa0996a291aaad748beea759eceee93539940ee928368ff86380"), looks := false }, kinds := [], alts := [], laidByText := true, laidKinds := [.data, .data, .data], laidTests := true, laidLooks := .later }
def NatSumsUptoCardSaid : Prop := Claim7.holds Tryd.pinned (.plain (OpenSpec.upto natSumsSpec)) natSumsUptoCard

/-- THE SECOND FORM's CARD OF 'entrepotlaw1.NatDivs'. -/
def natDivsUptoCard : Claim7 := { stood := { row := natDivsUptoRow, standIns := [], harness := (true, "e861d174c6fdaa0996a291aaad748beea759eceee93539940ee928368ff86380"), looks := false }, kinds := [], alts := [], laidByText := true, laidKinds := [.data, .data, .data], laidTests := true, laidLooks := .later }
def NatDivsUptoCardSaid : Prop := Claim7.holds Tryd.pinned (.plain (OpenSpec.upto natDivsSpec)) natDivsUptoCard

/-- THE SECOND FORM's CARD OF 'entrepotlaw1.NatBits'. -/
def natBitsUptoCard : Claim7 := { stood := { row := natBitsUptoRow, standIns := [], harness := (true, "e861d174c6fdaa0996a291aaad748beea759eceee93539940ee928368ff86380"), looks := false }, kinds := [], alts := [], laidByText := true, laidKinds := [.data, .data, .data], laidTests := true, laidLooks := .later }
def NatBitsUptoCardSaid : Prop := Claim7.holds Tryd.pinned (.plain (OpenSpec.upto natBitsSpec)) natBitsUptoCard

/-- THE SECOND FORM's CARD OF 'entrepotlaw1.NatTexts'. -/
def natTextsUptoCard : Claim7 := { stood := { row := natTextsUptoRow, standIns := [], harness := (true, "e861d174c6fdaa0996a291aaad748beea759eceee93539940ee928368ff86380"), looks := false }, kinds := [], alts := [], laidByText := true, laidKinds := [.data, .data, .data], laidTests := true, laidLooks := .later }
def NatTextsUptoCardSaid : Prop := Claim7.holds Tryd.pinned (.plain (OpenSpec.upto natTextsSpec)) natTextsUptoCard

/-- THE SECOND FORM's CARD OF 'entrepotlaw1.NatLaws'. -/
def natLawsUptoCard : Claim7 := { stood := { row := natLawsUptoRow, standIns := [], harness := (true, "e861d174c6fdaa0996a291aaad748beea759eceee93539940ee928368ff86380"), looks := false }, kinds := [], alts := [], laidByText := true, laidKinds := [.data, .data, .data], laidTests := true, laidLooks := .later }
def NatLawsUptoCardSaid : Prop := Claim7.holds Tryd.pinned (.plain (OpenSpec.upto natLawsSpec)) natLawsUptoCard

/-- THE SECOND FORM's CARD OF 'entrepotlaw1.NatTimes'. -/
def natTimesUptoCard : Claim7 := { stood := { row := natTimesUptoRow, standIns := [], harness := (true, "e861d174c6fdaa0996a291aaad748beea759eceee93539940ee928368ff86380"), looks := false }, kinds := [], alts := [], laidByText := true, laidKinds := [.data, .data, .data], laidTests := true, laidLooks := .later }
def NatTimesUptoCardSaid : Prop := Claim7.holds Tryd.pinned (.plain (OpenSpec.upto natTimesSpec)) natTimesUptoCard

/-- THE SECOND FORM's CARD OF 'entrepotlaw2.WholeNumbers'. -/
def wholeNumbersUptoCard : Claim7 := { stood := { row := wholeNumbersUptoRow, standIns := [], harness := (true, "e861d174c6fdaa0996a291aaad748beea759eceee93539940ee928368ff86380"), looks := false }, kinds := [], alts := [], laidByText := true, laidKinds := [.data, .data, .data], laidTests := true, laidLooks := .later }
def WholeNumbersUptoCardSaid : Prop := Claim7.holds Tryd.pinned (.plain (OpenSpec.upto wholeNumbersSpec)) wholeNumbersUptoCard

/-- THE SECOND FORM's CARD OF 'entrepotlaw2.WholeTexts'. -/
def wholeTextsUptoCard : Claim7 := { stood := { row := wholeTextsUptoRow, standIns := [], harness := (true, "e861d174c6fdaa0996a291aaad748beea759eceee93539940ee928368ff86380"), looks := false }, kinds := [], alts := [], laidByText := true, laidKinds := [.data, .data, .data], laidTests := true, laidLooks := .later }
def WholeTextsUptoCardSaid : Prop := Claim7.holds Tryd.pinned (.plain (OpenSpec.upto wholeTextsSpec)) wholeTextsUptoCard

/-- THE SECOND FORM's CARD OF 'entrepotlaw2.WholeExact'. -/
def wholeExactUptoCard : Claim7 := { stood := { row := wholeExactUptoRow, standIns := [], harness := (true, "e861d174c6fdaa0996a291aaad748beea759eceee93539940ee928368ff86380"), looks := false }, kinds := [], alts := [], laidByText := true, laidKinds := [.data, .data, .data], laidTests := true, laidLooks := .later }
def WholeExactUptoCardSaid : Prop := Claim7.holds Tryd.pinned (.plain (OpenSpec.upto wholeExactSpec)) wholeExactUptoCard

/-- THE SECOND FORM's CARD OF 'entrepotlaw2.WholeNear'. -/
def wholeNearUptoCard : Claim7 := { stood := { row := wholeNearUptoRow, standIns := [], harness := (true, "e861d174c6fdaa0996a291aaad748beea759eceee93539940ee928368ff86380"), looks := false }, kinds := [], alts := [], laidByText := true, laidKinds := [.data, .data, .data], laidTests := true, laidLooks := .later }
def WholeNearUptoCardSaid : Prop := Claim7.holds Tryd.pinned (.plain (OpenSpec.upto wholeNearSpec)) wholeNearUptoCard

/-- THE SECOND FORM's CARD OF 'entrepotlaw2.WholeSteps'. -/
def wholeStepsUptoCard : Claim7 := { stood := { row := wholeStepsUptoRow, standIns := [], harness := (true, "e861d174c6fdaa0996a291aaad748beea759eceee93539940ee928368ff86380"), looks := false }, kinds := [], alts := [], laidByText := true, laidKinds := [.data, .data, .data], laidTests := true, laidLooks := .later }
def WholeStepsUptoCardSaid : Prop := Claim7.holds Tryd.pinned (.plain (OpenSpec.upto wholeStepsSpec)) wholeStepsUptoCard

/-- THE SECOND FORM's CARD OF 'entrepotlaw2.WholeBits'. -/
def wholeBitsUptoCard : Claim7 := { stood := { row := wholeBitsUptoRow, standIns := [], harness := (true, "e861d174c6fdaa0996a291aaad748beea759eceee93539940ee928368ff86380"), looks := false }, kinds := [], alts := [], laidByText := true, laidKinds := [.data, .data, .data], laidTests := true, laidLooks := .later }
def WholeBitsUptoCardSaid : Prop := Claim7.holds Tryd.pinned (.plain (OpenSpec.upto wholeBitsSpec)) wholeBitsUptoCard

/-- THE SECOND FORM's CARD OF 'entrepotlaw2.WholePowers'. -/
def wholePowersUptoCard : Claim7 := { stood := { row := wholePowersUptoRow, standIns := [], harness := (true, "e861d174c6fdaa0996a291aaad748beea759eceee93539940ee928368ff86380"), looks := false }, kinds := [], alts := [], laidByText := true, laidKinds := [.data, .data, .data], laidTests := true, laidLooks := .later }
def WholePowersUptoCardSaid : Prop := Claim7.holds Tryd.pinned (.plain (OpenSpec.upto wholePowersSpec)) wholePowersUptoCard

/-- THE SECOND FORM's CARD OF 'entrepotlaw2.WholeChain'. -/
def wholeChainUptoCard : Claim7 := { stood := { row := wholeChainUptoRow, standIns := [], harness := (true, "e861d174c6fdaa0996a291aaad748beea759eceee93539940ee928368ff86380"), looks := false }, kinds := [], alts := [], laidByText := true, laidKinds := [.data, .data, .data], laidTests := true, laidLooks := .later }
def WholeChainUptoCardSaid : Prop := Claim7.holds Tryd.pinned (.plain (OpenSpec.upto wholeChainSpec)) wholeChainUptoCard
end Rows
end Go.Proofs.YtbegblkfdnaloaaDoor
