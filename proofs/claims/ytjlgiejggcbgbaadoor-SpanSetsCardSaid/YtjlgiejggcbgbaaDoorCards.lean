/-
  DERIVED. GIVEN WITH THE SEED: THE CARDS: each row of YtjlgiejggcbgbaaDoorRows.lean that lists a variable, with what it lists TIED to the program's text (the seventh form; the later family's looks); each row that meets fmt, with fmt's text TOLD by the authors' own Lean function (tested against real Go, not proved from fmt's source: count such statements apart). THE CARD IS WHAT COUNTS. Prove the row's statement (the work); the ties are given (YtjlgiejggcbgbaaDoorTie.lean); close each card by the builder's one call (the guide's Derived/Test/ToyasCard.lean, 'card_holds'). Laid BY PROGRAM, IN A SANDBOX (cutbox-door.mjs). By AI agents, Wed Nov 11 2026. No macro, syntax, notation, axiom, sorry.
-/
import Derived.Test.YtjlgiejggcbgbaaDoorRows
import GoSem.ClaimSeven
namespace Go.Proofs.YtjlgiejggcbgbaaDoor
namespace Rows

/-- THE TIED CARD OF 'entrepotlaw9.SpanSets'. -/
def spanSetsCard : Claim7 := { stood := { row := spanSetsRow, standIns := [], harness := (true, "0500d0610d887a6d8feeb2cf8351c150d4e7292014b2ca341d15276d6e7d1297"), looks := false }, kinds := [], alts := [], laidByText := true, laidKinds := [.data], laidTests := true, laidLooks := .later }
def SpanSetsCardSaid : Prop := Claim7.holds Tryd.pinned (.plain (OpenSpec.ofChange spanSetsSpec)) spanSetsCard

/-- THE SECOND FORM's CARD OF 'entrepotlaw9.SpanSets'. -/
def spanSetsUptoCard : Claim7 := { stood := { row := spanSetsUptoRow, standIns := [], harness := (true, "0500d0610d887a6d8feeb2cf8351c150d4e7292014b2ca341d15276d6e7d1297"), looks := false }, kinds := [], alts := [], laidByText := true, laidKinds := [.data], laidTests := true, laidLooks := .later }
def SpanSetsUptoCardSaid : Prop := Claim7.holds Tryd.pinned (.plain (OpenSpec.upto spanSetsSpec)) spanSetsUptoCard
end Rows
end Go.Proofs.YtjlgiejggcbgbaaDoor
