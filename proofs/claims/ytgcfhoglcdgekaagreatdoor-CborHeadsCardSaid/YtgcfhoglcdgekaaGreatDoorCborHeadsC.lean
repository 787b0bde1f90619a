/-
  entrepotlaw8.CborHeads: the row and the card. The closed facts, one by one.
-/
import Derived.Test.YtgcfhoglcdgekaaGreatDoorCbRow
import Derived.Test.YtgcfhoglcdgekaaGreatDoorCards
import Derived.Test.YtgcfhoglcdgekaaGreatDoorTie
import Derived.SevenTiedAt
namespace Go.Proofs.YtgcfhoglcdgekaaGreatDoor.cborHeads
open Go.ChangeShapes Go.WideShapes Go.ChangeAt Go.RowKit
theorem and_mk {a b : Bool} (h1 : a = true) (h2 : b = true) : (a && b) = true := by subst h1; subst h2; rfl
set_option maxRecDepth 100000 in
set_option maxHeartbeats 400000000 in
theorem closed : joinedFacts Tryz.pinned.checked.prog 3 Tryz.f3 Rows.cborHeadsSpec Rows.cborHeadsRow = true := by
  unfold joinedFacts
  repeat' (with_reducible refine and_mk ?_ ?_)
  all_goals (as_aux_lemma => kernel_rfl)
end Go.Proofs.YtgcfhoglcdgekaaGreatDoor.cborHeads
