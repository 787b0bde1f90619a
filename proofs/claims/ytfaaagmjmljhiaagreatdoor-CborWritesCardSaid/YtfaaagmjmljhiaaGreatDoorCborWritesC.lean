/-
  entrepotlaw8.CborWrites answers true for every value of this program, at every door whose tables lie as listed: three listed tables, the third is pinned. The closed facts, one by one.
-/
import Derived.Test.YtfaaagmjmljhiaaGreatDoorCbRow
import Derived.Test.YtfaaagmjmljhiaaGreatDoorCards
import Derived.Test.YtfaaagmjmljhiaaGreatDoorTie
import Derived.SevenTiedAt
namespace Go.Proofs.YtfaaagmjmljhiaaGreatDoor.cborWrites
open Go.ChangeShapes Go.WideShapes Go.ChangeAt Go.RowKit
theorem and_mk {a b : Bool} (h1 : a = true) (h2 : b = true) : (a && b) = true := by subst h1; subst h2; rfl
set_option maxRecDepth 100000 in
set_option maxHeartbeats 400000000 in
theorem closed : joinedFacts Tryz.pinned.checked.prog 4 Tryz.f4 Rows.cborWritesSpec Rows.cborWritesRow = true := by
  unfold joinedFacts
  repeat' (with_reducible refine and_mk ?_ ?_)
  all_goals (as_aux_lemma => kernel_rfl)
end Go.Proofs.YtfaaagmjmljhiaaGreatDoor.cborWrites
