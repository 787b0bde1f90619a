/-
  entrepotlaw7.JsonDeep answers true for every number, for arrays and for objects, whole and cut off, and its arguments read afterwards as before; of the seven listed variables four tables and two errors are tied to the program's text and one table is pinned. The closed facts, one by one.
-/
import Derived.Test.YtocffoemimghhaaGreatDoorJsRow
import Derived.Test.YtocffoemimghhaaGreatDoorCards
import Derived.Test.YtocffoemimghhaaGreatDoorTie
import Derived.SevenTiedAt
namespace Go.Proofs.YtocffoemimghhaaGreatDoor.jsonDeep
open Go.ChangeShapes Go.WideShapes Go.ChangeAt Go.RowKit
theorem and_mk {a b : Bool} (h1 : a = true) (h2 : b = true) : (a && b) = true := by subst h1; subst h2; rfl
set_option maxRecDepth 100000 in
set_option maxHeartbeats 400000000 in
theorem closed : joinedFacts Tryz.pinned.checked.prog 5 Tryz.f5 Rows.jsonDeepSpec Rows.jsonDeepRow = true := by
  unfold joinedFacts
  repeat' (with_reducible refine and_mk ?_ ?_)
  all_goals (as_aux_lemma => kernel_rfl)
end Go.Proofs.YtocffoemimghhaaGreatDoor.jsonDeep
