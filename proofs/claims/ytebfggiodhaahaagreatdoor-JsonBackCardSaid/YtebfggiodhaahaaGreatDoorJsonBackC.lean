/-
  What json writes of a value is read as the value; blanks between all parts turn nothing; with its end cut off, or more behind it, it is none: for any value, any blanks. The closed facts, one by one.
-/
import Derived.Test.YtebfggiodhaahaaGreatDoorJsRow
import Derived.Test.YtebfggiodhaahaaGreatDoorCards
import Derived.Test.YtebfggiodhaahaaGreatDoorTie
import Derived.SevenTiedAt
namespace Go.Proofs.YtebfggiodhaahaaGreatDoor.jsonBack
open Go.ChangeShapes Go.WideShapes Go.ChangeAt Go.RowKit
theorem and_mk {a b : Bool} (h1 : a = true) (h2 : b = true) : (a && b) = true := by subst h1; subst h2; rfl
set_option maxRecDepth 100000 in
set_option maxHeartbeats 400000000 in
theorem closed : joinedFacts Tryz.pinned.checked.prog 4 Tryz.f4 Rows.jsonBackSpec Rows.jsonBackRow = true := by
  unfold joinedFacts
  repeat' (with_reducible refine and_mk ?_ ?_)
  all_goals (as_aux_lemma => kernel_rfl)
end Go.Proofs.YtebfggiodhaahaaGreatDoor.jsonBack
