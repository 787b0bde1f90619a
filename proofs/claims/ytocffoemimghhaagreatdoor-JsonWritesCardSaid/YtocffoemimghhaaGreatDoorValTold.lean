/-
  entrepotlaw6.told answers true, wherever the table of package math/bits lies.
-/
import Derived.Test.YtocffoemimghhaaGreatDoorValNumber
import Derived.Test.YtocffoemimghhaaGreatDoorValLoops
import Derived.Test.YtocffoemimghhaaGreatDoorShelf
namespace Go.Proofs.YtocffoemimghhaaGreatDoor
open Go.RowKit Go.Shelf
attribute [local go_sem ↓] eql_nat neq_nat eql_int5 neq_int5

/-- A value of a kind and a number alone. -/
def leafT (k : Int) (x : Nat) : VT := .mk ⟨k, false, x, 0, ⟨#[]⟩, none, 0, none, 0, []⟩ []
end Go.Proofs.YtocffoemimghhaaGreatDoor
