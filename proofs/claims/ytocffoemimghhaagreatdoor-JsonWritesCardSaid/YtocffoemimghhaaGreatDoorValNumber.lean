/-
  value.Number: the contract.
-/
import Derived.Test.YtocffoemimghhaaGreatDoorValIn
namespace Go.Proofs.YtocffoemimghhaaGreatDoor
open Go.RowKit Go.Shelf

end Go.Proofs.YtocffoemimghhaaGreatDoor
