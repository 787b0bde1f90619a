/-
  value.Number: the contract.
-/
import Derived.Test.YtbfgkogccfioiaaGreatDoorValIn
namespace Go.Proofs.YtbfgkogccfioiaaGreatDoor
open Go.RowKit Go.Shelf

end Go.Proofs.YtbfgkogccfioiaaGreatDoor
