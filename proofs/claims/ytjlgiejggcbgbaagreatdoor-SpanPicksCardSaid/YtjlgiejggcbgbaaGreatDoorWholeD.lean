/-
  whole.ToInt, ToUint: the contracts, for all whole numbers of a sign and four words.
-/
import Derived.Test.YtjlgiejggcbgbaaGreatDoorWholeA
import Derived.Test.YtjlgiejggcbgbaaGreatDoorNatLen
import Derived.Lib.ItoaWalk
namespace Go.Proofs.YtjlgiejggcbgbaaGreatDoor
open Go.RowKit Go.Shelf
attribute [local go_sem ↓] eql_nat neq_nat eql_int5 neq_int5

end Go.Proofs.YtjlgiejggcbgbaaGreatDoor
