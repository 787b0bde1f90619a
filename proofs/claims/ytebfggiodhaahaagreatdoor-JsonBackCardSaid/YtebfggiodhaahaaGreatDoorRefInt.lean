/-
  The reference's May, OfUint, OfInt: the contracts, for all whole numbers of a sign and four words.
-/
import Derived.Test.YtebfggiodhaahaaGreatDoorGB
namespace Go.Proofs.YtebfggiodhaahaaGreatDoor
open Go.RowKit Go.Shelf
attribute [local go_sem ↓] eql_nat neq_nat eql_int5 neq_int5

end Go.Proofs.YtebfggiodhaahaaGreatDoor
