/-
  whole.ToInt, ToUint: the contracts, for all whole numbers of a sign and four words.
-/
import Derived.Test.YtajhfihkgekffaaDoorWholeA
import Derived.Test.YtajhfihkgekffaaDoorNatLen
import Derived.Lib.ItoaWalk
namespace Go.Proofs.YtajhfihkgekffaaDoor
open Go.RowKit Go.Shelf
attribute [local go_sem ↓] eql_nat neq_nat eql_int5 neq_int5

end Go.Proofs.YtajhfihkgekffaaDoor
