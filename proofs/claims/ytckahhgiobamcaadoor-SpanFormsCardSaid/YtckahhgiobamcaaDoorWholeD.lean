/-
  whole.ToInt, ToUint: the contracts, for all whole numbers of a sign and four words.
-/
import Derived.Test.YtckahhgiobamcaaDoorWholeA
import Derived.Test.YtckahhgiobamcaaDoorNatLen
import Derived.Lib.ItoaWalk
namespace Go.Proofs.YtckahhgiobamcaaDoor
open Go.RowKit Go.Shelf
attribute [local go_sem ↓] eql_nat neq_nat eql_int5 neq_int5

end Go.Proofs.YtckahhgiobamcaaDoor
