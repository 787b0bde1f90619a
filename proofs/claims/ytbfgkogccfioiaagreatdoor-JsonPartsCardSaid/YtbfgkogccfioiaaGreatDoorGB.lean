/-
  RefBehind RefWh RefFWhole RefClass, one behind the other: a claim holds at most 60 files.
-/
import Derived.Test.YtbfgkogccfioiaaGreatDoorGC
import Derived.Test.YtbfgkogccfioiaaGreatDoorGF
import Derived.BigRegion
import Derived.RegionTactic
import Derived.Test.YtbfgkogccfioiaaGreatDoorGE
section
namespace Go.Proofs.YtbfgkogccfioiaaGreatDoor
open Go.RowKit Go.Shelf
attribute [local go_sem ↓] eql_nat neq_nat eql_int5 neq_int5

end Go.Proofs.YtbfgkogccfioiaaGreatDoor
end
section
namespace Go.Proofs.YtbfgkogccfioiaaGreatDoor
open Go.RowKit Go.Shelf
attribute [local go_sem ↓] eql_nat neq_nat eql_int5 neq_int5

end Go.Proofs.YtbfgkogccfioiaaGreatDoor
end
section
namespace Go.Proofs.YtbfgkogccfioiaaGreatDoor
open Go.RowKit Go.Shelf
attribute [local go_sem ↓] eql_nat neq_nat eql_int5 neq_int5

end Go.Proofs.YtbfgkogccfioiaaGreatDoor
end
section
namespace Go.Proofs.YtbfgkogccfioiaaGreatDoor
open Go.RowKit Go.Shelf
attribute [local go_sem ↓] eql_nat neq_nat eql_int5 neq_int5

end Go.Proofs.YtbfgkogccfioiaaGreatDoor
end
