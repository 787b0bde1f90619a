/-
  RefWh, one behind the other: a claim holds at most 60 files.
-/
import Derived.Test.YtebfggiodhaahaaGreatDoorGC
import Derived.Test.YtebfggiodhaahaaGreatDoorGE
import Derived.BigRegion
import Derived.RegionTactic
section
namespace Go.Proofs.YtebfggiodhaahaaGreatDoor
open Go.RowKit Go.Shelf
attribute [local go_sem ↓] eql_nat neq_nat eql_int5 neq_int5

end Go.Proofs.YtebfggiodhaahaaGreatDoor
end
