/-
  entrepotref6.own of a map: the contract.
-/
import Derived.Test.YtjdogiehcgfmjaaDoorR6Own
namespace Go.Proofs.YtjdogiehcgfmjaaDoor
open Go.RowKit Go.Shelf
open Go.Sort (grow)
attribute [local go_sem ↓] eql_nat neq_nat eql_int5 neq_int5

end Go.Proofs.YtjdogiehcgfmjaaDoor
