/-
  nat.Shr: the contract, for all numbers of four words, all places.
-/
import Derived.Test.YtgklokjilfeklaaDoorNatShMath
namespace Go.Proofs.YtgklokjilfeklaaDoor
open Go.RowKit Go.Shelf

end Go.Proofs.YtgklokjilfeklaaDoor
