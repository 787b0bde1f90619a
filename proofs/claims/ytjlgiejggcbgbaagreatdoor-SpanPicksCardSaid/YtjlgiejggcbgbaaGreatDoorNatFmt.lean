/-
  strconv.FormatUint at base 10: the contract, for every word of 64 bits: its decimal numeral. The table internal/strconv.uint64pow10 reads as its initialiser lays it.
-/
import Derived.Test.YtjlgiejggcbgbaaGreatDoorNatBase
import Derived.Test.YtjlgiejggcbgbaaGreatDoorShelf
import Derived.Lib.ItoaWalk
import Derived.Lib.ItoaMem
import Derived.Lib.AppendIntMem
namespace Go.Proofs.YtjlgiejggcbgbaaGreatDoor
open Go.RowKit Go.Shelf Go.Sort Go.Lib

/-- The table of powers reads as it is laid. -/
abbrev Tab (w : World) : Prop := Lib.TabIs Tryz.prog w "internal/strconv.uint64pow10" .u64 Lib.pow10Tab
theorem tab_on {w w' : World} (h : Tab w) (hb : Below w.heap.size w w') : Tab w' := Lib.tabBelow_of_tabIs h w' hb

end Go.Proofs.YtjlgiejggcbgbaaGreatDoor
