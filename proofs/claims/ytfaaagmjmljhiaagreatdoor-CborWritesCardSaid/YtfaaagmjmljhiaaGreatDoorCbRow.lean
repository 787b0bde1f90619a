/-
  What the rows of stage 8 share: the three listed tables (one pinned) as the walks ask for them, a start that lays them.
-/
import Derived.Test.YtfaaagmjmljhiaaGreatDoorRows
import Derived.Test.YtfaaagmjmljhiaaGreatDoorGL
import Derived.Test.YtfaaagmjmljhiaaGreatDoorValOpen
import Derived.ProofKit
import Derived.LaidMore
import Derived.OpenShut
import Derived.Carry
import Derived.Stop.Joined
import Derived.Stop.LaidErr
import Derived.ChangeSame
import Derived.Lay
import Derived.Laws.IdiomArrays
namespace Go.Proofs.YtfaaagmjmljhiaaGreatDoor
open Go.ChangeShapes Go.WideShapes Go.ChangeAt Go.RowKit

theorem own8 : ownKnob Tryz.prog.godebug = none := by kernel_rfl
def laid8 : List (String × DataW Unit) := [("math/bits.deBruijn64tab", Rows.laid_math_bits_deBruijn64tab), ("unicode/utf8.acceptRanges", Rows.laid_unicode_utf8_acceptRanges), ("unicode/utf8.first", Rows.laid_unicode_utf8_first)]
theorem door_met8 (os : Os) (args : Array Value) : laidMetH Tryz.prog laid8 ((World.laidAll Tryz.prog os laid8).forCall (fun _ _ => 0) ⟨#[], args, []⟩).memory := by
  rw [MakeChecks.laidMetH_plain _ _ _ (by kernel_rfl)]
  exact laidMet_laidAll _ (by kernel_rfl) (by kernel_rfl)
theorem shaped8 (os : Os) : (World.laidAll Tryz.prog os laid8).Shaped Tryz.prog := World.shaped_of_ZipB (by kernel_rfl) (by kernel_rfl)
theorem tb_data8 : (Rows.laid_math_bits_deBruijn64tab : DataW Unit) = Lib.tabData .u8 (Lib.deBruijn64tab.map Int.ofNat) := by
  unfold Rows.laid_math_bits_deBruijn64tab Lib.tabData Lib.deBruijn64tab
  rfl
theorem tb_of_laid8 {W : World} (h : laidMetH Tryz.prog laid8 W) : Tb W := by
  rw [MakeChecks.laidMetH_plain _ _ _ (by kernel_rfl)] at h
  unfold laid8 at h
  rw [tb_data8] at h
  exact Lib.tabIs_of_head (g := 2) (t := 211) (e := 5) (n := 64) (by kernel_rfl) (by kernel_rfl) (by kernel_rfl) (by kernel_rfl) (by kernel_rfl) (by kernel_rfl) h
end Go.Proofs.YtfaaagmjmljhiaaGreatDoor
