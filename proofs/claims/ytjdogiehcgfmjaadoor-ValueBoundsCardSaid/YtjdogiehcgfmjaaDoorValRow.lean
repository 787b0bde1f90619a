/-
  What the rows of stage 6's door seat share: the one listed table as the walks ask for it, a start that lays it; values as parameters.
-/
import Derived.Test.YtjdogiehcgfmjaaDoorRows
import Derived.Test.YtjdogiehcgfmjaaDoorNatTrail
import Derived.Test.YtjdogiehcgfmjaaDoorValOpen
import Derived.ProofKit
import Derived.LaidMore
import Derived.OpenShut
import Derived.Carry
import Derived.Stop.Joined
import Derived.Stop.LaidErr
import Derived.ChangeSame
import Derived.Lay
namespace Go.Proofs.YtjdogiehcgfmjaaDoor
open Go.ChangeShapes Go.WideShapes Go.ChangeAt Go.RowKit

theorem own6 : ownKnob Tryd.prog.godebug = none := by kernel_rfl
theorem Tryd.laid0 : laidOutB Tryd.prog = true := by kernel_rfl
def laid6 : List (String × DataW Unit) := [("math/bits.deBruijn64tab", Rows.laid_math_bits_deBruijn64tab)]
theorem door_met6 (os : Os) (args : Array Value) : laidMetH Tryd.prog laid6 ((World.laidAll Tryd.prog os laid6).forCall (fun _ _ => 0) ⟨#[], args, []⟩).memory := by
  rw [MakeChecks.laidMetH_plain _ _ _ (by kernel_rfl)]
  exact laidMet_laidAll _ (by kernel_rfl) (by kernel_rfl)
theorem shaped6 (os : Os) : (World.laidAll Tryd.prog os laid6).Shaped Tryd.prog := World.shaped_of_ZipB (by kernel_rfl) (by kernel_rfl)
theorem tb_data6 : (Rows.laid_math_bits_deBruijn64tab : DataW Unit) = Lib.tabData .u8 (Lib.deBruijn64tab.map Int.ofNat) := by
  unfold Rows.laid_math_bits_deBruijn64tab Lib.tabData Lib.deBruijn64tab
  rfl
theorem tb_of_laid6 {W : World} (h : laidMetH Tryd.prog laid6 W) : Tb W := by
  rw [MakeChecks.laidMetH_plain _ _ _ (by kernel_rfl)] at h
  unfold laid6 at h
  rw [tb_data6] at h
  exact Lib.tabIs_of_head (g := 0) (t := 93) (e := 5) (n := 64) (by kernel_rfl) (by kernel_rfl) (by kernel_rfl) (by kernel_rfl) (by kernel_rfl) (by kernel_rfl) h
end Go.Proofs.YtjdogiehcgfmjaaDoor
