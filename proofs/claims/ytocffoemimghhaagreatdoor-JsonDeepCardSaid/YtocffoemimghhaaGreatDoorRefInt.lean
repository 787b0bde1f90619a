/-
  The reference's May, OfUint, OfInt: the contracts, for all whole numbers of a sign and four words.
-/
import Derived.Test.YtocffoemimghhaaGreatDoorGB
namespace Go.Proofs.YtocffoemimghhaaGreatDoor
open Go.RowKit Go.Shelf
attribute [local go_sem ↓] eql_nat neq_nat eql_int5 neq_int5

theorem rmay_pos (x0 x1 x2 x3 : Int) (w : World) :
    Calls Tryz.prog 69 #[.agg #[.bool false, .int .u64 x0, .int .u64 x1, .int .u64 x2, .int .u64 x3]] w fun e w' => e = .returned (.bool true) ∧ Below w.heap.size w w' := by
  go_enter Tryz.func69, Tryz.ntmps69
  go_wp2
  go_ret
  exact ⟨rfl, by repeat (first | exact Below.refl _ _ | refine bal ?_ _ | refine Below.drew ?_ | refine bdn ?_ _)⟩
theorem rmay_neg (x0 x1 x2 x3 : Int) (w : World) :
    Calls Tryz.prog 69 #[.agg #[.bool true, .int .u64 x0, .int .u64 x1, .int .u64 x2, .int .u64 x3]] w fun e w' => e = .returned (.bool (!eq4 x0 x1 x2 x3 0 0 0 0)) ∧ Below w.heap.size w w' := by
  go_enter Tryz.func69, Tryz.ntmps69
  go_wp2
  go_ret
  exact ⟨rfl, by repeat (first | exact Below.refl _ _ | refine bal ?_ _ | refine Below.drew ?_ | refine bdn ?_ _)⟩
end Go.Proofs.YtocffoemimghhaaGreatDoor
