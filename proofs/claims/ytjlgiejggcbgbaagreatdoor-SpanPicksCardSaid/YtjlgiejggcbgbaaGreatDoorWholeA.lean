/-
  whole.May, OfUint, Of, signed, Cmp: the contracts, for all whole numbers of a sign and four words.
-/
import Derived.Test.YtjlgiejggcbgbaaGreatDoorIntBase
import Derived.Test.YtjlgiejggcbgbaaGreatDoorNatCmp
namespace Go.Proofs.YtjlgiejggcbgbaaGreatDoor
open Go.RowKit Go.Shelf
attribute [local go_sem ↓] eql_nat neq_nat eql_int5 neq_int5

theorem may_core (g : Bool) (x0 x1 x2 x3 : Int) (w : World) :
    Calls Tryz.prog 26 #[.agg #[.bool g, .int .u64 x0, .int .u64 x1, .int .u64 x2, .int .u64 x3]] w fun e w' => e = .returned (.bool (!eq5 g x0 x1 x2 x3 true 0 0 0 0)) ∧ ∃ o : Obj, w' = w.alloc o := by
  go_enter Tryz.func26, Tryz.ntmps26
  go_wp2
  go_ret
  exact ⟨rfl, _, rfl⟩

theorem ofUint_any (v : Int) (w : World) :
    Calls Tryz.prog 73 #[.int .u64 v] w fun e w' => e = .returned (.agg #[.bool false, .int .u64 v, .int .u64 0, .int .u64 0, .int .u64 0]) ∧ Below w.heap.size w w' := by
  go_enter Tryz.func73, Tryz.ntmps73
  go_wp2_with fail
  refine (of_any _ _).mono ?_
  rintro e w1 ⟨rfl, hb⟩
  have R : Row5 w1 w.heap.size (.bool false) (.int .u64 0) (.int .u64 0) (.int .u64 0) (.int .u64 0) := Row5.keep hb (Row5.new w _ _ _ _ _)
  obtain ⟨c0, c1, c2, c3, c4⟩ := R.parts
  obtain ⟨f0, f1, f2, f3, f4⟩ := R.free
  have B := btr (bal (Below.refl _ w) _) hb
  clear hb R
  go_wp2
  exact bodyPost_ret (v := .agg #[.bool false, .int .u64 v, .int .u64 0, .int .u64 0, .int .u64 0]) (by simp [results, Tryz.results73, go_sem, c0, c1, c2, c3, c4]) rfl ⟨rfl, bsc5 B (by omega) _ _ _ _ _⟩

theorem signed_no (x0 x1 x2 x3 : Int) (w : World) :
    Calls Tryz.prog 70 #[.bool false, .agg #[.int .u64 x0, .int .u64 x1, .int .u64 x2, .int .u64 x3]] w fun e w' => e = .returned (.agg #[.bool false, .int .u64 x0, .int .u64 x1, .int .u64 x2, .int .u64 x3]) ∧ Below w.heap.size w w' := by
  go_enter Tryz.func70, Tryz.ntmps70
  go_wp2
  go_region_with (fail)
  all_goals
    go_wp2
    exact bodyPost_ret (v := .agg #[.bool false, .int .u64 x0, .int .u64 x1, .int .u64 x2, .int .u64 x3]) (by simp [results, Tryz.results70, go_sem]) rfl ⟨rfl, by repeat (first | exact Below.refl _ _ | refine bal ?_ _ | refine Below.drew ?_ | refine bdn ?_ _)⟩
theorem signed_yes (x0 x1 x2 x3 : Int) (w : World) :
    Calls Tryz.prog 70 #[.bool true, .agg #[.int .u64 x0, .int .u64 x1, .int .u64 x2, .int .u64 x3]] w fun e w' => e = .returned (.agg #[.bool (!eq4 x0 x1 x2 x3 0 0 0 0), .int .u64 x0, .int .u64 x1, .int .u64 x2, .int .u64 x3]) ∧ Below w.heap.size w w' := by
  go_enter Tryz.func70, Tryz.ntmps70
  go_wp2
  go_region_held3 (fun w' => w'.cell? ⟨w.heap.size, 0, none⟩ = some (.int .u64 x0) ∧ w'.cell? ⟨w.heap.size, 1, none⟩ = some (.int .u64 x1) ∧ w'.cell? ⟨w.heap.size, 2, none⟩ = some (.int .u64 x2) ∧ w'.cell? ⟨w.heap.size, 3, none⟩ = some (.int .u64 x3)) (simp [go_sem, World.cell?_alloc_past]) (first | (go_at_call 68; refine (of_one _ _).mono ?_; rintro e w3 ⟨rfl, o3, rfl⟩))
  go_wp2
  exact bodyPost_ret (v := .agg #[.bool (!eq4 x0 x1 x2 x3 0 0 0 0), .int .u64 x0, .int .u64 x1, .int .u64 x2, .int .u64 x3]) (by simp [results, Tryz.results70, go_sem]) rfl ⟨rfl, by repeat (first | exact Below.refl _ _ | refine bal ?_ _ | refine Below.drew ?_ | refine bdn ?_ _)⟩

end Go.Proofs.YtjlgiejggcbgbaaGreatDoor
