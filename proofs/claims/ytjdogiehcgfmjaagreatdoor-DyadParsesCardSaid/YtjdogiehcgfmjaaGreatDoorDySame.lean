/-
  entrepotref6.Same: of equal values without lists; entrepotlaw4.digit.
-/
import Derived.Test.YtjdogiehcgfmjaaGreatDoorDyTold
namespace Go.Proofs.YtjdogiehcgfmjaaGreatDoor
open Go.RowKit Go.Shelf
attribute [local go_sem ↓] eql_nat neq_nat eql_int5 neq_int5

set_option maxHeartbeats 4000000 in
theorem same_self (k : Int) (g : Bool) (a0 a1 a2 a3 y : Int) (w : World) :
    Calls Tryz.prog 15 #[.agg #[.int .i64 k, .bool g, .int .u64 a0, .int .u64 a1, .int .u64 a2, .int .u64 a3, .int .u64 y, .string ⟨#[]⟩, .slice none 0 0, .slice none 0 0], .agg #[.int .i64 k, .bool g, .int .u64 a0, .int .u64 a1, .int .u64 a2, .int .u64 a3, .int .u64 y, .string ⟨#[]⟩, .slice none 0 0, .slice none 0 0]] w fun e w' => e = .returned (.bool true) ∧ Below w.heap.size w w' := by
  have A := RowV.alloc (RowV.new w (.int .i64 k) (.bool g) (.int .u64 a0) (.int .u64 a1) (.int .u64 a2) (.int .u64 a3) (.int .u64 y) (.string ⟨#[]⟩) (.slice none 0 0) (.slice none 0 0)) (.cells #[.int .i64 k, .bool g, .int .u64 a0, .int .u64 a1, .int .u64 a2, .int .u64 a3, .int .u64 y, .string ⟨#[]⟩, .slice none 0 0, .slice none 0 0] 31)
  obtain ⟨c0, c1, c2, c3, c4, c5, c6, c7, c8, c9⟩ := A.parts
  have he : eq5 g a0 a1 a2 a3 g a0 a1 a2 a3 = true := by unfold eq5 eq4; cases g <;> simp
  go_enter Tryz.func15, Tryz.ntmps15
  go_wp2
  refine wp_loop_rounds 1 ?_
  rw [rounds_succ]
  go_wp2
  refine wp_loop_rounds 1 ?_
  rw [rounds_succ]
  go_wp2
  go_ret
  exact ⟨rfl, bal (bal (Below.refl _ _) _) _⟩
end Go.Proofs.YtjdogiehcgfmjaaGreatDoor
