/-
  The reference's May, OfUint, OfInt: the contracts, for all whole numbers of a sign and four words.
-/
import Derived.Test.YtajhfihkgekffaaDoorRefWh
namespace Go.Proofs.YtajhfihkgekffaaDoor
open Go.RowKit Go.Shelf
attribute [local go_sem ↓] eql_nat neq_nat eql_int5 neq_int5

theorem rmay_pos (x0 x1 x2 x3 : Int) (w : World) :
    Calls Tryd.prog 22 #[.agg #[.bool false, .int .u64 x0, .int .u64 x1, .int .u64 x2, .int .u64 x3]] w fun e w' => e = .returned (.bool true) ∧ Below w.heap.size w w' := by
  go_enter Tryd.func22, Tryd.ntmps22
  go_wp2
  go_ret
  exact ⟨rfl, by repeat (first | exact Below.refl _ _ | refine bal ?_ _ | refine Below.drew ?_ | refine bdn ?_ _)⟩
theorem rmay_neg (x0 x1 x2 x3 : Int) (w : World) :
    Calls Tryd.prog 22 #[.agg #[.bool true, .int .u64 x0, .int .u64 x1, .int .u64 x2, .int .u64 x3]] w fun e w' => e = .returned (.bool (!eq4 x0 x1 x2 x3 0 0 0 0)) ∧ Below w.heap.size w w' := by
  go_enter Tryd.func22, Tryd.ntmps22
  go_wp2
  go_ret
  exact ⟨rfl, by repeat (first | exact Below.refl _ _ | refine bal ?_ _ | refine Below.drew ?_ | refine bdn ?_ _)⟩
theorem rofint_pos (v : Int) (h0 : ¬ v < 0) (h1 : v < 9223372036854775808) (w : World) :
    Calls Tryd.prog 25 #[.int .i64 v] w fun e w' => e = .returned (.agg #[.bool false, .int .u64 v, .int .u64 0, .int .u64 0, .int .u64 0]) ∧ Below w.heap.size w w' := by
  have w1 : IntKind.u64.wrap v = v := by rw [IntKind.wrap_u64]; omega
  go_enter Tryd.func25, Tryd.ntmps25
  go_wp2
  refine bodyPost_ret (v := .agg #[.bool false, .int .u64 v, .int .u64 0, .int .u64 0, .int .u64 0]) (by simp [results, Tryd.results25, go_sem]) rfl ⟨rfl, ?_⟩
  repeat (first | (with_reducible exact Below.refl _ _) | (with_reducible refine bal ?_ _) | (with_reducible refine Below.drew ?_) | (with_reducible refine bdn ?_ _) | ((with_reducible refine bsc ?_ ?_ _); rotate_left; (focus (simp only []; omega))))
theorem rofint_neg (v p q : Int) (h0 : v < 0) (h1 : -9223372036854775808 ≤ v) (hp : p = v + 1) (hq : q = -p) (w : World) :
    Calls Tryd.prog 25 #[.int .i64 v] w fun e w' => e = .returned (.agg #[.bool true, .int .u64 (-v), .int .u64 0, .int .u64 0, .int .u64 0]) ∧ Below w.heap.size w w' := by
  have w0 : IntKind.i64.wrap (v + 1) = p := by rw [Go.IntWalk.i64_in _ (by omega)]; omega
  have w1 : IntKind.i64.wrap (-p) = q := by rw [Go.IntWalk.i64_in _ (by omega)]; omega
  have w2 : IntKind.u64.wrap q = q := by rw [IntKind.wrap_u64]; omega
  have w3 : IntKind.u64.wrap (q + 1) = -v := by rw [IntKind.wrap_u64]; omega
  clear hp hq
  go_enter Tryd.func25, Tryd.ntmps25
  go_wp2
  refine bodyPost_ret (v := .agg #[.bool true, .int .u64 (-v), .int .u64 0, .int .u64 0, .int .u64 0]) (by simp [results, Tryd.results25, go_sem]) rfl ⟨rfl, ?_⟩
  repeat (first | (with_reducible exact Below.refl _ _) | (with_reducible refine bal ?_ _) | (with_reducible refine Below.drew ?_) | (with_reducible refine bdn ?_ _) | ((with_reducible refine bsc ?_ ?_ _); rotate_left; (focus (simp only []; omega))))
end Go.Proofs.YtajhfihkgekffaaDoor
