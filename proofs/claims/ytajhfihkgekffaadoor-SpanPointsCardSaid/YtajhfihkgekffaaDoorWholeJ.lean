/-
  A whole number that fits one word.
-/
import Derived.Test.YtajhfihkgekffaaDoorWholeH
namespace Go.Proofs.YtajhfihkgekffaaDoor
open Go.RowKit Go.Shelf
theorem Iz_pos (v : Nat) (h : v < 18446744073709551616) : Iz (v : Int) = .agg #[.bool false, .int .u64 (v : Int), .int .u64 0, .int .u64 0, .int .u64 0] := by
  rw [Iz_nat]
  unfold I5
  obtain ⟨l0, l1, l2, l3⟩ := lb_small (v := (v : Int)) (by omega) (by omega)
  rw [Int.natAbs_natCast] at l0 l1 l2 l3
  rw [l0, l1, l2, l3]
theorem Iz_minus (v : Nat) (h0 : v ≠ 0) (h : v < 18446744073709551616) : Iz (-(v : Int)) = .agg #[.bool true, .int .u64 (v : Int), .int .u64 0, .int .u64 0, .int .u64 0] := by
  rw [Iz_neg h0]
  unfold I5
  obtain ⟨l0, l1, l2, l3⟩ := lb_small (v := (v : Int)) (by omega) (by omega)
  rw [Int.natAbs_natCast] at l0 l1 l2 l3
  rw [l0, l1, l2, l3]

end Go.Proofs.YtajhfihkgekffaaDoor
