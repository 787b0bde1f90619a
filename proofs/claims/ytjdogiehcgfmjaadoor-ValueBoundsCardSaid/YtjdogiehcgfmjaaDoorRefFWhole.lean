/-
  The reference's Whole: the contract, for every word of 64 bits.
-/
import Derived.Test.YtjdogiehcgfmjaaDoorRefBehind
import Derived.Test.YtjdogiehcgfmjaaDoorRefWh
namespace Go.Proofs.YtjdogiehcgfmjaaDoor
open Go.RowKit Go.Shelf
attribute [local go_sem ↓] eql_nat neq_nat eql_int5 neq_int5

theorem blen_pow {o t : Nat} (h : o ≠ 0) : blen (o * 2 ^ t) = blen o + t := by
  have hp := Nat.two_pow_pos t
  have h2 : o * 2 ^ t ≠ 0 := Nat.mul_ne_zero h (by omega)
  unfold blen
  rw [if_neg h, if_neg h2, lg_mul o t h]
  omega
theorem wend_no {b : Nat} (h : whl b = none) : WEnd b = .tuple #[Z5, .bool false] := by unfold WEnd; rw [h]
theorem wend_nought {b : Nat} (h : whl b = some 0) : WEnd b = .tuple #[Z5, .bool true] := by
  unfold WEnd
  rw [h]
  have e0 : (if sg b = 1 then -((0 : Nat) : Int) else ((0 : Nat) : Int)) = 0 := by split <;> rfl
  simp only [e0]
  rw [← Iz_zero]
end Go.Proofs.YtjdogiehcgfmjaaDoor
