/-
  The reference's Behind: the contract, for every word of 64 bits.
-/
import Derived.Test.YtjdogiehcgfmjaaDoorGC
import Derived.Test.YtjdogiehcgfmjaaDoorGF
import Derived.BigRegion
import Derived.RegionTactic
namespace Go.Proofs.YtjdogiehcgfmjaaDoor
open Go.RowKit Go.Shelf
attribute [local go_sem ↓] eql_nat neq_nat eql_int5 neq_int5

theorem dg_len (b : Nat) : (digs (dg b)).length ≤ 1000 := Nat.le_trans (digs_len.2 (show dg b < 2 ^ (32 * 2) from dg_lt b)) (by decide)
theorem ex_bounds (b : Nat) : -1074 ≤ ex b ∧ ex b ≤ 972 := by
  unfold ex
  split <;> omega
theorem pw_ex {b : Nat} (h : dg b ≠ 0) : pw b = ex b + (Lib.ctz 64 (dg b) : Nat) := by
  unfold pw ex
  rw [if_neg h]
  by_cases h0 : b / 4503599627370496 % 2048 = 0
  · rw [if_pos h0, h0]; omega
  · rw [if_neg h0]; omega
end Go.Proofs.YtjdogiehcgfmjaaDoor
