/-
  The reference's whole: the contract, for all numbers of at most 1000 digits of 32 bits.
-/
import Derived.Test.YtjdogiehcgfmjaaDoorGC
import Derived.Test.YtjdogiehcgfmjaaDoorGE
import Derived.BigRegion
import Derived.RegionTactic
namespace Go.Proofs.YtjdogiehcgfmjaaDoor
open Go.RowKit Go.Shelf
attribute [local go_sem ↓] eql_nat neq_nat eql_int5 neq_int5

theorem Iz_sign (g : Bool) (v : Nat) (hv : v < 2 ^ 256) : I5 (g && !eq4 (lb 0 v) (lb 1 v) (lb 2 v) (lb 3 v) 0 0 0 0) v = Iz (if g then -(v : Int) else v) := by
  cases g
  · rw [Bool.false_and, if_neg (by decide), Iz_nat]
  · rw [Bool.true_and, if_pos rfl, zq v hv]
    by_cases h : v = 0
    · subst h; rfl
    · rw [Iz_neg h, decide_eq_false h]; rfl
end Go.Proofs.YtjdogiehcgfmjaaDoor
