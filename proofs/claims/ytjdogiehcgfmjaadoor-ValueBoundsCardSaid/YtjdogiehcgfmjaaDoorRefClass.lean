/-
  The reference's Class, MayFloat, Canon: the contracts, for every word of 64 bits.
-/
import Derived.Test.YtjdogiehcgfmjaaDoorRefFWhole
import Derived.Test.YtjdogiehcgfmjaaDoorGF
namespace Go.Proofs.YtjdogiehcgfmjaaDoor
open Go.RowKit Go.Shelf
attribute [local go_sem ↓] eql_nat neq_nat eql_int5 neq_int5

theorem cls_nan {b : Nat} : cls b = 16 ↔ INF < rg b := by
  unfold cls
  constructor
  · intro h
    apply Decidable.byContradiction
    intro hn
    rw [if_neg hn] at h
    repeat (first | omega | split at h)
  · intro h; rw [if_pos h]
end Go.Proofs.YtjdogiehcgfmjaaDoor
