/-
  entrepotlaw3.told answers true. The table math/bits.deBruijn64tab reads as its initialiser lays it.
-/
import Derived.Test.YtpgpodjmdflmeaaGreatDoorGF
namespace Go.Proofs.YtpgpodjmdflmeaaGreatDoor
open Go.RowKit Go.Shelf Go.Sort
attribute [local go_sem ↓] eql_nat neq_nat eql_int5 neq_int5

theorem Iz_word (v : Nat) (h : v < 18446744073709551616) : Iz (v : Int) = .agg #[.bool false, .int .u64 (v : Int), .int .u64 0, .int .u64 0, .int .u64 0] := by
  rw [Iz_nat]
  unfold I5
  obtain ⟨l0, l1, l2, l3⟩ := lb_small (v := (v : Int)) (by omega) (by omega)
  rw [Int.natAbs_natCast] at l0 l1 l2 l3
  rw [l0, l1, l2, l3]
end Go.Proofs.YtpgpodjmdflmeaaGreatDoor
