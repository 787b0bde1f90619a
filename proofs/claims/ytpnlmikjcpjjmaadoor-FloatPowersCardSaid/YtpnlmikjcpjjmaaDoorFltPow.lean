/-
  The floats that are powers of two, one by one: what stands behind the point, what is whole, which widths have them. Reckoned, no Go. For every exponent from -1074 to 1023.
-/
import Derived.Test.YtpnlmikjcpjjmaaDoorFltMath2
namespace Go.Proofs.YtpnlmikjcpjjmaaDoor
open Ieee

/-- The word of 2^(j - 1074). -/
def pwb (j : Nat) : Nat := if 52 ≤ j then (j - 51) * 4503599627370496 else 2 ^ j
def pwOk (j : Nat) : Bool :=
  (whl (pwb j) == if 1074 ≤ j ∧ j < 1330 then some (2 ^ (j - 1074)) else none) && (cls (pwb j) == if j < 1010 ∨ 1330 ≤ j then 2 else if j < 1074 then 1 else 0) && beh (pwb j) == 1074 - j &&
    (tos (pwb j)).2 == decide (925 ≤ j ∧ j ≤ 1201) && (toh (pwb j)).2 == decide (1050 ≤ j ∧ j ≤ 1089)
def allB : Nat → Nat → Bool
  | 0, s => 2098 ≤ s || pwOk s
  | k + 1, s => allB k s && allB k (s + 2 ^ k)
theorem allB_at : ∀ (k s j : Nat), allB k s = true → s ≤ j → j < s + 2 ^ k → j < 2098 → pwOk j = true
  | 0, s, j, h, h0, h1, h2 => by
    obtain rfl : j = s := by omega
    unfold allB at h
    rw [Bool.or_eq_true] at h
    rcases h with h | h
    · have := of_decide_eq_true h; omega
    · exact h
  | k + 1, s, j, h, h0, h1, h2 => by
    unfold allB at h
    rw [Bool.and_eq_true] at h
    rw [Nat.pow_succ] at h1
    by_cases hj : j < s + 2 ^ k
    · exact allB_at k s j h.1 h0 hj h2
    · exact allB_at k (s + 2 ^ k) j h.2 (by omega) (by omega) h2
theorem pw_0 : allB 9 0 = true := by decide +kernel
theorem pw_1 : allB 9 512 = true := by decide +kernel
theorem pw_2 : allB 9 1024 = true := by decide +kernel
theorem pw_3 : allB 9 1536 = true := by decide +kernel
theorem pw_4 : allB 9 2048 = true := by decide +kernel
theorem pw_all {j : Nat} (h : j < 2098) : pwOk j = true := by
  by_cases h0 : j < 512
  · exact allB_at 9 0 j pw_0 (by omega) (by omega) h
  by_cases h1 : j < 1024
  · exact allB_at 9 512 j pw_1 (by omega) (by omega) h
  by_cases h2 : j < 1536
  · exact allB_at 9 1024 j pw_2 (by omega) (by omega) h
  by_cases h3 : j < 2048
  · exact allB_at 9 1536 j pw_3 (by omega) (by omega) h
  exact allB_at 9 2048 j pw_4 (by omega) (by omega) h
end Go.Proofs.YtpnlmikjcpjjmaaDoor
