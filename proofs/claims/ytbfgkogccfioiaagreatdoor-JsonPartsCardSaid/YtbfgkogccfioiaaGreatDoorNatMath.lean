/-
  Words of 64 bits and natural numbers of four of them: plain arithmetic, no Go. For every number below 2^256.
-/
import Derived.RowKit
namespace Go.Proofs.YtbfgkogccfioiaaGreatDoor

/-- A word of 64 bits. -/
def Word (x : Int) : Prop := 0 ≤ x ∧ x < 18446744073709551616

/-- The limb number i of a natural number. -/
def lb (i : Nat) (x : Nat) : Int := ((x / 2 ^ (64 * i) % 18446744073709551616 : Nat) : Int)
theorem lb_word (i x : Nat) : Word (lb i x) := by unfold Word lb; omega
theorem lb0 (x : Nat) : lb 0 x = (x : Int) % 18446744073709551616 := by unfold lb; simp
theorem lb1 (x : Nat) : lb 1 x = (x : Int) / 18446744073709551616 % 18446744073709551616 := by unfold lb; simp
theorem lb2 (x : Nat) : lb 2 x = (x : Int) / 340282366920938463463374607431768211456 % 18446744073709551616 := by unfold lb; simp
theorem lb3 (x : Nat) : lb 3 x = (x : Int) / 6277101735386680763835789423207666416102355444464034512896 % 18446744073709551616 := by unfold lb; simp

/-- The number of four limbs. -/
def val4 (a0 a1 a2 a3 : Int) : Int := a0 + 18446744073709551616 * a1 + 340282366920938463463374607431768211456 * a2 + 6277101735386680763835789423207666416102355444464034512896 * a3

theorem lb_sum (x : Nat) (h : x < 2 ^ 256) : val4 (lb 0 x) (lb 1 x) (lb 2 x) (lb 3 x) = x := by
  rw [lb0, lb1, lb2, lb3]; unfold val4
  omega
theorem lb_of {a0 a1 a2 a3 : Int} (h0 : Word a0) (h1 : Word a1) (h2 : Word a2) (h3 : Word a3) {z : Nat} (h : val4 a0 a1 a2 a3 = z) :
    lb 0 z = a0 ∧ lb 1 z = a1 ∧ lb 2 z = a2 ∧ lb 3 z = a3 := by
  unfold Word at *; unfold val4 at h
  rw [lb0, lb1, lb2, lb3]
  refine ⟨by omega, by omega, by omega, by omega⟩
theorem val4_lt {a0 a1 a2 a3 : Int} (h0 : Word a0) (h1 : Word a1) (h2 : Word a2) (h3 : Word a3) : 0 ≤ val4 a0 a1 a2 a3 ∧ val4 a0 a1 a2 a3 < 2 ^ 256 := by
  unfold Word at *; unfold val4
  refine ⟨by omega, by omega⟩
theorem lb_zero (i : Nat) : lb i 0 = 0 := by unfold lb; simp

/-- Every four words are a number. -/
theorem nat_of {a0 a1 a2 a3 : Int} (h0 : Word a0) (h1 : Word a1) (h2 : Word a2) (h3 : Word a3) :
    ∃ x : Nat, x < 2 ^ 256 ∧ val4 a0 a1 a2 a3 = x ∧ lb 0 x = a0 ∧ lb 1 x = a1 ∧ lb 2 x = a2 ∧ lb 3 x = a3 := by
  have hb := val4_lt h0 h1 h2 h3
  refine ⟨(val4 a0 a1 a2 a3).toNat, by omega, by omega, lb_of h0 h1 h2 h3 (by omega)⟩

end Go.Proofs.YtbfgkogccfioiaaGreatDoor
