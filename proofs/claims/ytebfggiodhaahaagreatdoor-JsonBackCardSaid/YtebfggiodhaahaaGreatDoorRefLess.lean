/-
  The reference's Less: the contract, for all numbers of at most 1000 digits of 32 bits, all divisors of 32 bits.
-/
import Derived.Test.YtebfggiodhaahaaGreatDoorGC
import Derived.Test.YtebfggiodhaahaaGreatDoorGL
namespace Go.Proofs.YtebfggiodhaahaaGreatDoor
open Go.RowKit Go.Shelf

/-- What holds at the head of Less's loop, k digits still to be divided. -/
def LessAt (x d n k c : Nat) (O : List Nat) : Prop :=
  O.length = n ∧ Sm O ∧ c = x / 2 ^ (32 * k) % d ∧ dval O = 2 ^ (32 * k) * (x / 2 ^ (32 * k) / d)
theorem LessAt.next {x d n i c : Nat} {O : List Nat} (hd : 0 < d) (hi : i < n) (h : LessAt x d n (i + 1) c O) {s : Nat} (hs : s = c * 4294967296 + x / 2 ^ (32 * i) % 4294967296) :
    s / d < 4294967296 ∧ LessAt x d n i (s % d) (O.set i (s / d)) := by
  obtain ⟨h1, h2, h3, h4⟩ := h
  have hc : c < d := by rw [h3]; exact Nat.mod_lt _ hd
  have hl := less_lt (x := x) (i := i) hd hc
  rw [← hs] at hl
  obtain ⟨s1, s2⟩ := less_step (x := x) (i := i) hd h3 rfl
  rw [← hs] at s1 s2
  have h0 : O.getD i 0 = 0 := by
    rw [← dval_get h2, h4, pow_step, Nat.mul_assoc, Nat.mul_div_cancel_left _ (Nat.two_pow_pos _), Nat.mul_mod_right]
  have e := dval_set O i (s / d) (by omega)
  rw [h0, Nat.mul_zero, Nat.add_zero, h4, pow_step, Nat.mul_assoc, ← Nat.mul_add] at e
  refine ⟨hl, by simp [h1], h2.set _ hl, s1.symm, ?_⟩
  rw [e, s2]
  rw [pow_step]
  congr 1
  omega
end Go.Proofs.YtebfggiodhaahaaGreatDoor
