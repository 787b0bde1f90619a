/-
  Decimals in pieces of 19 digits: plain arithmetic.
-/
import Derived.Test.YtoibaeilbolffaaGreatDoorNatMath
import Derived.Lib.ItoaNum
namespace Go.Proofs.YtoibaeilbolffaaGreatDoor

theorem dec_step {u : Nat} (h : 10 ≤ u) : Lib.decDigits u = Lib.decDigits (u / 10) ++ [UInt8.ofNat (48 + u % 10)] := by
  rw [Lib.decDigits, dif_neg (by omega)]
theorem dec_small {u : Nat} (h : u < 10) : Lib.decDigits u = [UInt8.ofNat (48 + u)] := by
  rw [Lib.decDigits, dif_pos h]
/-- A number's digits, with noughts ahead up to k. -/
def pad (k r : Nat) : List UInt8 := List.replicate (k - (Lib.decDigits r).length) 48 ++ Lib.decDigits r
theorem dec_len {k r : Nat} (hk : 1 ≤ k) (h : r < 10 ^ k) : (Lib.decDigits r).length ≤ k := by
  induction k generalizing r with
  | zero => omega
  | succ k ih =>
    by_cases h10 : r < 10
    · rw [dec_small h10]; simp
    · rw [dec_step (by omega), List.length_append, List.length_singleton]
      have hk1 : 1 ≤ k := by
        rcases Nat.eq_zero_or_pos k with h0 | h0
        · subst h0; simp at h; omega
        · exact h0
      have := ih (r := r / 10) hk1 (by rw [Nat.pow_succ] at h; omega)
      omega
theorem dec_pos (r : Nat) : 1 ≤ (Lib.decDigits r).length := by
  by_cases h10 : r < 10
  · rw [dec_small h10]; simp
  · rw [dec_step (by omega)]; simp
theorem pad_step {k r : Nat} (hk : 1 ≤ k) (_h : r < 10 ^ (k + 1)) : pad (k + 1) r = pad k (r / 10) ++ [UInt8.ofNat (48 + r % 10)] := by
  unfold pad
  by_cases h10 : r < 10
  · rw [dec_small h10, show r / 10 = 0 from by omega, show r % 10 = r from by omega, dec_small (show 0 < 10 by decide)]
    have e : List.replicate (k + 1 - 1) (48 : UInt8) = List.replicate (k - 1) 48 ++ [48] := by
      rw [← List.replicate_succ', show k + 1 - 1 = k - 1 + 1 from by omega]
    simp only [List.length_singleton]
    rw [e]
    simp
  · rw [dec_step (by omega), List.length_append, List.length_singleton, show k + 1 - ((Lib.decDigits (r / 10)).length + 1) = k - (Lib.decDigits (r / 10)).length from by omega, List.append_assoc]
theorem dec_split {k q r : Nat} (hk : 1 ≤ k) (hq : 0 < q) (h : r < 10 ^ k) : Lib.decDigits (q * 10 ^ k + r) = Lib.decDigits q ++ pad k r := by
  induction k generalizing r with
  | zero => omega
  | succ k ih =>
    have hp : 0 < 10 ^ k := Nat.pow_pos (by decide)
    have h10 : 10 ≤ q * 10 ^ (k + 1) + r := by
      rw [Nat.pow_succ]
      have : 1 * 1 ≤ q * 10 ^ k := Nat.mul_le_mul hq hp
      rw [← Nat.mul_assoc]
      omega
    have e1 : (q * 10 ^ (k + 1) + r) / 10 = q * 10 ^ k + r / 10 := by rw [Nat.pow_succ, ← Nat.mul_assoc]; omega
    have e2 : (q * 10 ^ (k + 1) + r) % 10 = r % 10 := by rw [Nat.pow_succ, ← Nat.mul_assoc]; omega
    rw [dec_step h10, e1, e2]
    by_cases hk0 : k = 0
    · subst hk0
      simp at h
      rw [show r / 10 = 0 from by omega, Nat.add_zero, Nat.pow_zero, Nat.mul_one, show r % 10 = r from by omega]
      unfold pad
      rw [dec_small h]
      simp
    · rw [ih (by omega) (by rw [Nat.pow_succ] at h; omega), pad_step (by omega) h, List.append_assoc]

end Go.Proofs.YtoibaeilbolffaaGreatDoor
