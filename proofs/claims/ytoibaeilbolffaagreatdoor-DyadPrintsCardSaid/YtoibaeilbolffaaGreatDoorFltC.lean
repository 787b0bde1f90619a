/-
  float.cutToHalf, ToHalf, Single, ToSingle: the contracts, for every word of each width.
-/
import Derived.Test.YtoibaeilbolffaaGreatDoorFltB
namespace Go.Proofs.YtoibaeilbolffaaGreatDoor
open Go.RowKit Go.Shelf

theorem shr_at (Y k : Nat) (w : World) : (Op.shift .shr .u64 (Y : Int) .i64 (k : Int)).run Tryz.prog w = .ok (.int .u64 ((Y / 2 ^ min k 64 : Nat) : Int)) w := by
  have h : ¬ ((k : Int) < 0) := by omega
  have e : (Y : Int).fdiv (2 ^ min k 64) = ((Y / 2 ^ min k 64 : Nat) : Int) := by
    rw [Int.fdiv_eq_ediv_of_nonneg _ (Int.pow_nonneg (by decide)), Int.natCast_ediv, Int.natCast_pow]; rfl
  unfold Op.shift
  rw [if_neg h]
  simp only [IntKind.bits, Int.toNat_natCast, e]
  rfl
theorem shr_big {Y k : Nat} (h : Y < 2 ^ 64) : Y / 2 ^ min k 64 = Y / 2 ^ k := by
  by_cases hk : k ≤ 64
  · rw [Nat.min_eq_left hk]
  · have h2 : 2 ^ 64 ≤ 2 ^ k := Nat.pow_le_pow_right (by decide) (by omega)
    rw [Nat.min_eq_right (by omega), Nat.div_eq_of_lt h, Nat.div_eq_of_lt (Nat.lt_of_lt_of_le h h2)]
theorem or_16 (n r : Nat) (hn : n < 2) (hr : r < 32768) : bits .or .u16 ((n : Int) * 32768) (r : Int) = ((n * 32768 + r : Nat) : Int) := by
  have h := u16_or_nat (n * 32768) r (by omega) (by omega)
  have h2 := Nat.two_pow_add_eq_or_of_lt (i := 15) (b := r) hr n
  rw [show (2 : Nat) ^ 15 = 32768 from by decide, Nat.mul_comm] at h2
  rw [← h2] at h
  exact h
theorem or_10 (n r : Nat) (hn : n < 64) (hr : r < 1024) : bits .or .u16 ((n * 1024 : Nat) : Int) (r : Int) = ((n * 1024 + r : Nat) : Int) := by
  have h := u16_or_nat (n * 1024) r (by omega) (by omega)
  have h2 := Nat.two_pow_add_eq_or_of_lt (i := 10) (b := r) hr n
  rw [show (2 : Nat) ^ 10 = 1024 from by decide, Nat.mul_comm] at h2
  rw [← h2] at h
  exact h
theorem hid_bits' (b : Nat) : bits .or .u64 4503599627370496 ((b % 4503599627370496 : Nat) : Int) = ((4503599627370496 + b % 4503599627370496 : Nat) : Int) := by
  have h := u64_or_nat 4503599627370496 (b % 4503599627370496) (by decide) (by omega)
  have h2 := Nat.two_pow_add_eq_or_of_lt (i := 52) (b := b % 4503599627370496) (by omega) 1
  rw [Nat.mul_one, show (2 : Nat) ^ 52 = 4503599627370496 from by decide] at h2
  rw [← h2] at h
  exact h
end Go.Proofs.YtoibaeilbolffaaGreatDoor
