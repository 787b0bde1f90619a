/-
  Shifts of numbers of four words, limb by limb: plain arithmetic. For every number, every place.
-/
import Derived.Test.YtjlgiejggcbgbaaGreatDoorNatLen
import Derived.Laws.BitsAllLaws
namespace Go.Proofs.YtjlgiejggcbgbaaGreatDoor
open Go.RowKit

/-- Low bits and high bits beside each other. -/
theorem or_split {a u y : Nat} (ha : a ≤ 64) (hu : u < 2 ^ a) : ((y % 2 ^ 64) * 2 ^ a % 2 ^ 64) ||| u = (u + 2 ^ a * y) % 2 ^ 64 := by
  have e : (y % 2 ^ 64) * 2 ^ a % 2 ^ 64 = 2 ^ a * (y % 2 ^ (64 - a)) := by
    have h64 : (2 : Nat) ^ 64 = 2 ^ a * 2 ^ (64 - a) := by rw [← Nat.pow_add]; congr 1; omega
    rw [Nat.mul_comm, ← Nat.mul_mod_mul_left (2 ^ a) y (2 ^ (64 - a)), ← h64, Nat.mul_mod, Nat.mod_mod, ← Nat.mul_mod]
  rw [e, ← Nat.two_pow_add_eq_or_of_lt hu]
  have h64 : (2 : Nat) ^ 64 = 2 ^ a * 2 ^ (64 - a) := by rw [← Nat.pow_add]; congr 1; omega
  have d1 := Nat.div_add_mod y (2 ^ (64 - a))
  have hm : y % 2 ^ (64 - a) < 2 ^ (64 - a) := Nat.mod_lt _ (Nat.two_pow_pos _)
  have lt : 2 ^ a * (y % 2 ^ (64 - a)) + u < 2 ^ 64 := by
    rw [h64]
    have : 2 ^ a * (y % 2 ^ (64 - a) + 1) ≤ 2 ^ a * 2 ^ (64 - a) := Nat.mul_le_mul_left _ hm
    rw [Nat.mul_add, Nat.mul_one] at this
    omega
  have e2 : u + 2 ^ a * y = (2 ^ a * (y % 2 ^ (64 - a)) + u) + 2 ^ 64 * (y / 2 ^ (64 - a)) := by
    conv => lhs; rw [← d1]
    rw [Nat.mul_add, ← Nat.mul_assoc, ← h64]
    omega
  rw [e2, Nat.add_mul_mod_self_left, Nat.mod_eq_of_lt lt]

theorem wrap_mul_pow (n k : Nat) : IntKind.u64.wrap ((n : Int) * 2 ^ k) = ((n * 2 ^ k % 2 ^ 64 : Nat) : Int) := by
  have e : (n : Int) * 2 ^ k = ((n * 2 ^ k : Nat) : Int) := by rw [Int.natCast_mul, Int.natCast_pow]; rfl
  rw [e, IntKind.wrap_u64]
  omega
/-- A number's limb, as a natural number. -/
theorem limb_nat (x i : Nat) : limb x (i : Int) = ((x / 2 ^ (64 * i) % 2 ^ 64 : Nat) : Int) := by
  unfold limb lb
  rw [if_neg (by omega), Int.toNat_natCast]
theorem limb_neg (x : Nat) {i : Int} (h : i < 0) : limb x i = 0 := by unfold limb; rw [if_pos h]

/-- What nat.Shl stores at a place. -/
def shlv (x : Nat) (j r : Int) : Int := bits .or .u64 (IntKind.u64.wrap (limb x j * 2 ^ r.toNat)) (limb x (j - 1) / 2 ^ min (64 - r).toNat 64)
/-- What nat.Shr stores at a place. -/
def shrv (x : Nat) (j r : Int) : Int := bits .or .u64 (limb x j / 2 ^ r.toNat) (IntKind.u64.wrap (limb x (j + 1) * 2 ^ min (64 - r).toNat 64))

theorem shlv_lb (x q r i : Nat) (hr : r < 64) : shlv x ((i : Int) - q) r = lb i (x * 2 ^ (64 * q + r)) := by
  unfold shlv
  have er : ((r : Nat) : Int).toNat = r := Int.toNat_natCast r
  have em : min (64 - ((r : Nat) : Int)).toNat 64 = 64 - r := by omega
  rw [er, em]
  by_cases h : i < q
  · rw [limb_neg x (by omega), limb_neg x (by omega)]
    have e0 : lb i (x * 2 ^ (64 * q + r)) = 0 := by
      unfold lb
      have : x * 2 ^ (64 * q + r) = 2 ^ (64 * i) * (18446744073709551616 * (2 ^ (64 * (q - i - 1) + r) * x)) := by
        rw [show (18446744073709551616 : Nat) = 2 ^ 64 from rfl, ← Nat.mul_assoc, ← Nat.mul_assoc, ← Nat.pow_add, ← Nat.pow_add, Nat.mul_comm]
        congr 2; omega
      rw [this, Nat.mul_div_cancel_left _ (Nat.two_pow_pos _), Nat.mul_mod_right]; rfl
    rw [e0, Int.zero_mul, Int.zero_ediv]
    rfl
  · obtain ⟨j, rfl⟩ : ∃ j, i = q + j := ⟨i - q, by omega⟩
    have ej : ((q + j : Nat) : Int) - q = (j : Int) := by omega
    rw [ej, limb_nat]
    have top : x * 2 ^ (64 * q + r) / 2 ^ (64 * (q + j)) = x * 2 ^ r / 2 ^ (64 * j) := by
      rw [show 64 * (q + j) = 64 * j + 64 * q from by omega, Nat.add_comm (64 * q) r, Nat.pow_add, Nat.pow_add, ← Nat.mul_assoc]
      exact Nat.mul_div_mul_right _ _ (Nat.two_pow_pos _)
    unfold lb
    rw [top]
    have hor : ∀ u y : Nat, u < 2 ^ r → bits .or .u64 (IntKind.u64.wrap (((y % 2 ^ 64 : Nat) : Int) * 2 ^ r)) (u : Int) = (((u + 2 ^ r * y) % 2 ^ 64 : Nat) : Int) := fun u y hu => by
      have e1 : IntKind.u64.wrap (((y % 2 ^ 64 : Nat) : Int) * 2 ^ r) = (((y % 2 ^ 64) * 2 ^ r % 2 ^ 64 : Nat) : Int) := wrap_mul_pow _ _
      have hu64 : u < 18446744073709551616 := Nat.lt_of_lt_of_le hu (Nat.pow_le_pow_right (n := 2) (by omega) (show r ≤ 64 by omega))
      rw [e1, u64_or_nat _ _ (Nat.mod_lt _ (by decide)) hu64, or_split (by omega) hu]
    cases j with
    | zero =>
      rw [limb_neg x (by omega), Int.zero_ediv]
      have := hor 0 x (Nat.two_pow_pos _)
      simp only [Nat.mul_zero, Nat.pow_zero, Nat.div_one, Nat.zero_add] at this ⊢
      rw [Nat.mul_comm x]
      exact this
    | succ j =>
      rw [show ((j + 1 : Nat) : Int) - 1 = (j : Int) from by omega, limb_nat]
      have hdiv : ((x / 2 ^ (64 * j) % 2 ^ 64 : Nat) : Int) / 2 ^ (64 - r) = ((x / 2 ^ (64 * j) % 2 ^ 64 / 2 ^ (64 - r) : Nat) : Int) := by
        generalize x / 2 ^ (64 * j) % 2 ^ 64 = n
        rw [Int.natCast_ediv, Int.natCast_pow]; rfl
      have h64 : (2 : Nat) ^ 64 = 2 ^ (64 - r) * 2 ^ r := by rw [← Nat.pow_add]; congr 1; omega
      have hu : x / 2 ^ (64 * j) % 2 ^ 64 / 2 ^ (64 - r) < 2 ^ r := by
        apply Nat.div_lt_of_lt_mul
        rw [← h64]; exact Nat.mod_lt _ (by decide)
      rw [hdiv, hor _ _ hu]
      congr 1
      have e3 : x * 2 ^ r / 2 ^ (64 * (j + 1)) = x / 2 ^ (64 * j) / 2 ^ (64 - r) := by
        rw [show 64 * (j + 1) = 64 * j + (64 - r) + r from by omega, Nat.pow_add, Nat.mul_div_mul_right _ _ (Nat.two_pow_pos _), Nat.pow_add, Nat.div_div_eq_div_mul]
      have e4 : x / 2 ^ (64 * (j + 1)) = x / 2 ^ (64 * j) / 2 ^ 64 := by
        rw [show 64 * (j + 1) = 64 * j + 64 from by omega, Nat.pow_add, Nat.div_div_eq_div_mul]
      rw [e3, e4]
      generalize x / 2 ^ (64 * j) = y
      have d := Nat.div_add_mod y (2 ^ 64)
      have : y / 2 ^ (64 - r) = y % 2 ^ 64 / 2 ^ (64 - r) + 2 ^ r * (y / 2 ^ 64) := by
        conv => lhs; rw [← d, h64, Nat.mul_assoc, Nat.add_comm, Nat.add_mul_div_left _ _ (Nat.two_pow_pos _)]
        rw [← h64]
      rw [this]

theorem shrv_lb (x q r i : Nat) (hr : r < 64) : shrv x ((i : Int) + q) r = lb i (x / 2 ^ (64 * q + r)) := by
  unfold shrv
  have er : ((r : Nat) : Int).toNat = r := Int.toNat_natCast r
  have em : min (64 - ((r : Nat) : Int)).toNat 64 = 64 - r := by omega
  rw [er, em, show (i : Int) + q = ((i + q : Nat) : Int) from by omega, show ((i + q : Nat) : Int) + 1 = ((i + q + 1 : Nat) : Int) from by omega, limb_nat, limb_nat]
  unfold lb
  have top : x / 2 ^ (64 * q + r) / 2 ^ (64 * i) = x / 2 ^ (64 * (i + q)) / 2 ^ r := by
    rw [Nat.div_div_eq_div_mul, Nat.div_div_eq_div_mul, ← Nat.pow_add, ← Nat.pow_add]; congr 2; omega
  have e4 : x / 2 ^ (64 * (i + q + 1)) = x / 2 ^ (64 * (i + q)) / 2 ^ 64 := by
    rw [show 64 * (i + q + 1) = 64 * (i + q) + 64 from by omega, Nat.pow_add, Nat.div_div_eq_div_mul]
  rw [top, e4]
  generalize x / 2 ^ (64 * (i + q)) = y
  have h64 : (2 : Nat) ^ 64 = 2 ^ r * 2 ^ (64 - r) := by rw [← Nat.pow_add]; congr 1; omega
  have hu : y % 2 ^ 64 / 2 ^ r < 2 ^ (64 - r) := by
    apply Nat.div_lt_of_lt_mul
    rw [← h64]; exact Nat.mod_lt _ (by decide)
  have hdiv : ((y % 2 ^ 64 : Nat) : Int) / 2 ^ r = ((y % 2 ^ 64 / 2 ^ r : Nat) : Int) := by
    generalize y % 2 ^ 64 = n
    rw [Int.natCast_ediv, Int.natCast_pow]; rfl
  have e1 : IntKind.u64.wrap (((y / 2 ^ 64 % 2 ^ 64 : Nat) : Int) * 2 ^ (64 - r)) = (((y / 2 ^ 64 % 2 ^ 64) * 2 ^ (64 - r) % 2 ^ 64 : Nat) : Int) := wrap_mul_pow _ _
  have hu64 : y % 2 ^ 64 / 2 ^ r < 18446744073709551616 := Nat.lt_of_le_of_lt (Nat.div_le_self _ _) (Nat.mod_lt _ (by decide))
  rw [hdiv, e1, u64_or_nat _ _ hu64 (Nat.mod_lt _ (by decide)), Nat.or_comm, or_split (by omega) hu]
  congr 1
  have d := Nat.div_add_mod y (2 ^ 64)
  have : y / 2 ^ r = y % 2 ^ 64 / 2 ^ r + 2 ^ (64 - r) * (y / 2 ^ 64) := by
    conv => lhs; rw [← d, h64, Nat.mul_assoc, Nat.add_comm, Nat.add_mul_div_left _ _ (Nat.two_pow_pos _)]
    rw [← h64]
  rw [this]

end Go.Proofs.YtjlgiejggcbgbaaGreatDoor
