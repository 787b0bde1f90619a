/-
  nat.Mul: the contract, for all numbers of four words and all words.
-/
import Derived.Test.YtfaaagmjmljhiaaGreatDoorNatAdd
import Derived.Test.YtfaaagmjmljhiaaGreatDoorShelf
namespace Go.Proofs.YtfaaagmjmljhiaaGreatDoor
open Go.RowKit Go.Shelf

/-- One step of a product by limbs. -/
theorem mul_step {a m o : Int} (ha : Word a) (hm : Word m) (ho : Word o) : ∃ h l p c o' : Int, Word h ∧ Word l ∧ Word p ∧ (0 ≤ c ∧ c ≤ 1) ∧ Word o' ∧ h = ((a.toNat * m.toNat / 18446744073709551616 : Nat) : Int) ∧ l = ((a.toNat * m.toNat % 18446744073709551616 : Nat) : Int) ∧
    p + 18446744073709551616 * c = l + o + 0 ∧ IntKind.u64.wrap (h + c) = o' ∧ p + 18446744073709551616 * o' = a * m + o := by
  unfold Word at *
  obtain ⟨a, rfl⟩ := Int.eq_ofNat_of_zero_le ha.1
  obtain ⟨m, rfl⟩ := Int.eq_ofNat_of_zero_le hm.1
  obtain ⟨o, rfl⟩ := Int.eq_ofNat_of_zero_le ho.1
  have hp : a * m ≤ 18446744073709551615 * 18446744073709551615 := Nat.mul_le_mul (by omega) (by omega)
  refine ⟨_, _, (((a * m % 18446744073709551616 + o) % 18446744073709551616 : Nat) : Int), (((a * m % 18446744073709551616 + o) / 18446744073709551616 : Nat) : Int), ((a * m / 18446744073709551616 + (a * m % 18446744073709551616 + o) / 18446744073709551616 : Nat) : Int), ?_, ?_, ?_, ?_, ?_, rfl, rfl, ?_, ?_, ?_⟩
  all_goals (try simp only [Int.toNat_natCast, IntKind.wrap_u64, ← Int.natCast_mul])
  all_goals generalize a * m = q at *
  all_goals omega

end Go.Proofs.YtfaaagmjmljhiaaGreatDoor
