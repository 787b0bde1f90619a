/-
  float.scaled, Half, Single, cutToHalf, ToHalf, ToSingle: the contracts, for every word of each width.
-/
import Derived.Test.YtoibaeilbolffaaGreatDoorFltA
import Derived.Laws.FloatArith
import Derived.Laws.Cover2
namespace Go.Proofs.YtoibaeilbolffaaGreatDoor
open Go.RowKit Go.Shelf

theorem f64bits (x : Nat) (w : World) : (callFunc 61 #[.float .f64 x]).run Tryz.prog w = .ok (.value (.int .u64 x)) w := by kernel_rfl
theorem f64from (x : Nat) (w : World) : (callFunc 60 #[.int .u64 x]).run Tryz.prog w = .ok (.value (.float .f64 x)) w := by kernel_rfl
theorem scaled_zero (p : Int) (w : World) :
    Calls Tryz.prog 83 #[.int .u64 0, .int .i64 p] w fun e w' => e = .returned (.int .u64 0) ∧ w' = w := by
  go_enter Tryz.func83, Tryz.ntmps83
  go_wp2
  go_ret
  exact ⟨rfl, rfl⟩
set_option maxRecDepth 100000 in
theorem scaled_core (d p y : Int) (x : Nat) (h0 : (d == 0) = false) (h1 : floatOfInt .f64 d = x) (hy : IntKind.u64.wrap (↑x + IntKind.u64.wrap (IntKind.u64.wrap p * 4503599627370496)) = y) (w : World) :
    Calls Tryz.prog 83 #[.int .u64 d, .int .i64 p] w fun e w' => e = .returned (.int .u64 y) ∧ w' = w := by
  have hb := fun W => f64bits x W
  have HY := Lib.hid hy; clear hy
  go_enter Tryz.func83, Tryz.ntmps83
  go_wp2
  go_ret
  exact ⟨by rw [← HY.out]; rfl, rfl⟩
theorem scaled_any (d : Nat) (p : Int) (h : d ≠ 0) (hl : d.log2 ≤ 52) (h0 : -1022 ≤ p + (d.log2 : Nat)) (h1 : p + (d.log2 : Nat) ≤ 1023) (w : World) :
    Calls Tryz.prog 83 #[.int .u64 d, .int .i64 p] w fun e w' => e = .returned (.int .u64 (nr d p : Nat)) ∧ w' = w := by
  have hb := top_bounds h hl
  refine scaled_core (d : Int) p _ (nr d 0) (by rw [beq_eq_false_iff_ne]; omega) ?_ ?_ w
  · have := near_dbl false (d := d) (p := 0) h hl (by omega) (by omega)
    rw [Bool.toNat_false, Nat.zero_mul, Nat.zero_add] at this
    rw [← this]
    show Ieee.double.nearest (decide ((d : Int) < 0)) ((d : Int).natAbs) 0 = _
    rw [decide_eq_false (by omega), Int.natAbs_natCast]
  · rw [IntKind.wrap_u64, IntKind.wrap_u64, IntKind.wrap_u64]
    unfold nr
    generalize d * 2 ^ (52 - d.log2) = M at *
    rw [show (2 : Nat) ^ 52 = 4503599627370496 from by decide, show (2 : Nat) ^ (52 + 1) = 9007199254740992 from by decide] at hb
    generalize d.log2 = l at *
    omega

theorem or_sign (n r : Nat) (hn : n < 2) (hr : r < 9223372036854775808) : bits .or .u64 ((n : Int) * 9223372036854775808) (r : Int) = ((n * 9223372036854775808 + r : Nat) : Int) := by
  have h := u64_or_nat (n * 9223372036854775808) r (by omega) (by omega)
  have h2 := Nat.two_pow_add_eq_or_of_lt (i := 63) (b := r) hr n
  rw [show (2 : Nat) ^ 63 = 9223372036854775808 from by decide, Nat.mul_comm] at h2
  rw [← h2] at h
  exact h
theorem or_1024 (d : Nat) (h : d < 1024) : bits .or .u64 1024 (d : Int) = ((1024 + d : Nat) : Int) := by
  have h1 := u64_or_nat 1024 d (by decide) (by omega)
  have h2 := Nat.two_pow_add_eq_or_of_lt (i := 10) (b := d) h 1
  rw [Nat.mul_one, show (2 : Nat) ^ 10 = 1024 from by decide] at h2
  rw [← h2] at h1
  exact h1
theorem half_field (h : Nat) (hh : h < 65536) : bits .and .u16 ((h : Int) / 1024) 31 = ((h % 32768 / 1024 : Nat) : Int) := by
  have h2 := u16_and_nat (h / 1024) 31 (by omega) (by decide)
  rw [show (31 : Nat) = 2 ^ 5 - 1 from by decide, Nat.and_two_pow_sub_one_eq_mod] at h2
  rw [show h % 32768 / 1024 = h / 1024 % 2 ^ 5 from by omega]
  exact h2
theorem half_frac (h : Nat) (hh : h < 65536) : bits .and .u16 (h : Int) 1023 = ((h % 1024 : Nat) : Int) := by
  have h2 := u16_and_nat h 1023 (by omega) (by decide)
  rw [show (1023 : Nat) = 2 ^ 10 - 1 from by decide, Nat.and_two_pow_sub_one_eq_mod] at h2
  exact h2
theorem half_or (h r : Nat) (hh : h < 65536) (hr : r < 9223372036854775808) : bits .or .u64 ((h : Int) / 32768 * 9223372036854775808) (r : Int) = ((h / 32768 * 9223372036854775808 + r : Nat) : Int) :=
  or_sign (h / 32768) r (by omega) hr
theorem castI : ((9218868437227405312 : Nat) : Int) = 9218868437227405312 := by decide
end Go.Proofs.YtoibaeilbolffaaGreatDoor
