/-
  float.scaled, Half, Single, cutToHalf, ToHalf, ToSingle: the contracts, for every word of each width.
-/
import Derived.Test.YtfbkifcgdkgllaaDoorFltA
import Derived.Laws.FloatArith
import Derived.Laws.Cover2
namespace Go.Proofs.YtfbkifcgdkgllaaDoor
open Go.RowKit Go.Shelf

theorem f64bits (x : Nat) (w : World) : (callFunc 102 #[.float .f64 x]).run Tryd.prog w = .ok (.value (.int .u64 x)) w := by kernel_rfl
theorem f64from (x : Nat) (w : World) : (callFunc 95 #[.int .u64 x]).run Tryd.prog w = .ok (.value (.float .f64 x)) w := by kernel_rfl
theorem f32bits (x : Nat) (w : World) : (callFunc 94 #[.float .f32 x]).run Tryd.prog w = .ok (.value (.int .u32 x)) w := by kernel_rfl
theorem f32from (x : Nat) (w : World) : (callFunc 103 #[.int .u32 x]).run Tryd.prog w = .ok (.value (.float .f32 x)) w := by kernel_rfl

theorem scaled_zero (p : Int) (w : World) :
    Calls Tryd.prog 99 #[.int .u64 0, .int .i64 p] w fun e w' => e = .returned (.int .u64 0) ∧ w' = w := by
  go_enter Tryd.func99, Tryd.ntmps99
  go_wp2
  go_ret
  exact ⟨rfl, rfl⟩
set_option maxRecDepth 100000 in
theorem scaled_core (d p y : Int) (x : Nat) (h0 : (d == 0) = false) (h1 : floatOfInt .f64 d = x) (hy : IntKind.u64.wrap (↑x + IntKind.u64.wrap (IntKind.u64.wrap p * 4503599627370496)) = y) (w : World) :
    Calls Tryd.prog 99 #[.int .u64 d, .int .i64 p] w fun e w' => e = .returned (.int .u64 y) ∧ w' = w := by
  have hb := fun W => f64bits x W
  have HY := Lib.hid hy; clear hy
  go_enter Tryd.func99, Tryd.ntmps99
  go_wp2
  go_ret
  exact ⟨by rw [← HY.out]; rfl, rfl⟩
theorem scaled_any (d : Nat) (p : Int) (h : d ≠ 0) (hl : d.log2 ≤ 52) (h0 : -1022 ≤ p + (d.log2 : Nat)) (h1 : p + (d.log2 : Nat) ≤ 1023) (w : World) :
    Calls Tryd.prog 99 #[.int .u64 d, .int .i64 p] w fun e w' => e = .returned (.int .u64 (nr d p : Nat)) ∧ w' = w := by
  have hb := top_bounds h hl
  refine scaled_core (d : Int) p _ (nr d 0) (by rw [beq_eq_false_iff_ne]; omega) ?_ ?_ w
  · have := near_dbl false (d := d) (p := 0) h hl (by omega) (by omega)
    rw [Bool.toNat_false, Nat.zero_mul, Nat.zero_add] at this
    rw [← this]
    show Ieee.double.nearest (decide ((d : Int) < 0)) ((d : Int).natAbs) 0 = _
    rw [decide_eq_false (by omega), Int.natAbs_natCast]
  · rw [IntKind.wrap_u64, IntKind.wrap_u64, IntKind.wrap_u64]
    unfold nr
    generalize d * 2 ^ (52 - d.log2) = M at *
    rw [show (2 : Nat) ^ 52 = 4503599627370496 from by decide, show (2 : Nat) ^ (52 + 1) = 9007199254740992 from by decide] at hb
    generalize d.log2 = l at *
    omega

set_option maxRecDepth 100000 in
theorem half_norm (h F D y z R : Int) (h0 : 0 ≤ h) (h1 : h < 65536) (e1 : bits .and .u16 (h / 1024) 31 = F) (e2 : bits .and .u16 h 1023 = D) (hF0 : 1 ≤ F) (hF1 : F < 31) (hD0 : 0 ≤ D) (hD1 : D < 1024)
    (e3 : bits .or .u64 1024 D = y) (e4 : bits .or .u64 (h / 32768 * 9223372036854775808) z = R)
    (c : ∀ W, Calls Tryd.prog 99 #[.int .u64 y, .int .i64 (F - 1 + -24)] W fun e w' => e = .returned (.int .u64 z) ∧ w' = W) (w : World) :
    Calls Tryd.prog 60 #[.int .u16 h] w fun e w' => e = .returned (.int .u64 R) ∧ w' = w := by
  have C := Lib.hid c; clear c
  have h3 : ((F == 0) : Bool) = false := by rw [beq_eq_false_iff_ne]; omega
  have h4 : ((F == 31) : Bool) = false := by rw [beq_eq_false_iff_ne]; omega
  go_enter Tryd.func60, Tryd.ntmps60
  go_wp2_with fail
  refine (C.out _).mono ?_
  rintro e w1 ⟨rfl, rfl⟩
  go_wp2
  go_ret
  exact ⟨rfl, rfl⟩
set_option maxRecDepth 100000 in
theorem half_sub (h D z R : Int) (h0 : 0 ≤ h) (h1 : h < 65536) (e1 : bits .and .u16 (h / 1024) 31 = 0) (e2 : bits .and .u16 h 1023 = D) (hD0 : 0 ≤ D) (hD1 : D < 1024)
    (e4 : bits .or .u64 (h / 32768 * 9223372036854775808) z = R)
    (c : ∀ W, Calls Tryd.prog 99 #[.int .u64 D, .int .i64 (-24)] W fun e w' => e = .returned (.int .u64 z) ∧ w' = W) (w : World) :
    Calls Tryd.prog 60 #[.int .u16 h] w fun e w' => e = .returned (.int .u64 R) ∧ w' = w := by
  have C := Lib.hid c; clear c
  go_enter Tryd.func60, Tryd.ntmps60
  go_wp2_with fail
  refine (C.out _).mono ?_
  rintro e w1 ⟨rfl, rfl⟩
  go_wp2
  go_ret
  exact ⟨rfl, rfl⟩
set_option maxRecDepth 100000 in
theorem half_inf (h R : Int) (h0 : 0 ≤ h) (h1 : h < 65536) (e1 : bits .and .u16 (h / 1024) 31 = 31) (e2 : bits .and .u16 h 1023 = 0)
    (e4 : bits .or .u64 (h / 32768 * 9223372036854775808) 9218868437227405312 = R) (w : World) :
    Calls Tryd.prog 60 #[.int .u16 h] w fun e w' => e = .returned (.int .u64 R) ∧ w' = w := by
  go_enter Tryd.func60, Tryd.ntmps60
  go_wp2
  go_ret
  exact ⟨rfl, rfl⟩
set_option maxRecDepth 100000 in
theorem half_nan (h D : Int) (h0 : 0 ≤ h) (h1 : h < 65536) (e1 : bits .and .u16 (h / 1024) 31 = 31) (e2 : bits .and .u16 h 1023 = D) (hD0 : 1 ≤ D) (hD1 : D < 1024) (w : World) :
    Calls Tryd.prog 60 #[.int .u16 h] w fun e w' => e = .returned (.int .u64 9221120237041090560) ∧ w' = w := by
  have h4 : ((D == 0) : Bool) = false := by rw [beq_eq_false_iff_ne]; omega
  have h5 : ((D != 0) : Bool) = true := by rw [bne_iff_ne]; omega
  go_enter Tryd.func60, Tryd.ntmps60
  go_wp2
  go_ret
  exact ⟨rfl, rfl⟩
theorem or_sign (n r : Nat) (hn : n < 2) (hr : r < 9223372036854775808) : bits .or .u64 ((n : Int) * 9223372036854775808) (r : Int) = ((n * 9223372036854775808 + r : Nat) : Int) := by
  have h := u64_or_nat (n * 9223372036854775808) r (by omega) (by omega)
  have h2 := Nat.two_pow_add_eq_or_of_lt (i := 63) (b := r) hr n
  rw [show (2 : Nat) ^ 63 = 9223372036854775808 from by decide, Nat.mul_comm] at h2
  rw [← h2] at h
  exact h
theorem or_1024 (d : Nat) (h : d < 1024) : bits .or .u64 1024 (d : Int) = ((1024 + d : Nat) : Int) := by
  have h1 := u64_or_nat 1024 d (by decide) (by omega)
  have h2 := Nat.two_pow_add_eq_or_of_lt (i := 10) (b := d) h 1
  rw [Nat.mul_one, show (2 : Nat) ^ 10 = 1024 from by decide] at h2
  rw [← h2] at h1
  exact h1
theorem half_field (h : Nat) (hh : h < 65536) : bits .and .u16 ((h : Int) / 1024) 31 = ((h % 32768 / 1024 : Nat) : Int) := by
  have h2 := u16_and_nat (h / 1024) 31 (by omega) (by decide)
  rw [show (31 : Nat) = 2 ^ 5 - 1 from by decide, Nat.and_two_pow_sub_one_eq_mod] at h2
  rw [show h % 32768 / 1024 = h / 1024 % 2 ^ 5 from by omega]
  exact h2
theorem half_frac (h : Nat) (hh : h < 65536) : bits .and .u16 (h : Int) 1023 = ((h % 1024 : Nat) : Int) := by
  have h2 := u16_and_nat h 1023 (by omega) (by decide)
  rw [show (1023 : Nat) = 2 ^ 10 - 1 from by decide, Nat.and_two_pow_sub_one_eq_mod] at h2
  exact h2
theorem half_or (h r : Nat) (hh : h < 65536) (hr : r < 9223372036854775808) : bits .or .u64 ((h : Int) / 32768 * 9223372036854775808) (r : Int) = ((h / 32768 * 9223372036854775808 + r : Nat) : Int) :=
  or_sign (h / 32768) r (by omega) hr
theorem half_any_nan (h : Nat) (hh : h < 65536) (k1 : 31744 < h % 32768) (w : World) : Calls Tryd.prog 60 #[.int .u16 (h : Int)] w fun e w' => e = .returned (.int .u64 (hlf h : Nat)) ∧ w' = w := by
  rw [hlf_nan k1]
  exact half_nan h _ (by omega) (by omega) (by rw [half_field h hh]; omega) (half_frac h hh) (by omega) (by omega) w
theorem castI : ((9218868437227405312 : Nat) : Int) = 9218868437227405312 := by decide
theorem half_any_inf (h : Nat) (hh : h < 65536) (k1 : h % 32768 = 31744) (w : World) : Calls Tryd.prog 60 #[.int .u16 (h : Int)] w fun e w' => e = .returned (.int .u64 (hlf h : Nat)) ∧ w' = w := by
  have e : hlf h = h / 32768 * 9223372036854775808 + 9218868437227405312 := by unfold hlf; rw [if_neg (by omega), if_pos k1]
  rw [e]
  have e4 := half_or h 9218868437227405312 hh (by decide)
  rw [castI] at e4
  have e1 := half_field h hh
  have e2 := half_frac h hh
  rw [show h % 32768 / 1024 = 31 from by omega] at e1
  rw [show h % 1024 = 0 from by omega] at e2
  exact half_inf h _ (by omega) (by omega) e1 e2 e4 w
theorem half_any_zero (h : Nat) (hh : h < 65536) (k1 : h % 32768 = 0) (w : World) : Calls Tryd.prog 60 #[.int .u16 (h : Int)] w fun e w' => e = .returned (.int .u64 (hlf h : Nat)) ∧ w' = w := by
  have e : hlf h = h / 32768 * 9223372036854775808 + 0 := by unfold hlf; rw [if_neg (by omega), if_neg (by omega), if_pos (by omega), if_pos k1]
  rw [e]
  exact half_sub h 0 0 _ (by omega) (by omega) (by rw [half_field h hh]; omega) (by rw [half_frac h hh]; omega) (by omega) (by omega) (half_or h 0 hh (by decide)) (fun W => scaled_zero _ W) w
theorem half_any_sub (h : Nat) (hh : h < 65536) (k1 : h % 32768 < 1024) (k0 : h % 32768 ≠ 0) (w : World) : Calls Tryd.prog 60 #[.int .u16 (h : Int)] w fun e w' => e = .returned (.int .u64 (hlf h : Nat)) ∧ w' = w := by
  have e : hlf h = h / 32768 * 9223372036854775808 + nr (h % 32768) (-24) := by unfold hlf; rw [if_neg (by omega), if_neg (by omega), if_pos (by omega), if_neg k0]
  have hl : (h % 32768).log2 < 10 := lg_small k0 k1
  have hb := (nr_spec (d := h % 32768) (p := -24) k0 (by omega) (by omega) (by omega)).1
  have hs := fun W => scaled_any (h % 32768) (-24) k0 (by omega) (by omega) (by omega) W
  rw [e]
  generalize nr (h % 32768) (-24) = z at *
  exact half_sub h ((h % 32768 : Nat) : Int) z _ (by omega) (by omega) (by rw [half_field h hh]; omega) (by rw [half_frac h hh]; omega) (by omega) (by omega) (half_or h z hh (Nat.lt_trans hb (by decide))) hs w
theorem half_any_norm (h : Nat) (hh : h < 65536) (k1 : 1024 ≤ h % 32768) (k2 : h % 32768 < 31744) (w : World) : Calls Tryd.prog 60 #[.int .u16 (h : Int)] w fun e w' => e = .returned (.int .u64 (hlf h : Nat)) ∧ w' = w := by
  have e : hlf h = h / 32768 * 9223372036854775808 + (h % 32768 * 4398046511104 + 4539628424389459968) := by unfold hlf; rw [if_neg (by omega), if_neg (by omega), if_neg (by omega)]
  have hl : (1024 + h % 32768 % 1024).log2 = 10 := lg_unique (by omega) (by omega)
  have en := hlf_norm (r := h % 32768) k1 k2
  have hs := fun W => scaled_any (1024 + h % 32768 % 1024) (((h % 32768 / 1024 : Nat) : Int) - 25) (by omega) (by omega) (by omega) (by omega) W
  have hz : h % 32768 * 4398046511104 + 4539628424389459968 < 9223372036854775808 := by omega
  rw [en] at hs
  rw [e]
  obtain ⟨z, ez⟩ : ∃ z, z = h % 32768 * 4398046511104 + 4539628424389459968 := ⟨_, rfl⟩
  rw [← ez] at hs hz ⊢
  have h25 : ((h % 32768 / 1024 : Nat) : Int) - 25 = ((h % 32768 / 1024 : Nat) : Int) - 1 + -24 := by omega
  rw [h25] at hs
  have ho := or_1024 (h % 1024) (by omega)
  rw [show 1024 + h % 1024 = 1024 + h % 32768 % 1024 from by omega] at ho
  exact half_norm h _ _ _ z _ (by omega) (by omega) (half_field h hh) (half_frac h hh) (by omega) (by omega) (by omega) (by omega) ho (half_or h z hh hz) hs w
theorem half_any (h : Nat) (hh : h < 65536) (w : World) : Calls Tryd.prog 60 #[.int .u16 (h : Int)] w fun e w' => e = .returned (.int .u64 (hlf h : Nat)) ∧ w' = w := by
  by_cases k1 : 31744 < h % 32768
  · exact half_any_nan h hh k1 w
  by_cases k2 : h % 32768 = 31744
  · exact half_any_inf h hh k2 w
  by_cases k3 : h % 32768 < 1024
  · by_cases k4 : h % 32768 = 0
    · exact half_any_zero h hh k4 w
    · exact half_any_sub h hh k3 k4 w
  · exact half_any_norm h hh (by omega) (by omega) w
end Go.Proofs.YtfbkifcgdkgllaaDoor
