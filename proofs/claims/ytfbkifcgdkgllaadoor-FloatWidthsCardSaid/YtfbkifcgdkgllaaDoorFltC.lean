/-
  float.cutToHalf, ToHalf, Single, ToSingle: the contracts, for every word of each width.
-/
import Derived.Test.YtfbkifcgdkgllaaDoorFltB
namespace Go.Proofs.YtfbkifcgdkgllaaDoor
open Go.RowKit Go.Shelf

set_option maxRecDepth 100000 in
theorem cut_big (b F R : Int) (h0 : 0 ≤ b) (h1 : b < 18446744073709551616) (hF0 : 1039 ≤ F) (hF1 : F < 2048) (e1 : bits .or .u16 (b / 9223372036854775808 * 32768) 31744 = R)
    (c : ∀ W, Calls Tryd.prog 125 #[.int .u64 b] W fun e w' => e = .returned (.int .i64 F) ∧ w' = W) (w : World) :
    Calls Tryd.prog 97 #[.int .u64 b] w fun e w' => e = .returned (.int .u16 R) ∧ w' = w := by
  have C := Lib.hid c; clear c
  go_enter Tryd.func97, Tryd.ntmps97
  go_wp2_with fail
  refine (C.out _).mono ?_
  rintro e w1 ⟨rfl, rfl⟩
  go_wp2
  go_ret
  exact ⟨rfl, rfl⟩
set_option maxRecDepth 100000 in
theorem cut_mid (b F X Y R : Int) (h0 : 0 ≤ b) (h1 : b < 18446744073709551616) (hF0 : 1009 ≤ F) (hF1 : F < 1039) (eX : bits .and .u64 b 4503599627370495 = X) (hX0 : 0 ≤ X) (hX1 : X < 4503599627370496)
    (e1 : bits .or .u16 (b / 9223372036854775808 * 32768) ((F - 1023 + 15) * 1024) = Y) (e2 : bits .or .u16 Y (X / 4398046511104) = R)
    (c : ∀ W, Calls Tryd.prog 125 #[.int .u64 b] W fun e w' => e = .returned (.int .i64 F) ∧ w' = W) (w : World) :
    Calls Tryd.prog 97 #[.int .u64 b] w fun e w' => e = .returned (.int .u16 R) ∧ w' = w := by
  have C := Lib.hid c; clear c
  go_enter Tryd.func97, Tryd.ntmps97
  go_wp2_with fail
  refine (C.out _).mono ?_
  rintro e w1 ⟨rfl, rfl⟩
  go_wp2
  go_ret
  exact ⟨rfl, rfl⟩
set_option maxRecDepth 100000 in
theorem cut_low (b F X Y Z R : Int) (h0 : 0 ≤ b) (h1 : b < 18446744073709551616) (hF0 : 0 ≤ F) (hF1 : F < 1009) (eX : bits .and .u64 b 4503599627370495 = X)
    (eY : bits .or .u64 4503599627370496 X = Y) (hs : ∀ W, (Op.shift .shr .u64 Y .i64 (43 - (F - 1023 + 15))).run Tryd.prog W = .ok (.int .u64 Z) W) (hZ0 : 0 ≤ Z) (hZ1 : Z < 1024) (e2 : bits .or .u16 (b / 9223372036854775808 * 32768) Z = R)
    (c : ∀ W, Calls Tryd.prog 125 #[.int .u64 b] W fun e w' => e = .returned (.int .i64 F) ∧ w' = W) (w : World) :
    Calls Tryd.prog 97 #[.int .u64 b] w fun e w' => e = .returned (.int .u16 R) ∧ w' = w := by
  have C := Lib.hid c; clear c
  go_enter Tryd.func97, Tryd.ntmps97
  go_wp2_with fail
  refine (C.out _).mono ?_
  rintro e w1 ⟨rfl, rfl⟩
  go_wp2
  go_ret
  exact ⟨rfl, rfl⟩

theorem tohalf_nan (b : Int) (c : ∀ W, Calls Tryd.prog 93 #[.int .u64 b] W fun e w' => e = .returned (.bool true) ∧ w' = W) (w : World) :
    Calls Tryd.prog 57 #[.int .u64 b] w fun e w' => e = .returned (.tuple #[.int .u16 32256, .bool true]) ∧ w' = w := by
  have C := Lib.hid c; clear c
  go_enter Tryd.func57, Tryd.ntmps57
  go_wp2_with fail
  refine (C.out _).mono ?_
  rintro e w1 ⟨rfl, rfl⟩
  go_wp2
  go_ret2
  exact ⟨rfl, rfl⟩
theorem tohalf_yes (b h : Int) (c : ∀ W, Calls Tryd.prog 93 #[.int .u64 b] W fun e w' => e = .returned (.bool false) ∧ w' = W)
    (c2 : ∀ W, Calls Tryd.prog 97 #[.int .u64 b] W fun e w' => e = .returned (.int .u16 h) ∧ w' = W)
    (c3 : ∀ W, Calls Tryd.prog 60 #[.int .u16 h] W fun e w' => e = .returned (.int .u64 b) ∧ w' = W) (w : World) :
    Calls Tryd.prog 57 #[.int .u64 b] w fun e w' => e = .returned (.tuple #[.int .u16 h, .bool true]) ∧ w' = w := by
  have C := Lib.hid c; have C2 := Lib.hid c2; have C3 := Lib.hid c3; clear c c2 c3
  go_enter Tryd.func57, Tryd.ntmps57
  go_wp2_with fail
  refine (C.out _).mono ?_
  rintro e w1 ⟨rfl, rfl⟩
  go_wp2_with fail
  refine (C2.out _).mono ?_
  rintro e w1 ⟨rfl, rfl⟩
  go_wp2_with fail
  refine (C3.out _).mono ?_
  rintro e w1 ⟨rfl, rfl⟩
  go_wp2
  go_ret2
  exact ⟨rfl, rfl⟩
theorem tohalf_no (b h d : Int) (hne : (d != b) = true) (c : ∀ W, Calls Tryd.prog 93 #[.int .u64 b] W fun e w' => e = .returned (.bool false) ∧ w' = W)
    (c2 : ∀ W, Calls Tryd.prog 97 #[.int .u64 b] W fun e w' => e = .returned (.int .u16 h) ∧ w' = W)
    (c3 : ∀ W, Calls Tryd.prog 60 #[.int .u16 h] W fun e w' => e = .returned (.int .u64 d) ∧ w' = W) (w : World) :
    Calls Tryd.prog 57 #[.int .u64 b] w fun e w' => e = .returned (.tuple #[.int .u16 0, .bool false]) ∧ w' = w := by
  have C := Lib.hid c; have C2 := Lib.hid c2; have C3 := Lib.hid c3; clear c c2 c3
  go_enter Tryd.func57, Tryd.ntmps57
  go_wp2_with fail
  refine (C.out _).mono ?_
  rintro e w1 ⟨rfl, rfl⟩
  go_wp2_with fail
  refine (C2.out _).mono ?_
  rintro e w1 ⟨rfl, rfl⟩
  go_wp2_with fail
  refine (C3.out _).mono ?_
  rintro e w1 ⟨rfl, rfl⟩
  go_wp2
  go_ret2
  exact ⟨rfl, rfl⟩

theorem single_core (s d : Nat) (r : Int) (hc : ∀ W, (convert 98 99 (.float .f32 s)).run Tryd.prog W = .ok (.float .f64 d) W)
    (c : ∀ W, Calls Tryd.prog 101 #[.int .u64 d] W fun e w' => e = .returned (.int .u64 r) ∧ w' = W) (w : World) :
    Calls Tryd.prog 62 #[.int .u32 s] w fun e w' => e = .returned (.int .u64 r) ∧ ∃ n, w' = w.drewN n := by
  have C := Lib.hid c; clear c
  have hb := fun W => f64bits d W
  have hf := fun W => f32from s W
  go_enter Tryd.func62, Tryd.ntmps62
  go_wp2_with fail
  refine (C.out _).mono ?_
  rintro e w1 ⟨rfl, rfl⟩
  go_wp2
  go_ret
  exact ⟨rfl, 0, rfl⟩
theorem single_drawn (s : Nat) (d : World → Nat) (r : Int) (hc : ∀ W, (convert 98 99 (.float .f32 s)).run Tryd.prog W = .ok (.float .f64 (d W)) W.drew)
    (c : ∀ V W, Calls Tryd.prog 101 #[.int .u64 (d V : Nat)] W fun e w' => e = .returned (.int .u64 r) ∧ w' = W) (w : World) :
    Calls Tryd.prog 62 #[.int .u32 s] w fun e w' => e = .returned (.int .u64 r) ∧ ∃ n, w' = w.drewN n := by
  have C := Lib.hid c; clear c
  have hb := fun x W => f64bits x W
  have hf := fun W => f32from s W
  go_enter Tryd.func62, Tryd.ntmps62
  go_wp2_with fail
  refine (C.out _ _).mono ?_
  rintro e w1 ⟨rfl, rfl⟩
  go_wp2
  go_ret
  exact ⟨rfl, 1, rfl⟩
theorem shr_at (Y k : Nat) (w : World) : (Op.shift .shr .u64 (Y : Int) .i64 (k : Int)).run Tryd.prog w = .ok (.int .u64 ((Y / 2 ^ min k 64 : Nat) : Int)) w := by
  have h : ¬ ((k : Int) < 0) := by omega
  have e : (Y : Int).fdiv (2 ^ min k 64) = ((Y / 2 ^ min k 64 : Nat) : Int) := by
    rw [Int.fdiv_eq_ediv_of_nonneg _ (Int.pow_nonneg (by decide)), Int.natCast_ediv, Int.natCast_pow]; rfl
  unfold Op.shift
  rw [if_neg h]
  simp only [IntKind.bits, Int.toNat_natCast, e]
  rfl
theorem shr_big {Y k : Nat} (h : Y < 2 ^ 64) : Y / 2 ^ min k 64 = Y / 2 ^ k := by
  by_cases hk : k ≤ 64
  · rw [Nat.min_eq_left hk]
  · have h2 : 2 ^ 64 ≤ 2 ^ k := Nat.pow_le_pow_right (by decide) (by omega)
    rw [Nat.min_eq_right (by omega), Nat.div_eq_of_lt h, Nat.div_eq_of_lt (Nat.lt_of_lt_of_le h h2)]
theorem or_16 (n r : Nat) (hn : n < 2) (hr : r < 32768) : bits .or .u16 ((n : Int) * 32768) (r : Int) = ((n * 32768 + r : Nat) : Int) := by
  have h := u16_or_nat (n * 32768) r (by omega) (by omega)
  have h2 := Nat.two_pow_add_eq_or_of_lt (i := 15) (b := r) hr n
  rw [show (2 : Nat) ^ 15 = 32768 from by decide, Nat.mul_comm] at h2
  rw [← h2] at h
  exact h
theorem or_10 (n r : Nat) (hn : n < 64) (hr : r < 1024) : bits .or .u16 ((n * 1024 : Nat) : Int) (r : Int) = ((n * 1024 + r : Nat) : Int) := by
  have h := u16_or_nat (n * 1024) r (by omega) (by omega)
  have h2 := Nat.two_pow_add_eq_or_of_lt (i := 10) (b := r) hr n
  rw [show (2 : Nat) ^ 10 = 1024 from by decide, Nat.mul_comm] at h2
  rw [← h2] at h
  exact h
theorem hid_bits' (b : Nat) : bits .or .u64 4503599627370496 ((b % 4503599627370496 : Nat) : Int) = ((4503599627370496 + b % 4503599627370496 : Nat) : Int) := by
  have h := u64_or_nat 4503599627370496 (b % 4503599627370496) (by decide) (by omega)
  have h2 := Nat.two_pow_add_eq_or_of_lt (i := 52) (b := b % 4503599627370496) (by omega) 1
  rw [Nat.mul_one, show (2 : Nat) ^ 52 = 4503599627370496 from by decide] at h2
  rw [← h2] at h
  exact h
set_option maxRecDepth 100000 in
theorem cut_any (b : Nat) (hb : b < 18446744073709551616) (w : World) :
    Calls Tryd.prog 97 #[.int .u64 b] w fun e w' => e = .returned (.int .u16 (cuth b : Nat)) ∧ w' = w := by
  have hf := fun W => field_any b hb W
  have hn : b / 9223372036854775808 < 2 := by omega
  have hm := frac_bits b hb
  have hX : b % 4503599627370496 < 4503599627370496 := by omega
  by_cases k1 : 1039 ≤ b / 4503599627370496 % 2048
  · have e : cuth b = b / 9223372036854775808 * 32768 + 31744 := by unfold cuth; rw [if_pos k1]
    have h := or_16 (b / 9223372036854775808) 31744 hn (by decide)
    rw [e]
    exact cut_big b _ _ (by omega) (by omega) (show (1039 : Int) ≤ ((b / 4503599627370496 % 2048 : Nat) : Int) by omega) (by omega) h hf w
  · by_cases k2 : 1008 < b / 4503599627370496 % 2048
    · have e : cuth b = b / 9223372036854775808 * 32768 + ((b / 4503599627370496 % 2048 - 1008) * 1024 + b % 4503599627370496 / 4398046511104) := by unfold cuth; rw [if_neg k1, if_pos k2]
      have hx := or_16 (b / 9223372036854775808) ((b / 4503599627370496 % 2048 - 1008) * 1024) hn (by omega)
      have hy := or_10 (b / 9223372036854775808 * 32 + (b / 4503599627370496 % 2048 - 1008)) (b % 4503599627370496 / 4398046511104) (by omega) (by omega)
      rw [e]
      rw [show (((b / 4503599627370496 % 2048 - 1008) * 1024 : Nat) : Int) = (((b / 4503599627370496 % 2048 : Nat) : Int) - 1023 + 15) * 1024 from by omega,
        show b / 9223372036854775808 * 32768 + (b / 4503599627370496 % 2048 - 1008) * 1024 = (b / 9223372036854775808 * 32 + (b / 4503599627370496 % 2048 - 1008)) * 1024 from by omega] at hx
      rw [show (b / 9223372036854775808 * 32 + (b / 4503599627370496 % 2048 - 1008)) * 1024 + b % 4503599627370496 / 4398046511104 = b / 9223372036854775808 * 32768 + ((b / 4503599627370496 % 2048 - 1008) * 1024 + b % 4503599627370496 / 4398046511104) from by omega] at hy
      exact cut_mid b _ _ _ _ (by omega) (by omega) (show (1009 : Int) ≤ ((b / 4503599627370496 % 2048 : Nat) : Int) by omega) (by omega) hm (by omega) (by omega) hx hy hf w
    · have e : cuth b = b / 9223372036854775808 * 32768 + (4503599627370496 + b % 4503599627370496) / 2 ^ (1051 - b / 4503599627370496 % 2048) := by unfold cuth; rw [if_neg k1, if_neg k2]
      have hz : (4503599627370496 + b % 4503599627370496) / 2 ^ (1051 - b / 4503599627370496 % 2048) < 1024 := by
        have h1 : (4503599627370496 + b % 4503599627370496) / 2 ^ (1051 - b / 4503599627370496 % 2048) ≤ (4503599627370496 + b % 4503599627370496) / 2 ^ 43 :=
          Nat.div_le_div_left (Nat.pow_le_pow_right (by decide) (by omega)) (Nat.two_pow_pos _)
        omega
      have hs := fun W => shr_at (4503599627370496 + b % 4503599627370496) (1051 - b / 4503599627370496 % 2048) W
      rw [shr_big (by omega)] at hs
      rw [e]
      have hq : ((1051 - b / 4503599627370496 % 2048 : Nat) : Int) = 43 - (((b / 4503599627370496 % 2048 : Nat) : Int) - 1023 + 15) := by omega
      rw [hq] at hs
      obtain ⟨z, ez⟩ : ∃ z, z = (4503599627370496 + b % 4503599627370496) / 2 ^ (1051 - b / 4503599627370496 % 2048) := ⟨_, rfl⟩
      rw [← ez] at hz hs ⊢
      have hx := or_16 (b / 9223372036854775808) z hn (by omega)
      exact cut_low b _ _ _ z _ (by omega) (by omega) (show (0 : Int) ≤ ((b / 4503599627370496 % 2048 : Nat) : Int) by omega) (by omega) hm (hid_bits' b) hs (by omega) (by omega) hx hf w
theorem tohalf_any (b : Nat) (hb : b < 18446744073709551616) (w : World) :
    Calls Tryd.prog 57 #[.int .u64 b] w fun e w' => e = .returned (.tuple #[.int .u16 ((toh b).1 : Nat), .bool (toh b).2]) ∧ w' = w := by
  by_cases h : INF < rg b
  · rw [toh_nan h]
    exact tohalf_nan b (fun W => isnan_yes b hb h W) w
  · have hh := fun W => half_any (cuth b) (cuth_lt hb) W
    by_cases k : hlf (cuth b) = b
    · have e : toh b = (cuth b, true) := by unfold toh; rw [if_neg h, if_pos k]
      rw [e]
      rw [k] at hh
      exact tohalf_yes b _ (fun W => isnan_no b hb h W) (fun W => cut_any b hb W) hh w
    · have e : toh b = (0, false) := by unfold toh; rw [if_neg h, if_neg k]
      rw [e]
      exact tohalf_no b _ _ (by rw [bne_iff_ne]; omega) (fun W => isnan_no b hb h W) (fun W => cut_any b hb W) hh w
end Go.Proofs.YtfbkifcgdkgllaaDoor
