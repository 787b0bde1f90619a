/-
  float.isNaN, isFinite, hasSign, fieldOf, Canon: the contracts, for every word of 64 bits.
-/
import Derived.Test.YtoibaeilbolffaaGreatDoorFltMath2
import Derived.Test.YtoibaeilbolffaaGreatDoorNatTrail
import Derived.Laws.BitsAllLaws
namespace Go.Proofs.YtoibaeilbolffaaGreatDoor
open Go.RowKit Go.Shelf

theorem isnan_core (b r : Int) (h : bits .andNot .u64 b 9223372036854775808 = r) (w : World) :
    Calls Tryz.prog 54 #[.int .u64 b] w fun e w' => e = .returned (.bool (decide (9218868437227405312 < r))) ∧ w' = w := by
  go_enter Tryz.func54, Tryz.ntmps54
  go_wp2
  go_ret
  exact ⟨rfl, rfl⟩
theorem isfin_core (b r : Int) (h : bits .andNot .u64 b 9223372036854775808 = r) (w : World) :
    Calls Tryz.prog 55 #[.int .u64 b] w fun e w' => e = .returned (.bool (decide (r < 9218868437227405312))) ∧ w' = w := by
  go_enter Tryz.func55, Tryz.ntmps55
  go_wp2
  go_ret
  exact ⟨rfl, rfl⟩
theorem sign_core (b : Int) (w : World) :
    Calls Tryz.prog 59 #[.int .u64 b] w fun e w' => e = .returned (.bool (b / 9223372036854775808 == 1)) ∧ w' = w := by
  go_enter Tryz.func59, Tryz.ntmps59
  go_wp2
  go_ret
  exact ⟨rfl, rfl⟩
theorem field_core (b r : Int) (h : bits .and .u64 (b / 4503599627370496) 2047 = r) (h0 : 0 ≤ r) (h1 : r < 2048) (w : World) :
    Calls Tryz.prog 84 #[.int .u64 b] w fun e w' => e = .returned (.int .i64 r) ∧ w' = w := by
  go_enter Tryz.func84, Tryz.ntmps84
  go_wp2
  go_ret
  exact ⟨rfl, rfl⟩
theorem rg_bits (b : Nat) (hb : b < 18446744073709551616) : bits .andNot .u64 (b : Int) 9223372036854775808 = (rg b : Nat) := by
  have h := u64_andNot_nat b 9223372036854775808 hb (by decide)
  rw [show 18446744073709551615 - 9223372036854775808 = 2 ^ 63 - 1 from by decide, Nat.and_two_pow_sub_one_eq_mod] at h
  exact h
theorem field_bits (b : Nat) (hb : b < 18446744073709551616) : bits .and .u64 ((b : Int) / 4503599627370496) 2047 = ((b / 4503599627370496 % 2048 : Nat) : Int) := by
  have h := u64_and_nat (b / 4503599627370496) 2047 (by omega) (by decide)
  rw [show (2047 : Nat) = 2 ^ 11 - 1 from by decide, Nat.and_two_pow_sub_one_eq_mod] at h
  exact h
section
variable (b : Nat) (hb : b < 18446744073709551616)
include hb
theorem isnan_yes (h : INF < rg b) (w : World) : Calls Tryz.prog 54 #[.int .u64 b] w fun e w' => e = .returned (.bool true) ∧ w' = w := by
  have := isnan_core b _ (rg_bits b hb) w
  rw [decide_eq_true (show (9218868437227405312 : Int) < (rg b : Nat) from by have h5 : INF = 9218868437227405312 := rfl; omega)] at this
  exact this
theorem isnan_no (h : ¬ INF < rg b) (w : World) : Calls Tryz.prog 54 #[.int .u64 b] w fun e w' => e = .returned (.bool false) ∧ w' = w := by
  have := isnan_core b _ (rg_bits b hb) w
  rw [decide_eq_false (show ¬ (9218868437227405312 : Int) < (rg b : Nat) from by have h5 : INF = 9218868437227405312 := rfl; omega)] at this
  exact this
theorem isfin_yes (h : rg b < INF) (w : World) : Calls Tryz.prog 55 #[.int .u64 b] w fun e w' => e = .returned (.bool true) ∧ w' = w := by
  have := isfin_core b _ (rg_bits b hb) w
  rw [decide_eq_true (show ((rg b : Nat) : Int) < 9218868437227405312 from by have h5 : INF = 9218868437227405312 := rfl; omega)] at this
  exact this
theorem isfin_no (h : ¬ rg b < INF) (w : World) : Calls Tryz.prog 55 #[.int .u64 b] w fun e w' => e = .returned (.bool false) ∧ w' = w := by
  have := isfin_core b _ (rg_bits b hb) w
  rw [decide_eq_false (show ¬ ((rg b : Nat) : Int) < 9218868437227405312 from by have h5 : INF = 9218868437227405312 := rfl; omega)] at this
  exact this
theorem field_any (w : World) : Calls Tryz.prog 84 #[.int .u64 b] w fun e w' => e = .returned (.int .i64 ((b / 4503599627370496 % 2048 : Nat) : Int)) ∧ w' = w :=
  field_core b _ (field_bits b hb) (by omega) (by omega) w
end
theorem hsign_no (b : Nat) (h : sg b = 0) (w : World) : Calls Tryz.prog 59 #[.int .u64 b] w fun e w' => e = .returned (.bool false) ∧ w' = w := by
  have := sign_core b w
  rw [show ((b : Int) / 9223372036854775808 == 1) = false from by rw [beq_eq_false_iff_ne]; unfold sg at h; omega] at this
  exact this
theorem hsign_yes (b : Nat) (h : sg b = 1) (w : World) : Calls Tryz.prog 59 #[.int .u64 b] w fun e w' => e = .returned (.bool true) ∧ w' = w := by
  have := sign_core b w
  rw [show ((b : Int) / 9223372036854775808 == 1) = true from by rw [beq_iff_eq]; unfold sg at h; omega] at this
  exact this

/-- What Canon answers. -/
def can (b : Nat) : Nat := if INF < rg b then NANW else b
set_option maxHeartbeats 400000 in
theorem parts_norm (b M0 M F t : Int) (e1 : bits .and .u64 b 4503599627370495 = M0) (e2 : bits .or .u64 M0 4503599627370496 = M) (hM : M ≠ 0) (hF0 : 1 ≤ F) (hF1 : F < 2048) (ht0 : 0 ≤ t) (ht1 : t < 64)
    (c1 : ∀ W, Calls Tryz.prog 84 #[.int .u64 b] W fun e w' => e = .returned (.int .i64 F) ∧ w' = W)
    (c2 : ∀ W, Tb W → Calls Tryz.prog 85 #[.int .u64 M] W fun e w' => e = .returned (.int .i64 t) ∧ w' = W) (w : World) (hT : Tb w) :
    Calls Tryz.prog 56 #[.int .u64 b] w fun e w' => e = .returned (.tuple #[.int .u64 (M / 2 ^ t.toNat), .int .i64 (F - 1023 - 52 + t)]) ∧ w' = w := by
  have C1 := Lib.hid c1; have C2 := Lib.hid c2; have HT := Lib.hid hT; clear c1 c2 hT
  have h3 : ((F == 0) : Bool) = false := by rw [beq_eq_false_iff_ne]; omega
  have h4 : ((F != 0) : Bool) = true := by rw [bne_iff_ne]; omega
  have h5 : ((M == 0) : Bool) = false := by rw [beq_eq_false_iff_ne]; exact hM
  have h6 : max F 1 = F := by omega
  clear hM
  go_enter Tryz.func56, Tryz.ntmps56
  go_wp2_with fail
  refine (C1.out _).mono ?_
  rintro e w1 ⟨rfl, rfl⟩
  go_wp2_with fail
  refine (C2.out _ HT.out).mono ?_
  rintro e w1 ⟨rfl, rfl⟩
  go_wp2_with fail
  refine (C1.out _).mono ?_
  rintro e w1 ⟨rfl, rfl⟩
  go_wp2
  go_ret2
  exact ⟨rfl, rfl⟩
set_option maxHeartbeats 400000 in
theorem parts_sub (b M t : Int) (e1 : bits .and .u64 b 4503599627370495 = M) (hM : M ≠ 0) (ht0 : 0 ≤ t) (ht1 : t < 64)
    (c1 : ∀ W, Calls Tryz.prog 84 #[.int .u64 b] W fun e w' => e = .returned (.int .i64 0) ∧ w' = W)
    (c2 : ∀ W, Tb W → Calls Tryz.prog 85 #[.int .u64 M] W fun e w' => e = .returned (.int .i64 t) ∧ w' = W) (w : World) (hT : Tb w) :
    Calls Tryz.prog 56 #[.int .u64 b] w fun e w' => e = .returned (.tuple #[.int .u64 (M / 2 ^ t.toNat), .int .i64 (1 - 1023 - 52 + t)]) ∧ w' = w := by
  have C1 := Lib.hid c1; have C2 := Lib.hid c2; have HT := Lib.hid hT; clear c1 c2 hT
  have h5 : ((M == 0) : Bool) = false := by rw [beq_eq_false_iff_ne]; exact hM
  clear hM
  go_enter Tryz.func56, Tryz.ntmps56
  go_wp2_with fail
  refine (C1.out _).mono ?_
  rintro e w1 ⟨rfl, rfl⟩
  go_wp2_with fail
  refine (C2.out _ HT.out).mono ?_
  rintro e w1 ⟨rfl, rfl⟩
  go_wp2_with fail
  refine (C1.out _).mono ?_
  rintro e w1 ⟨rfl, rfl⟩
  go_wp2
  go_ret2
  exact ⟨rfl, rfl⟩
theorem parts_zero (b : Int) (e1 : bits .and .u64 b 4503599627370495 = 0)
    (c1 : ∀ W, Calls Tryz.prog 84 #[.int .u64 b] W fun e w' => e = .returned (.int .i64 0) ∧ w' = W) (w : World) :
    Calls Tryz.prog 56 #[.int .u64 b] w fun e w' => e = .returned (.tuple #[.int .u64 0, .int .i64 0]) ∧ w' = w := by
  have C1 := Lib.hid c1; clear c1
  go_enter Tryz.func56, Tryz.ntmps56
  go_wp2_with fail
  refine (C1.out _).mono ?_
  rintro e w1 ⟨rfl, rfl⟩
  go_wp2
  go_ret2
  exact ⟨rfl, rfl⟩
theorem frac_bits (b : Nat) (hb : b < 18446744073709551616) : bits .and .u64 (b : Int) 4503599627370495 = ((b % 4503599627370496 : Nat) : Int) := by
  have h := u64_and_nat b 4503599627370495 hb (by decide)
  rw [show (4503599627370495 : Nat) = 2 ^ 52 - 1 from by decide, Nat.and_two_pow_sub_one_eq_mod] at h
  exact h
theorem hid_bits (b : Nat) : bits .or .u64 ((b % 4503599627370496 : Nat) : Int) 4503599627370496 = ((b % 4503599627370496 + 4503599627370496 : Nat) : Int) := by
  have h := u64_or_nat (b % 4503599627370496) 4503599627370496 (by omega) (by decide)
  have h2 := Nat.two_pow_add_eq_or_of_lt (i := 52) (b := b % 4503599627370496) (by omega) 1
  rw [Nat.mul_one, Nat.or_comm, show (2 : Nat) ^ 52 = 4503599627370496 from by decide] at h2
  rw [← h2, Nat.add_comm] at h
  exact h
theorem pow_div_cast (M t : Nat) : ((M : Int) / 2 ^ ((t : Nat) : Int).toNat) = ((M / 2 ^ t : Nat) : Int) := by
  rw [Int.toNat_natCast, Int.natCast_ediv, Int.natCast_pow]; rfl
theorem dg_lt (b : Nat) : dg b < 18446744073709551616 := by unfold dg; split <;> omega
theorem parts_any (b : Nat) (hb : b < 18446744073709551616) (w : World) (hT : Tb w) :
    Calls Tryz.prog 56 #[.int .u64 b] w fun e w' => e = .returned (.tuple #[.int .u64 (od b : Nat), .int .i64 (pw b)]) ∧ w' = w := by
  have hf := fun W => field_any b hb W
  have hdl := dg_lt b
  have e1 := frac_bits b hb
  by_cases h0 : dg b = 0
  · have hF : b / 4503599627370496 % 2048 = 0 := by
      apply Decidable.byContradiction
      intro h; unfold dg at h0; rw [if_neg h] at h0; omega
    have hm : b % 4503599627370496 = 0 := by unfold dg at h0; omega
    rw [hF] at hf
    rw [hm] at e1
    have := parts_zero b e1 hf w
    unfold od pw
    rw [if_pos h0, if_pos h0]
    exact this
  · have ht : Lib.ctz 64 (dg b) < 64 := by obtain ⟨m, _, h⟩ := ctz_word h0 hdl; exact h
    have hc := fun W hW => tz_any (dg b) hdl W hW
    unfold od pw
    rw [if_neg h0, if_neg h0]
    by_cases hF : b / 4503599627370496 % 2048 = 0
    · have hd : dg b = b % 4503599627370496 := by unfold dg; rw [if_pos hF]; rfl
      rw [hF] at hf
      rw [hd] at h0 ht hc ⊢
      have := parts_sub b _ (Lib.ctz 64 (b % 4503599627370496) : Nat) e1 (by omega) (by omega) (by omega) hf hc w hT
      rw [pow_div_cast] at this
      rw [hF, show ((max 0 1 : Nat) : Int) - 1075 + (Lib.ctz 64 (b % 4503599627370496) : Nat) = 1 - 1023 - 52 + (Lib.ctz 64 (b % 4503599627370496) : Nat) from by omega]
      exact this
    · have hd : dg b = b % 4503599627370496 + 4503599627370496 := by unfold dg; rw [if_neg hF]
      rw [hd] at h0 ht hc ⊢
      have := parts_norm b _ _ _ (Lib.ctz 64 (b % 4503599627370496 + 4503599627370496) : Nat) e1 (hid_bits b) (by omega) (show (1 : Int) ≤ ((b / 4503599627370496 % 2048 : Nat) : Int) by omega) (by omega) (by omega) (by omega) hf hc w hT
      rw [pow_div_cast] at this
      rw [show ((max (b / 4503599627370496 % 2048) 1 : Nat) : Int) - 1075 + (Lib.ctz 64 (b % 4503599627370496 + 4503599627370496) : Nat) = ((b / 4503599627370496 % 2048 : Nat) : Int) - 1023 - 52 + (Lib.ctz 64 (b % 4503599627370496 + 4503599627370496) : Nat) from by omega]
      exact this
theorem pw_bound (b : Nat) : -1074 ≤ pw b ∧ pw b ≤ 2047 := by
  unfold pw
  split
  · omega
  · rename_i h0
    obtain ⟨m, _, h⟩ := ctz_word h0 (dg_lt b)
    omega

theorem behind_no (b : Int) (c : ∀ W, Calls Tryz.prog 55 #[.int .u64 b] W fun e w' => e = .returned (.bool false) ∧ w' = W) (w : World) :
    Calls Tryz.prog 26 #[.int .u64 b] w fun e w' => e = .returned (.int .i64 0) ∧ w' = w := by
  have C := Lib.hid c; clear c
  go_enter Tryz.func26, Tryz.ntmps26
  go_wp2_with fail
  refine (C.out _).mono ?_
  rintro e w1 ⟨rfl, rfl⟩
  go_wp2
  go_ret
  exact ⟨rfl, rfl⟩
theorem behind_yes (b d p : Int) (h0 : -2000 ≤ p) (h1 : p ≤ 3000) (c : ∀ W, Calls Tryz.prog 55 #[.int .u64 b] W fun e w' => e = .returned (.bool true) ∧ w' = W)
    (c2 : ∀ W, Tb W → Calls Tryz.prog 56 #[.int .u64 b] W fun e w' => e = .returned (.tuple #[.int .u64 d, .int .i64 p]) ∧ w' = W) (w : World) (hT : Tb w) :
    Calls Tryz.prog 26 #[.int .u64 b] w fun e w' => e = .returned (.int .i64 (max (-p) 0)) ∧ w' = w := by
  have C := Lib.hid c; have C2 := Lib.hid c2; have HT := Lib.hid hT; clear c c2 hT
  go_enter Tryz.func26, Tryz.ntmps26
  go_wp2_with fail
  refine (C.out _).mono ?_
  rintro e w1 ⟨rfl, rfl⟩
  go_wp2_with fail
  refine (C2.out _ HT.out).mono ?_
  rintro e w1 ⟨rfl, rfl⟩
  go_wp2
  go_ret
  exact ⟨rfl, rfl⟩
theorem behind_any (b : Nat) (hb : b < 18446744073709551616) (w : World) (hT : Tb w) :
    Calls Tryz.prog 26 #[.int .u64 b] w fun e w' => e = .returned (.int .i64 (beh b : Nat)) ∧ w' = w := by
  have hp := pw_bound b
  unfold beh
  by_cases h : rg b < INF
  · rw [if_pos h]
    have := behind_yes b _ (pw b) (by omega) (by omega) (fun W => isfin_yes b hb h W) (fun W hW => parts_any b hb W hW) w hT
    rw [show (max (-pw b) 0) = (((-(pw b)).toNat : Nat) : Int) from by omega] at this
    exact this
  · rw [if_neg h]
    exact behind_no b (fun W => isfin_no b hb h W) w
end Go.Proofs.YtoibaeilbolffaaGreatDoor
