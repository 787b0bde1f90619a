/-
  entrepotlaw3.FloatBack, FloatHalves answer true for all bits of each width. The table math/bits.deBruijn64tab reads as its initialiser lays it.
-/
import Derived.Test.YtpnlmikjcpjjmaaDoorBackWalk
import Derived.Test.YtpnlmikjcpjjmaaDoorHalvesWalk
import Derived.Test.YtpnlmikjcpjjmaaDoorNansAny
namespace Go.Proofs.YtpnlmikjcpjjmaaDoor
open Go.RowKit Go.Shelf

theorem mask_16 (h : Nat) (hh : h < 65536) : bits .and .u16 (h : Int) 31744 = ((h / 1024 % 32 * 1024 : Nat) : Int) := by
  have h1 := u16_and_nat h 31744 hh (by decide)
  have e : h &&& 31744 = h / 1024 % 32 * 1024 := by
    have a : h &&& 31744 = (h &&& 32767) &&& 31744 := by rw [Nat.and_assoc]; rfl
    have b : h &&& 32767 = h % 32768 := Nat.and_two_pow_sub_one_eq_mod h 15
    have c : h % 32768 = 2 ^ 10 * (h / 1024 % 32) + h % 1024 := by omega
    have d : (31744 : Nat) = 2 ^ 10 * 31 + 0 := by decide
    rw [a, b]
    apply Nat.eq_of_testBit_eq
    intro i
    rw [Nat.testBit_and, c, Nat.testBit_two_pow_mul_add _ (by omega), d, Nat.testBit_two_pow_mul_add _ (by decide), show h / 1024 % 32 * 1024 = 2 ^ 10 * (h / 1024 % 32) + 0 from by omega, Nat.testBit_two_pow_mul_add _ (by decide)]
    split
    · simp
    · rw [← Nat.testBit_and]
      have : (h / 1024 % 32) &&& 31 = h / 1024 % 32 := by
        have := Nat.and_two_pow_sub_one_eq_mod (h / 1024 % 32) 5
        rw [show 2 ^ 5 - 1 = 31 from by decide] at this
        rw [this]; omega
      rw [this]
  rw [e] at h1
  exact h1
theorem mask_32 (s : Nat) (hs : s < 4294967296) : bits .and .u32 (s : Int) 2139095040 = ((s / 8388608 % 256 * 8388608 : Nat) : Int) := by
  have h1 := u32_and_nat s 2139095040 hs (by decide)
  have e : s &&& 2139095040 = s / 8388608 % 256 * 8388608 := by
    have a : s &&& 2139095040 = (s &&& 2147483647) &&& 2139095040 := by rw [Nat.and_assoc]; rfl
    have b : s &&& 2147483647 = s % 2147483648 := Nat.and_two_pow_sub_one_eq_mod s 31
    have c : s % 2147483648 = 2 ^ 23 * (s / 8388608 % 256) + s % 8388608 := by omega
    have d : (2139095040 : Nat) = 2 ^ 23 * 255 + 0 := by decide
    rw [a, b]
    apply Nat.eq_of_testBit_eq
    intro i
    rw [Nat.testBit_and, c, Nat.testBit_two_pow_mul_add _ (by omega), d, Nat.testBit_two_pow_mul_add _ (by decide), show s / 8388608 % 256 * 8388608 = 2 ^ 23 * (s / 8388608 % 256) + 0 from by omega, Nat.testBit_two_pow_mul_add _ (by decide)]
    split
    · simp
    · rw [← Nat.testBit_and]
      have : (s / 8388608 % 256) &&& 255 = s / 8388608 % 256 := by
        have := Nat.and_two_pow_sub_one_eq_mod (s / 8388608 % 256) 8
        rw [show 2 ^ 8 - 1 = 255 from by decide] at this
        rw [this]; omega
      rw [this]
  rw [e] at h1
  exact h1
theorem low_32 (s : Nat) (hs : s < 4294967296) : bits .and .u32 (s : Int) 8388607 = ((s % 8388608 : Nat) : Int) := by
  have h := u32_and_nat s 8388607 hs (by decide)
  rw [show (8388607 : Nat) = 2 ^ 23 - 1 from by decide, Nat.and_two_pow_sub_one_eq_mod] at h
  exact h
theorem half_b (h : Nat) (hh : h < 65536) (w : World) :
    Calls Tryd.prog 89 #[.int .u16 h] w fun e w' => e = .returned (.int .u64 (hlf h : Nat)) ∧ Below w.heap.size w w' := calls_below (half_any h hh w)
theorem tohalf_b (b : Nat) (hb : b < 18446744073709551616) (w : World) :
    Calls Tryd.prog 87 #[.int .u64 b] w fun e w' => e = .returned (.tuple #[.int .u16 ((toh b).1 : Nat), .bool (toh b).2]) ∧ Below w.heap.size w w' := calls_below (tohalf_any b hb w)
theorem hlf_rg {h : Nat} (hh : h < 65536) (hn : h % 32768 ≤ 31744) : rg (hlf h) ≤ INF := (hlf_cut hh hn).2
/-- A half as a single. -/
theorem half_single (h : Nat) (hh : h < 65536) : ∃ c, c < 4294967296 ∧ sng c = hlf h ∧ tos (hlf h) = (c, true) := by
  by_cases hn : 31744 < h % 32768
  · exact ⟨2143289344, by decide, by rw [hlf_nan hn, sng_nan (by decide)], by rw [hlf_nan hn]; exact tos_nan nan_rg⟩
  · obtain ⟨c, hc, e⟩ := hlf_single hh
    have hr := hlf_rg hh (by omega)
    have hk : c % 2147483648 ≤ 2139095040 := by
      apply Decidable.byContradiction
      intro hk
      rw [← e, sng_nan (by omega)] at hr
      exact absurd hr (by decide)
    exact ⟨c, hc, e, by rw [← e]; exact sng_back hc hk⟩
theorem back_any (h s : Int) (h0 : 0 ≤ h) (h1 : h ≤ 65535) (s0 : 0 ≤ s) (s1 : s ≤ 4294967295) (w : World) (hT : Tb w) :
    Calls Tryd.prog 12 #[.int .u16 h, .int .u32 s] w fun e w' => e = .returned (.bool true) ∧ Below w.heap.size w w' := by
  obtain ⟨h, rfl⟩ := Int.eq_ofNat_of_zero_le h0
  obtain ⟨s, rfl⟩ := Int.eq_ofNat_of_zero_le s0
  have hh : h < 65536 := by omega
  have hs : s < 4294967296 := by omega
  obtain ⟨c, hc, ec, tc⟩ := half_single h hh
  have kt := fun W hW => told3_true W hW
  have k1 := fun W => half_b h hh W
  have k3 := fun W => single_b s hs W
  have k2 := fun W => tohalf_b (hlf h) (hlf_lt hh) W
  have k4 := fun W => tosingle_any (sng s) (sng_lt hs) W
  have k5 := fun W => tosingle_any (hlf h) (hlf_lt hh) W
  have k6 := fun W => single_b c hc W
  rw [tc] at k5
  rw [ec] at k6
  have m1 := mask_16 h hh
  have m2 := half_frac h hh
  have m3 := mask_32 s hs
  have m4 := low_32 s hs
  have b1 : ∀ {a : Int} {b : Nat}, a = (b : Int) → ∀ c : Nat, b = c → (a == (c : Int)) = true := fun h c hc => by rw [h, hc]; exact beq_self_eq_true _
  have b2 : ∀ {a : Int} {b : Nat}, a = (b : Int) → ∀ c : Nat, b ≠ c → (a == (c : Int)) = false := fun h c hc => by rw [h, beq_eq_false_iff_ne]; omega
  have b3 : ∀ {a : Int} {b : Nat}, a = (b : Int) → b ≠ 0 → (a != 0) = true := fun h hc => by rw [h, bne_iff_ne]; omega
  have b4 : ∀ {a : Int} {b : Nat}, a = (b : Int) → b = 0 → (a != 0) = false := fun h hc => by rw [h, hc]; rfl
  have f1 : 31744 < h % 32768 → h / 1024 % 32 * 1024 = 31744 ∧ h % 1024 ≠ 0 := by omega
  have f2 : h % 32768 = 31744 → h / 1024 % 32 * 1024 = 31744 ∧ h % 1024 = 0 := by omega
  have f3 : h % 32768 < 31744 → h / 1024 % 32 * 1024 ≠ 31744 := by omega
  have g1 : 2139095040 < s % 2147483648 → s / 8388608 % 256 * 8388608 = 2139095040 ∧ s % 8388608 ≠ 0 := by omega
  have g2 : s % 2147483648 = 2139095040 → s / 8388608 % 256 * 8388608 = 2139095040 ∧ s % 8388608 = 0 := by omega
  have g3 : s % 2147483648 < 2139095040 → s / 8388608 % 256 * 8388608 ≠ 2139095040 := by omega
  by_cases hn : 31744 < h % 32768
  · rw [hlf_nan hn] at k1 k2 k5 k6
    rw [toh_nan nan_rg] at k2
    have k7 := nan_k7
    by_cases sn : 2139095040 < s % 2147483648
    · rw [sng_nan sn] at k3 k4
      rw [tos_nan nan_rg] at k4
      exact back_nan_nan h s _ _ _ (b1 m1 31744 (f1 hn).1) (b3 m2 (f1 hn).2) (b1 m3 2139095040 (g1 sn).1) (b3 m4 (g1 sn).2) k1 k2 k3 k4 k5 kt k6 k7 w hT
    · rw [sng_back hs (by omega)] at k4
      by_cases si : s % 2147483648 = 2139095040
      · exact back_nan_inf h s _ _ _ (b1 m1 31744 (f1 hn).1) (b3 m2 (f1 hn).2) (b1 m3 2139095040 (g2 si).1) (b4 m4 (g2 si).2) k1 k2 k3 k4 k5 kt k6 k7 w hT
      · exact back_nan_fin h s _ _ _ (b1 m1 31744 (f1 hn).1) (b3 m2 (f1 hn).2) (b2 m3 2139095040 (g3 (by omega))) k1 k2 k3 k4 k5 kt k6 k7 w hT
  · rw [hlf_back hh (by omega)] at k2
    by_cases hi : h % 32768 = 31744
    · by_cases sn : 2139095040 < s % 2147483648
      · rw [sng_nan sn] at k3 k4
        rw [tos_nan nan_rg] at k4
        exact back_inf_nan h s _ _ _ (b1 m1 31744 (f2 hi).1) (b4 m2 (f2 hi).2) (b1 m3 2139095040 (g1 sn).1) (b3 m4 (g1 sn).2) k1 k2 k3 k4 k5 kt k6 w hT
      · rw [sng_back hs (by omega)] at k4
        by_cases si : s % 2147483648 = 2139095040
        · exact back_inf_inf h s _ _ _ (b1 m1 31744 (f2 hi).1) (b4 m2 (f2 hi).2) (b1 m3 2139095040 (g2 si).1) (b4 m4 (g2 si).2) k1 k2 k3 k4 k5 kt k6 w hT
        · exact back_inf_fin h s _ _ _ (b1 m1 31744 (f2 hi).1) (b4 m2 (f2 hi).2) (b2 m3 2139095040 (g3 (by omega))) k1 k2 k3 k4 k5 kt k6 w hT
    · by_cases sn : 2139095040 < s % 2147483648
      · rw [sng_nan sn] at k3 k4
        rw [tos_nan nan_rg] at k4
        exact back_fin_nan h s _ _ _ (b2 m1 31744 (f3 (by omega))) (b1 m3 2139095040 (g1 sn).1) (b3 m4 (g1 sn).2) k1 k2 k3 k4 k5 kt k6 w hT
      · rw [sng_back hs (by omega)] at k4
        by_cases si : s % 2147483648 = 2139095040
        · exact back_fin_inf h s _ _ _ (b2 m1 31744 (f3 (by omega))) (b1 m3 2139095040 (g2 si).1) (b4 m4 (g2 si).2) k1 k2 k3 k4 k5 kt k6 w hT
        · exact back_fin_fin h s _ _ _ (b2 m1 31744 (f3 (by omega))) (b2 m3 2139095040 (g3 (by omega))) k1 k2 k3 k4 k5 kt k6 w hT

theorem low31 (s : Nat) (hs : s < 4294967296) : bits .and .u32 (s : Int) 2147483647 = ((s % 2147483648 : Nat) : Int) := by
  have h := u32_and_nat s 2147483647 hs (by decide)
  rw [show (2147483647 : Nat) = 2 ^ 31 - 1 from by decide, Nat.and_two_pow_sub_one_eq_mod] at h
  exact h
theorem exp_32 (s : Nat) (hs : s < 4294967296) : bits .and .u32 ((s : Int) / 8388608) 255 = ((s / 8388608 % 256 : Nat) : Int) := by
  have h := u32_and_nat (s / 8388608) 255 (by omega) (by decide)
  rw [show (255 : Nat) = 2 ^ 8 - 1 from by decide, Nat.and_two_pow_sub_one_eq_mod] at h
  exact h
/-- The field of a half's word of 64 bits; of a single's. -/
theorem hlf0_field {r : Nat} (h0 : r ≠ 0) (h1 : r < 31744) : 999 ≤ hlf0 r / 4503599627370496 ∧ hlf0 r / 4503599627370496 ≤ 1038 := by
  unfold hlf0
  rw [if_neg (by omega)]
  by_cases h : r < 1024
  · rw [if_pos h, if_neg h0]
    have hl : r.log2 < 10 := lg_small h0 h
    have := (nr_spec (d := r) (p := -24) h0 (by omega) (by omega) (by omega)).2.2.2.2
    omega
  · rw [if_neg h]; omega
theorem sng0_field {r : Nat} (h0 : r ≠ 0) (h1 : r < 2139095040) : (r < 8388608 → sng0 r / 4503599627370496 ≤ 896) ∧ (8388608 ≤ r → sng0 r / 4503599627370496 = r / 8388608 + 896) := by
  obtain ⟨a, b, c, d⟩ := single_parts h0 h1
  have e := (nr_spec (d := mg Ieee.single r) (p := pl Ieee.single r) a (by omega) (by omega) (by omega)).2.2.2.2
  unfold sng0
  rw [if_neg (by omega), if_neg h0, e]
  unfold mg pl
  rw [sgl_binade, sgl_least]
  constructor
  · intro h
    rw [if_pos h, if_pos h]
    have := lg_small (n := 23) h0 h
    omega
  · intro h
    rw [if_neg (by omega), if_neg (by omega)]
    have hl : (8388608 + r % 8388608).log2 = 23 := lg_unique (by omega) (by omega)
    rw [hl]; omega
theorem half_exp {h s : Nat} (_hh : h < 65536) (hs : s < 4294967296) (e : hlf h = sng s) (hn : s % 2147483648 < 2139095040) (h0 : s % 2147483648 ≠ 0) : 103 ≤ s / 8388608 % 256 ∧ s / 8388608 % 256 ≤ 142 := by
  have h5 : INF = 9218868437227405312 := rfl
  have hk : h % 32768 ≤ 31744 := by
    apply Decidable.byContradiction
    intro hk
    rw [hlf_nan (by omega)] at e
    have := (sng_conv hs (by omega)).2
    rw [← e] at this
    exact absurd this (by decide)
  have e1 := hlf_eq hk
  have e2 := sng_eq (s := s) (by omega)
  have l1 := hlf0_lt hk
  have l2 := sng0_lt (r := s % 2147483648) (by omega)
  have ez : hlf0 (h % 32768) = sng0 (s % 2147483648) := by omega
  have f2 := sng0_field h0 hn
  have n1 : sng0 (s % 2147483648) ≠ INF := by
    obtain ⟨a, b, c, d⟩ := single_parts h0 hn
    have := (nr_spec (d := mg Ieee.single (s % 2147483648)) (p := pl Ieee.single (s % 2147483648)) a (by omega) (by omega) (by omega)).1
    unfold sng0
    rw [if_neg (by omega), if_neg h0]
    omega
  have n2 : sng0 (s % 2147483648) ≠ 0 := by
    obtain ⟨a, b, c, d⟩ := single_parts h0 hn
    have := (nr_spec (d := mg Ieee.single (s % 2147483648)) (p := pl Ieee.single (s % 2147483648)) a (by omega) (by omega) (by omega)).2.2.2.1
    unfold sng0
    rw [if_neg (by omega), if_neg h0]
    omega
  have k1 : h % 32768 ≠ 31744 := by
    intro hk
    rw [hk] at ez
    exact n1 (by rw [← ez]; unfold hlf0; rw [if_pos rfl])
  have k2 : h % 32768 ≠ 0 := by
    intro hk
    rw [hk] at ez
    exact n2 (by rw [← ez]; decide)
  have f1 := hlf0_field k2 (by omega)
  rw [ez] at f1
  by_cases hb : s % 2147483648 < 8388608
  · have := f2.1 hb; omega
  · have := f2.2 (by omega); omega
theorem halves_any (s : Int) (s0 : 0 ≤ s) (s1 : s ≤ 4294967295) (w : World) (hT : Tb w) :
    Calls Tryd.prog 17 #[.int .u32 s] w fun e w' => e = .returned (.bool true) ∧ Below w.heap.size w w' := by
  obtain ⟨s, rfl⟩ := Int.eq_ofNat_of_zero_le s0
  have hs : s < 4294967296 := by omega
  have hb := sng_lt hs
  have kt := fun W hW => told3_true W hW
  have k1 := fun W => single_b s hs W
  have k2 := fun W => tohalf_b (sng s) hb W
  have k3 := fun W => tosingle_any (sng s) hb W
  have ht : (tos (sng s)).2 = true := by
    by_cases hn : s % 2147483648 ≤ 2139095040
    · rw [sng_back hs hn]
    · rw [sng_nan (by omega), tos_nan nan_rg]
  have hcan : (if INF < rg (sng s) then NANW else sng s) = sng s := by
    by_cases hn : s % 2147483648 ≤ 2139095040
    · rw [if_neg (by have := (sng_conv hs hn).2; omega)]
    · rw [sng_nan (by omega), if_pos nan_rg]
  obtain ⟨q1, q2⟩ := tos_sng hb ht
  have k5 := fun W => single_b (tos (sng s)).1 q1 W
  rw [ht] at k3
  rw [q2, hcan] at k5
  have e1 := exp_32 s hs
  have e2 := low31 s hs
  cases hq : (toh (sng s)).2 with
  | false =>
    rw [hq] at k2
    exact halves_none s _ _ _ _ e1 (by omega) (by omega) k1 k2 k3 k5 kt w hT
  | true =>
    rw [hq] at k2
    have hl := toh_lt (b := sng s) hb
    have hh := toh_hlf hq
    rw [hcan] at hh
    have k4 := fun W => half_b (toh (sng s)).1 hl W
    rw [hh] at k4
    by_cases z : s / 8388608 % 256 = 255
    · exact halves_ends s _ _ _ _ e1 (by omega) (by omega) (by rw [z]; rfl) k1 k2 k3 k4 k5 kt w hT
    · have z1 : (((s / 8388608 % 256 : Nat) : Int) != 255) = true := by rw [bne_iff_ne]; omega
      by_cases z2 : s % 2147483648 = 0
      · exact halves_zero s _ _ _ _ e1 (by omega) (by omega) z1 (by rw [e2, z2]; rfl) k1 k2 k3 k4 k5 kt w hT
      · obtain ⟨r1, r2⟩ := half_exp hl hs hh (by omega) z2
        exact halves_mid s _ _ _ _ e1 (by omega) (by omega) z1 (by rw [e2, bne_iff_ne]; omega) (by omega) (by omega) k1 k2 k3 k4 k5 kt w hT
end Go.Proofs.YtpnlmikjcpjjmaaDoor
