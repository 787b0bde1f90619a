/-
  math/bits.Div64: the arithmetic (Knuth's algorithm D with two digits of 32 bits). For every divisor and every number whose quotient is a word.
-/
import Derived.Test.YtoibaeilbolffaaGreatDoorNatDiv64
import Derived.Test.YtoibaeilbolffaaGreatDoorNatShMath
import Derived.Deep.QuietTactic
import Derived.BigQuiet
namespace Go.Proofs.YtoibaeilbolffaaGreatDoor
open Go.RowKit Go.Shelf

/-- The search's invariant. -/
def Inv (yn1 u Q : Int) (q r : Int) : Prop := 0 ≤ Q ∧ Q ≤ q ∧ q ≤ 8589934592 ∧ r = u - q * yn1 ∧ 0 ≤ r ∧ r < 4294967296

theorem search_holds {yn1 yn0 u n Y : Int} (hY : Y = yn1 * 4294967296 + yn0) (h1 : 2147483648 ≤ yn1) (h2 : yn1 < 4294967296) (h3 : 0 ≤ yn0) (h4 : yn0 < 4294967296) (hu0 : 0 ≤ u) (hu : u < Y) (hn0 : 0 ≤ n) (hn : n < 4294967296) :
    Search yn1 yn0 n ((u * 4294967296 + n) / Y) (Inv yn1 u ((u * 4294967296 + n) / Y)) ∧ Inv yn1 u ((u * 4294967296 + n) / Y) (u / yn1) (u - u / yn1 * yn1) ∧ (u * 4294967296 + n) / Y < 4294967296 ∧
    0 ≤ u / yn1 ∧ u / yn1 ≤ 8589934592 ∧ 0 ≤ u / yn1 * yn1 ∧ u / yn1 * yn1 ≤ u := by
  have hYp : 0 < Y := by omega
  have expand : ∀ q : Int, q * Y = q * yn1 * 4294967296 + q * yn0 := fun q => by rw [hY, Int.mul_add, Int.mul_assoc]
  have leQ : ∀ q : Int, q * yn1 * 4294967296 + q * yn0 ≤ u * 4294967296 + n → q ≤ (u * 4294967296 + n) / Y := fun q h => (Int.le_ediv_iff_mul_le hYp).2 (by rw [expand]; exact h)
  have ltQ : ∀ q : Int, u * 4294967296 + n < q * yn1 * 4294967296 + q * yn0 → (u * 4294967296 + n) / Y < q := fun q h => (Int.ediv_lt_iff_lt_mul hYp).2 (by rw [expand]; exact h)
  have hQ0 : 0 ≤ (u * 4294967296 + n) / Y := Int.ediv_nonneg (by omega) (by omega)
  have hQB : (u * 4294967296 + n) / Y < 4294967296 := (Int.ediv_lt_iff_lt_mul hYp).2 (by omega)
  have hQle : (u * 4294967296 + n) / Y * Y ≤ u * 4294967296 + n := Int.ediv_mul_le _ (by omega)
  have hd := Int.ediv_mul_add_emod u yn1
  have hm0 := Int.emod_nonneg u (show yn1 ≠ 0 by omega)
  have hm1 := Int.emod_lt_of_pos u (show 0 < yn1 by omega)
  have hq0 : 0 ≤ u / yn1 := Int.ediv_nonneg hu0 (by omega)
  have hq1 : u / yn1 ≤ 8589934592 := by
    have : u / yn1 < 8589934592 := (Int.ediv_lt_iff_lt_mul (by omega)).2 (by omega)
    omega
  have hp0 : 0 ≤ u / yn1 * yn1 := Int.mul_nonneg hq0 (by omega)
  generalize (u * 4294967296 + n) / Y = Q at *
  refine ⟨⟨?_, ?_, ?_⟩, ?_, hQB, hq0, hq1, hp0, by omega⟩
  · rintro q r ⟨a, b, c, d, e, f⟩
    exact ⟨by omega, c, e, f⟩
  · rintro q r ⟨a, b, c, d, e, f⟩ hc
    have hlt : Q < q := by
      rcases hc with hc | hc
      · omega
      · exact ltQ q (by rw [show q * yn1 = u - r from by omega]; omega)
    have es : (q - 1) * yn1 = q * yn1 - yn1 := by rw [Int.sub_mul, Int.one_mul]
    refine ⟨by omega, fun hr => ⟨a, by omega, by omega, by rw [es]; omega, by omega, hr⟩, fun hr => ?_⟩
    have hlt2 : q - 1 < 4294967296 := by
      have : (q - 1) * yn1 < 4294967296 * yn1 := by rw [es]; omega
      exact Int.lt_of_mul_lt_mul_right this (by omega)
    have hb : (q - 1) * yn0 ≤ 4294967295 * 4294967295 := Int.mul_le_mul (by omega) (by omega) h3 (by omega)
    have := leQ (q - 1) (by rw [es]; omega)
    omega
  · rintro q r ⟨a, b, c, d, e, f⟩ h5 h6
    have := leQ q (by rw [show q * yn1 = u - r from by omega]; omega)
    omega
  · refine ⟨hQ0, ?_, hq1, rfl, by omega, by omega⟩
    refine (Int.le_ediv_iff_mul_le (by omega)).2 ?_
    rw [expand] at hQle
    have : 0 ≤ Q * yn0 := Int.mul_nonneg hQ0 h3
    omega

/-- math/bits.Div64 where the high word is 0. -/
theorem div64_low (lo y : Nat) (hlo : lo < 18446744073709551616) (hy : 1 ≤ y) (hy1 : y < 18446744073709551616) (w : World) :
    Calls Tryz.prog 97 #[.int .u64 0, .int .u64 lo, .int .u64 y] w fun e w' => e = .returned (.tuple #[.int .u64 ((lo / y : Nat) : Int), .int .u64 ((lo % y : Nat) : Int)]) ∧ ∃ n, w' = w.drewN n := by
  have a1 : ¬ (y : Int) ≤ 0 := by omega
  have a2 : ((y : Int) == 0) = false := by rw [beq_eq_false_iff_ne]; omega
  have a3 : (1 : Int) ≤ y := by omega
  have hle : lo / y ≤ lo := Nat.div_le_self _ _
  have hwr : IntKind.u64.wrap ((lo : Int) / (y : Int)) = ((lo / y : Nat) : Int) := by
    rw [IntKind.wrap_u64, ← Int.natCast_ediv]
    generalize lo / y = q at *
    omega
  have hmo : (lo : Int) % (y : Int) = ((lo % y : Nat) : Int) := by rw [Int.natCast_emod]
  have HW := Lib.hid hwr
  have HM := Lib.hid hmo
  clear hwr hmo hle
  go_enter Tryz.func97, Tryz.ntmps97
  go_wp2
  go_quiet (fail)
  go_wp2
  go_ret2
  refine ⟨?_, _, rfl⟩
  rw [← HW.out, ← HM.out]
  rfl

theorem and_mask (n : Nat) (h : n < 18446744073709551616) : bits .and .u64 (n : Int) 4294967295 = ((n % 4294967296 : Nat) : Int) := by
  have := bits_and_u64_nat n 4294967295 h (by decide)
  rw [show (4294967295 : Nat) = 2 ^ 32 - 1 from by decide, Nat.and_two_pow_sub_one_eq_mod] at this
  exact this

/-- math/bits.Div64. -/
theorem div64_any (hi lo y : Nat) (hlo : lo < 18446744073709551616) (h : hi < y) (hy1 : y < 18446744073709551616) (w : World) :
    Calls Tryz.prog 97 #[.int .u64 hi, .int .u64 lo, .int .u64 y] w fun e w' => e = .returned (.tuple #[.int .u64 (((hi * 18446744073709551616 + lo) / y : Nat) : Int), .int .u64 (((hi * 18446744073709551616 + lo) % y : Nat) : Int)]) ∧ ∃ n, w' = w.drewN n := by
  by_cases h0 : hi = 0
  · subst h0
    rw [Nat.zero_mul, Nat.zero_add]
    exact div64_low lo y hlo (by omega) hy1 w
  · have hyz : y ≠ 0 := by omega
    have hbl := blen_spec hyz
    have hb64 : blen y ≤ 64 := blen_le hy1
    obtain ⟨s, hs⟩ : ∃ s : Nat, s + blen y = 64 := ⟨64 - blen y, by omega⟩
    have hs63 : s ≤ 63 := by omega
    -- the divisor, its first bit set
    have hY1 : y * 2 ^ s < 2 ^ 64 := by
      have : y * 2 ^ s < 2 ^ blen y * 2 ^ s := Nat.mul_lt_mul_of_pos_right hbl.2.2 (Nat.two_pow_pos _)
      rw [← Nat.pow_add, show blen y + s = 64 from by omega] at this
      exact this
    have hY0 : 2 ^ 63 ≤ y * 2 ^ s := by
      have : 2 ^ (blen y - 1) * 2 ^ s ≤ y * 2 ^ s := Nat.mul_le_mul_right _ hbl.2.1
      rw [← Nat.pow_add, show blen y - 1 + s = 63 from by omega] at this
      exact this
    -- the number's three parts
    have h64 : (2 : Nat) ^ 64 = 2 ^ s * 2 ^ (64 - s) := by rw [← Nat.pow_add]; congr 1; omega
    have hhs : hi * 2 ^ s < 2 ^ 64 := Nat.lt_trans (Nat.mul_lt_mul_of_pos_right h (Nat.two_pow_pos _)) hY1
    have hlow : lo / 2 ^ (64 - s) < 2 ^ s := by
      apply Nat.div_lt_of_lt_mul
      rw [Nat.mul_comm, ← h64]; exact hlo
    have hlo64 : lo / 2 ^ (64 - s) < 18446744073709551616 := Nat.lt_of_le_of_lt (Nat.div_le_self _ _) hlo
    have hU : bits .or .u64 (IntKind.u64.wrap ((hi : Int) * 2 ^ ((s : Nat) : Int).toNat)) ((lo : Int) / 2 ^ (64 - ((s : Nat) : Int)).toNat) = ((hi * 2 ^ s + lo / 2 ^ (64 - s) : Nat) : Int) := by
      rw [Int.toNat_natCast, show (64 - ((s : Nat) : Int)).toNat = 64 - s from by omega, wrap_mul_pow]
      have : (lo : Int) / 2 ^ (64 - s) = ((lo / 2 ^ (64 - s) : Nat) : Int) := by rw [Int.natCast_ediv, Int.natCast_pow]; rfl
      rw [this, Nat.mod_eq_of_lt hhs, u64_or_nat _ _ hhs hlo64]
      congr 1
      rw [Nat.mul_comm hi, ← Nat.two_pow_add_eq_or_of_lt hlow]
    have hL : IntKind.u64.wrap ((lo : Int) * 2 ^ ((s : Nat) : Int).toNat) = ((lo * 2 ^ s % 2 ^ 64 : Nat) : Int) := by
      rw [Int.toNat_natCast]; exact wrap_mul_pow _ _
    have hYw : IntKind.u64.wrap ((y : Int) * 2 ^ ((s : Nat) : Int).toNat) = ((y * 2 ^ s : Nat) : Int) := by
      rw [Int.toNat_natCast, wrap_mul_pow, Nat.mod_eq_of_lt hY1]
    have hall : (hi * 2 ^ s + lo / 2 ^ (64 - s)) * 18446744073709551616 + lo * 2 ^ s % 2 ^ 64 = (hi * 18446744073709551616 + lo) * 2 ^ s := by
      have e1 : lo * 2 ^ s / 2 ^ 64 = lo / 2 ^ (64 - s) := by
        rw [h64, Nat.mul_comm (2 ^ s), Nat.mul_div_mul_right _ _ (Nat.two_pow_pos _)]
      have e2 := Nat.div_add_mod (lo * 2 ^ s) (2 ^ 64)
      rw [e1] at e2
      rw [Nat.add_mul, Nat.add_mul, Nat.mul_assoc, Nat.mul_assoc, Nat.mul_comm (2 ^ s) 18446744073709551616]
      omega
    have hUY : hi * 2 ^ s + lo / 2 ^ (64 - s) < y * 2 ^ s := by
      have : (hi + 1) * 2 ^ s ≤ y * 2 ^ s := Nat.mul_le_mul_right _ h
      rw [Nat.add_mul, Nat.one_mul] at this
      omega
    -- the quotient and the rest, out of the number that is shifted
    have hpos : 0 < 2 ^ s := Nat.two_pow_pos _
    have hquo : (hi * 18446744073709551616 + lo) * 2 ^ s / (y * 2 ^ s) = (hi * 18446744073709551616 + lo) / y := Nat.mul_div_mul_right _ _ hpos
    have hrem : (hi * 18446744073709551616 + lo) * 2 ^ s % (y * 2 ^ s) = (hi * 18446744073709551616 + lo) % y * 2 ^ s := Nat.mul_mod_mul_right _ _ _
    rw [← hall] at hquo hrem
    have hrdiv : ((((hi * 18446744073709551616 + lo) % y * 2 ^ s : Nat) : Int)) / 2 ^ s = (((hi * 18446744073709551616 + lo) % y : Nat) : Int) := by
      rw [show ((2 : Int) ^ s) = ((2 ^ s : Nat) : Int) from by rw [Int.natCast_pow]; rfl, ← Int.natCast_ediv, Nat.mul_div_cancel _ hpos]
    have hlz : ∀ W, Calls Tryz.prog 111 #[.int .u64 y] W fun e w' => e = .returned (.int .i64 ((s : Nat) : Int)) ∧ w' = W := fun W => by
      have := Tryz.bits_LeadingZeros64 (y : Int) W (by omega) (by omega)
      rw [Int.toNat_natCast, bitLen_blen hy1, show (64 : Int) - (blen y : Int) = ((s : Nat) : Int) from by omega] at this
      exact this
    clear hall hhs hlow hlo64 h64 hbl
    generalize hi * 2 ^ s + lo / 2 ^ (64 - s) = U at *
    generalize y * 2 ^ s = Y at *
    have hLlt : lo * 2 ^ s % 2 ^ 64 < 2 ^ 64 := Nat.mod_lt _ (by decide)
    generalize lo * 2 ^ s % 2 ^ 64 = L at *
    -- two digits
    have hYe : (Y : Int) = ((Y / 4294967296 : Nat) : Int) * 4294967296 + ((Y % 4294967296 : Nat) : Int) := by omega
    obtain ⟨S1, I1, q1, a1, a2, a3, a4⟩ := search_holds (u := (U : Int)) (n := ((L / 4294967296 : Nat) : Int)) hYe (by omega) (by omega) (by omega) (by omega) (by omega) (by omega) (by omega) (by omega)
    have d1 := Int.ediv_mul_add_emod ((U : Int) * 4294967296 + ((L / 4294967296 : Nat) : Int)) (Y : Int)
    have m1 := Int.emod_nonneg ((U : Int) * 4294967296 + ((L / 4294967296 : Nat) : Int)) (show (Y : Int) ≠ 0 by omega)
    have m2 := Int.emod_lt_of_pos ((U : Int) * 4294967296 + ((L / 4294967296 : Nat) : Int)) (show 0 < (Y : Int) by omega)
    have g1 : 0 ≤ ((U : Int) * 4294967296 + ((L / 4294967296 : Nat) : Int)) / (Y : Int) := Int.ediv_nonneg (by omega) (by omega)
    obtain ⟨R1, hR1⟩ : ∃ R1 : Int, ((U : Int) * 4294967296 + ((L / 4294967296 : Nat) : Int)) % (Y : Int) = R1 := ⟨_, rfl⟩
    rw [hR1] at d1 m1 m2
    obtain ⟨S0, I0, q0, b1, b2, b3, b4⟩ := search_holds (u := R1) (n := ((L % 4294967296 : Nat) : Int)) hYe (by omega) (by omega) (by omega) (by omega) m1 m2 (by omega) (by omega)
    have d0 := Int.ediv_mul_add_emod (R1 * 4294967296 + ((L % 4294967296 : Nat) : Int)) (Y : Int)
    have m3 := Int.emod_nonneg (R1 * 4294967296 + ((L % 4294967296 : Nat) : Int)) (show (Y : Int) ≠ 0 by omega)
    have m4 := Int.emod_lt_of_pos (R1 * 4294967296 + ((L % 4294967296 : Nat) : Int)) (show 0 < (Y : Int) by omega)
    have g0 : 0 ≤ (R1 * 4294967296 + ((L % 4294967296 : Nat) : Int)) / (Y : Int) := Int.ediv_nonneg (by omega) (by omega)
    obtain ⟨R0, hR0⟩ : ∃ R0 : Int, (R1 * 4294967296 + ((L % 4294967296 : Nat) : Int)) % (Y : Int) = R0 := ⟨_, rfl⟩
    rw [hR0] at d0 m3 m4
    clear hR1 hR0
    obtain ⟨Q1, hQ1⟩ : ∃ Q1 : Int, ((U : Int) * 4294967296 + ((L / 4294967296 : Nat) : Int)) / (Y : Int) = Q1 := ⟨_, rfl⟩
    obtain ⟨Q0, hQ0⟩ : ∃ Q0 : Int, (R1 * 4294967296 + ((L % 4294967296 : Nat) : Int)) / (Y : Int) = Q0 := ⟨_, rfl⟩
    rw [hQ1] at S1 I1 q1 d1 g1
    rw [hQ0] at S0 I0 q0 d0 g0
    clear hQ1 hQ0
    obtain ⟨hqq, hrr⟩ : (U * 18446744073709551616 + L : Int) / (Y : Int) = Q1 * 4294967296 + Q0 ∧ (U * 18446744073709551616 + L : Int) % (Y : Int) = R0 := by
      have hc : (U * 18446744073709551616 + L : Int) = R0 + (Q1 * 4294967296 + Q0) * Y := by
        rw [Int.add_mul, Int.mul_assoc, Int.mul_comm 4294967296, ← Int.mul_assoc]
        omega
      rw [hc, Int.add_mul_ediv_right _ _ (by omega), Int.add_mul_emod_self_right, Int.ediv_eq_zero_of_lt m3 m4, Int.emod_eq_of_lt m3 m4]
      exact ⟨by omega, rfl⟩
    have f1 : IntKind.u64.wrap (IntKind.u64.wrap (IntKind.u64.wrap ((U : Int) * 4294967296) + ((L / 4294967296 : Nat) : Int)) - IntKind.u64.wrap (Q1 * (Y : Int))) = R1 := by
      simp only [IntKind.wrap_u64]
      generalize Q1 * (Y : Int) = P at *
      omega
    have f2 : IntKind.u64.wrap (IntKind.u64.wrap (IntKind.u64.wrap (R1 * 4294967296) + ((L % 4294967296 : Nat) : Int)) - IntKind.u64.wrap (Q0 * (Y : Int))) = R0 := by
      simp only [IntKind.wrap_u64]
      generalize Q0 * (Y : Int) = P at *
      omega
    have hfin : Q1 * 4294967296 + Q0 = (((hi * 18446744073709551616 + lo) / y : Nat) : Int) ∧ R0 = (((hi * 18446744073709551616 + lo) % y * 2 ^ s : Nat) : Int) := by
      rw [← hquo, ← hrem, ← hqq, ← hrr]
      exact ⟨by rw [Int.natCast_ediv]; rfl, by rw [Int.natCast_emod]; rfl⟩
    refine (div64_core (hi : Int) (lo : Int) (y : Int) ((s : Nat) : Int) (Y : Int) _ _ (U : Int) (L : Int) _ _ Q1 R1 Q0 R0 _ _ (by omega) (by omega) (by omega) (by omega) (by omega) hlz hYw (by rw [Int.natCast_ediv]; rfl) (and_mask Y hY1) hU hL (by rw [Int.natCast_ediv]; rfl) (and_mask L hLlt) (by omega) (by omega) (by omega) (by omega) (by omega) (by omega) (by omega) (by omega) (by omega) (by omega) a1 a2 a3 a4 I1 S1 f1 m1 (by omega) g1 q1 g0 q0 b1 b2 b3 b4 I0 S0 f2 w).mono ?_
    rintro e w' ⟨rfl, rfl⟩
    refine ⟨?_, 0, rfl⟩
    rw [hfin.1, hfin.2, Int.toNat_natCast, hrdiv]

end Go.Proofs.YtoibaeilbolffaaGreatDoor
