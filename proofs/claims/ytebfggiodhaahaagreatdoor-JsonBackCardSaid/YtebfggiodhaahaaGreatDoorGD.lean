/-
  NatDiv64 NatDivMath NatDiv NatDigit NatPrintMath DecMath NatPrint NatStr NatParse, one behind the other: a claim holds at most 60 files.
-/
import Derived.Test.YtebfggiodhaahaaGreatDoorShelf
import Derived.Test.YtebfggiodhaahaaGreatDoorGA
import Derived.Test.YtebfggiodhaahaaGreatDoorGL
import Derived.Deep.QuietTactic
import Derived.BigQuiet
import Derived.Lib.ItoaWalk
import Derived.Lib.ItoaNum
import Derived.Lib.Repeat
section
namespace Go.Proofs.YtebfggiodhaahaaGreatDoor
open Go.RowKit Go.Shelf

/-- What a digit's search keeps (Knuth's algorithm D): Q is the digit. -/
structure Search (yn1 yn0 n Q : Int) (Inv : Int → Int → Prop) : Prop where
  bounds : ∀ q r, Inv q r → 0 ≤ q ∧ q ≤ 8589934592 ∧ 0 ≤ r ∧ r < 4294967296
  more : ∀ q r, Inv q r → (4294967296 ≤ q ∨ 4294967296 * r + n < q * yn0) → 1 ≤ q ∧ (r + yn1 < 4294967296 → Inv (q - 1) (r + yn1)) ∧ (4294967296 ≤ r + yn1 → q - 1 = Q)
  done : ∀ q r, Inv q r → q < 4294967296 → q * yn0 ≤ 4294967296 * r + n → q = Q

set_option maxHeartbeats 4000000 in
theorem div64_core (hi lo y s Y yn1 yn0 U L n1 n0 Q1 R1 Q0 R0 : Int) (Inv1 Inv0 : Int → Int → Prop) (hhi : ¬ y ≤ hi) (hy0 : 1 ≤ y) (hhi1 : 1 ≤ hi) (hs0 : 0 ≤ s) (hs1 : s ≤ 63)
    (hlz : ∀ W, Calls Tryz.prog 178 #[.int .u64 y] W fun e w' => e = .returned (.int .i64 s) ∧ w' = W)
    (e1 : IntKind.u64.wrap (y * 2 ^ s.toNat) = Y) (e2 : Y / 4294967296 = yn1) (e3 : bits .and .u64 Y 4294967295 = yn0)
    (e4 : bits .or .u64 (IntKind.u64.wrap (hi * 2 ^ s.toNat)) (lo / 2 ^ (64 - s).toNat) = U) (e5 : IntKind.u64.wrap (lo * 2 ^ s.toNat) = L) (e6 : L / 4294967296 = n1) (e7 : bits .and .u64 L 4294967295 = n0)
    (hU0 : 0 ≤ U) (hU1 : U < 18446744073709551616) (hy1 : 1 ≤ yn1) (hy2 : yn1 < 4294967296) (hz0 : 0 ≤ yn0) (hz1 : yn0 < 4294967296) (hn0 : 0 ≤ n1) (hn1 : n1 < 4294967296) (hm0 : 0 ≤ n0) (hm1 : n0 < 4294967296)
    (_hqa0 : 0 ≤ U / yn1) (_hqa1 : U / yn1 ≤ 8589934592) (hp0 : 0 ≤ U / yn1 * yn1) (hp1 : U / yn1 * yn1 ≤ U)
    (hI1 : Inv1 (U / yn1) (U - U / yn1 * yn1)) (S1 : Search yn1 yn0 n1 Q1 Inv1)
    (f1 : IntKind.u64.wrap (IntKind.u64.wrap (IntKind.u64.wrap (U * 4294967296) + n1) - IntKind.u64.wrap (Q1 * Y)) = R1) (hR0 : 0 ≤ R1) (hR1 : R1 < 18446744073709551616)
    (hQ0 : 0 ≤ Q1) (hQ1 : Q1 < 4294967296) (hQ2 : 0 ≤ Q0) (hQ3 : Q0 < 4294967296)
    (_hqb0 : 0 ≤ R1 / yn1) (_hqb1 : R1 / yn1 ≤ 8589934592) (hr0 : 0 ≤ R1 / yn1 * yn1) (hr1 : R1 / yn1 * yn1 ≤ R1)
    (hI0 : Inv0 (R1 / yn1) (R1 - R1 / yn1 * yn1)) (S0 : Search yn1 yn0 n0 Q0 Inv0)
    (f2 : IntKind.u64.wrap (IntKind.u64.wrap (IntKind.u64.wrap (R1 * 4294967296) + n0) - IntKind.u64.wrap (Q0 * Y)) = R0) (w : World) :
    Calls Tryz.prog 145 #[.int .u64 hi, .int .u64 lo, .int .u64 y] w fun e w' => e = .returned (.tuple #[.int .u64 (Q1 * 4294967296 + Q0), .int .u64 (R0 / 2 ^ s.toNat)]) ∧ w' = w := by
  have HL := Lib.hid hlz; clear hlz
  have HI1 := Lib.hid hI1; clear hI1
  have HI0 := Lib.hid hI0; clear hI0
  go_enter Tryz.func145, Tryz.ntmps145
  go_wp2_with (go_at_call 178; refine (HL.out _).mono ?_; rintro e w' ⟨rfl, rfl⟩)
  clear e1 e2 e3 e4 e5 e6 e7 hhi hy0 hhi1
  go_loop [15, 16] (fun v15 v16 => ∃ q r : Int, v15 = .int .u64 q ∧ v16 = .int .u64 r ∧ Hid (Inv1 q r)) (fun v15 _ => (intOf v15).toNat)
  case atStart => exact ⟨_, _, rfl, rfl, HI1⟩
  case round =>
    obtain ⟨q, r, rfl, rfl, HI⟩ := hrel
    obtain ⟨hq0, hq1, hr0, hr1⟩ := S1.bounds q r HI.out
    have hmm0 : 0 ≤ q * yn0 := Int.mul_nonneg hq0 hz0
    by_cases hA : 4294967296 ≤ q
    · obtain ⟨h1, h2, h3⟩ := S1.more q r HI.out (.inl hA)
      by_cases hB : r + yn1 < 4294967296
      · have HI' := Lib.hid (h2 hB)
        clear h2 h3 HI
        have hB' : ¬ 4294967296 ≤ r + yn1 := by omega
        go_wp2
        go_round
        case rel => exact ⟨q - 1, r + yn1, rfl, rfl, HI'⟩
        case measure => simp [intOf]; omega
      · have hQ := Lib.hid (h3 (by omega))
        clear h2 h3 HI
        have hB' : 4294967296 ≤ r + yn1 := by omega
        have hQe : q - 1 = Q1 := hQ.out
        clear hQ
        go_wp2
        go_loop [18, 16] (fun v18 v16 => ∃ q r : Int, v18 = .int .u64 q ∧ v16 = .int .u64 r ∧ Hid (Inv0 q r)) (fun v18 _ => (intOf v18).toNat)
        case atStart => exact ⟨_, _, rfl, rfl, HI0⟩
        case round =>
          obtain ⟨q, r, rfl, rfl, HI⟩ := hrel
          obtain ⟨hq0, hq1, hr0, hr1⟩ := S0.bounds q r HI.out
          have hmm0 : 0 ≤ q * yn0 := Int.mul_nonneg hq0 hz0
          by_cases hA : 4294967296 ≤ q
          · obtain ⟨h1, h2, h3⟩ := S0.more q r HI.out (.inl hA)
            by_cases hB : r + yn1 < 4294967296
            · have HI' := Lib.hid (h2 hB)
              clear h2 h3 HI
              have hB' : ¬ 4294967296 ≤ r + yn1 := by omega
              go_wp2
              go_round
              case rel => exact ⟨q - 1, r + yn1, rfl, rfl, HI'⟩
              case measure => simp [intOf]; omega
            · have hQ := Lib.hid (h3 (by omega))
              clear h2 h3 HI
              have hB' : 4294967296 ≤ r + yn1 := by omega
              have hQe : q - 1 = Q0 := hQ.out
              clear hQ
              go_wp2
              go_ret2
              exact ⟨rfl, rfl⟩
          · have hmm1 : q * yn0 ≤ 18446744069414584321 := by
              have := Int.mul_le_mul (show q ≤ 4294967295 by omega) (show yn0 ≤ 4294967295 by omega) hz0 (by omega)
              omega
            by_cases hC : 4294967296 * r + n0 < q * yn0
            · obtain ⟨h1, h2, h3⟩ := S0.more q r HI.out (.inr hC)
              by_cases hB : r + yn1 < 4294967296
              · have HI' := Lib.hid (h2 hB)
                clear h2 h3 HI
                have hB' : ¬ 4294967296 ≤ r + yn1 := by omega
                go_wp2
                go_round
                case rel => exact ⟨q - 1, r + yn1, rfl, rfl, HI'⟩
                case measure => simp [intOf]; omega
              · have hQ := Lib.hid (h3 (by omega))
                clear h2 h3 HI
                have hB' : 4294967296 ≤ r + yn1 := by omega
                have hQe : q - 1 = Q0 := hQ.out
                clear hQ
                go_wp2
                go_ret2
                exact ⟨rfl, rfl⟩
            · obtain rfl : q = Q0 := S0.done q r HI.out (by omega) (by omega)
              clear HI
              go_wp2
              go_ret2
              exact ⟨rfl, rfl⟩
    · have hmm1 : q * yn0 ≤ 18446744069414584321 := by
        have := Int.mul_le_mul (show q ≤ 4294967295 by omega) (show yn0 ≤ 4294967295 by omega) hz0 (by omega)
        omega
      by_cases hC : 4294967296 * r + n1 < q * yn0
      · obtain ⟨h1, h2, h3⟩ := S1.more q r HI.out (.inr hC)
        by_cases hB : r + yn1 < 4294967296
        · have HI' := Lib.hid (h2 hB)
          clear h2 h3 HI
          have hB' : ¬ 4294967296 ≤ r + yn1 := by omega
          go_wp2
          go_round
          case rel => exact ⟨q - 1, r + yn1, rfl, rfl, HI'⟩
          case measure => simp [intOf]; omega
        · have hQ := Lib.hid (h3 (by omega))
          clear h2 h3 HI
          have hB' : 4294967296 ≤ r + yn1 := by omega
          have hQe : q - 1 = Q1 := hQ.out
          clear hQ
          go_wp2
          go_loop [18, 16] (fun v18 v16 => ∃ q r : Int, v18 = .int .u64 q ∧ v16 = .int .u64 r ∧ Hid (Inv0 q r)) (fun v18 _ => (intOf v18).toNat)
          case atStart => exact ⟨_, _, rfl, rfl, HI0⟩
          case round =>
            obtain ⟨q, r, rfl, rfl, HI⟩ := hrel
            obtain ⟨hq0, hq1, hr0, hr1⟩ := S0.bounds q r HI.out
            have hmm0 : 0 ≤ q * yn0 := Int.mul_nonneg hq0 hz0
            by_cases hA : 4294967296 ≤ q
            · obtain ⟨h1, h2, h3⟩ := S0.more q r HI.out (.inl hA)
              by_cases hB : r + yn1 < 4294967296
              · have HI' := Lib.hid (h2 hB)
                clear h2 h3 HI
                have hB' : ¬ 4294967296 ≤ r + yn1 := by omega
                go_wp2
                go_round
                case rel => exact ⟨q - 1, r + yn1, rfl, rfl, HI'⟩
                case measure => simp [intOf]; omega
              · have hQ := Lib.hid (h3 (by omega))
                clear h2 h3 HI
                have hB' : 4294967296 ≤ r + yn1 := by omega
                have hQe : q - 1 = Q0 := hQ.out
                clear hQ
                go_wp2
                go_ret2
                exact ⟨rfl, rfl⟩
            · have hmm1 : q * yn0 ≤ 18446744069414584321 := by
                have := Int.mul_le_mul (show q ≤ 4294967295 by omega) (show yn0 ≤ 4294967295 by omega) hz0 (by omega)
                omega
              by_cases hC : 4294967296 * r + n0 < q * yn0
              · obtain ⟨h1, h2, h3⟩ := S0.more q r HI.out (.inr hC)
                by_cases hB : r + yn1 < 4294967296
                · have HI' := Lib.hid (h2 hB)
                  clear h2 h3 HI
                  have hB' : ¬ 4294967296 ≤ r + yn1 := by omega
                  go_wp2
                  go_round
                  case rel => exact ⟨q - 1, r + yn1, rfl, rfl, HI'⟩
                  case measure => simp [intOf]; omega
                · have hQ := Lib.hid (h3 (by omega))
                  clear h2 h3 HI
                  have hB' : 4294967296 ≤ r + yn1 := by omega
                  have hQe : q - 1 = Q0 := hQ.out
                  clear hQ
                  go_wp2
                  go_ret2
                  exact ⟨rfl, rfl⟩
              · obtain rfl : q = Q0 := S0.done q r HI.out (by omega) (by omega)
                clear HI
                go_wp2
                go_ret2
                exact ⟨rfl, rfl⟩
      · obtain rfl : q = Q1 := S1.done q r HI.out (by omega) (by omega)
        clear HI
        go_wp2
        go_loop [18, 16] (fun v18 v16 => ∃ q r : Int, v18 = .int .u64 q ∧ v16 = .int .u64 r ∧ Hid (Inv0 q r)) (fun v18 _ => (intOf v18).toNat)
        case atStart => exact ⟨_, _, rfl, rfl, HI0⟩
        case round =>
          obtain ⟨q, r, rfl, rfl, HI⟩ := hrel
          obtain ⟨hq0, hq1, hr0, hr1⟩ := S0.bounds q r HI.out
          have hmm0 : 0 ≤ q * yn0 := Int.mul_nonneg hq0 hz0
          by_cases hA : 4294967296 ≤ q
          · obtain ⟨h1, h2, h3⟩ := S0.more q r HI.out (.inl hA)
            by_cases hB : r + yn1 < 4294967296
            · have HI' := Lib.hid (h2 hB)
              clear h2 h3 HI
              have hB' : ¬ 4294967296 ≤ r + yn1 := by omega
              go_wp2
              go_round
              case rel => exact ⟨q - 1, r + yn1, rfl, rfl, HI'⟩
              case measure => simp [intOf]; omega
            · have hQ := Lib.hid (h3 (by omega))
              clear h2 h3 HI
              have hB' : 4294967296 ≤ r + yn1 := by omega
              have hQe : q - 1 = Q0 := hQ.out
              clear hQ
              go_wp2
              go_ret2
              exact ⟨rfl, rfl⟩
          · have hmm1 : q * yn0 ≤ 18446744069414584321 := by
              have := Int.mul_le_mul (show q ≤ 4294967295 by omega) (show yn0 ≤ 4294967295 by omega) hz0 (by omega)
              omega
            by_cases hC : 4294967296 * r + n0 < q * yn0
            · obtain ⟨h1, h2, h3⟩ := S0.more q r HI.out (.inr hC)
              by_cases hB : r + yn1 < 4294967296
              · have HI' := Lib.hid (h2 hB)
                clear h2 h3 HI
                have hB' : ¬ 4294967296 ≤ r + yn1 := by omega
                go_wp2
                go_round
                case rel => exact ⟨q - 1, r + yn1, rfl, rfl, HI'⟩
                case measure => simp [intOf]; omega
              · have hQ := Lib.hid (h3 (by omega))
                clear h2 h3 HI
                have hB' : 4294967296 ≤ r + yn1 := by omega
                have hQe : q - 1 = Q0 := hQ.out
                clear hQ
                go_wp2
                go_ret2
                exact ⟨rfl, rfl⟩
            · obtain rfl : q = Q0 := S0.done q r HI.out (by omega) (by omega)
              clear HI
              go_wp2
              go_ret2
              exact ⟨rfl, rfl⟩

end Go.Proofs.YtebfggiodhaahaaGreatDoor
end
section
namespace Go.Proofs.YtebfggiodhaahaaGreatDoor
open Go.RowKit Go.Shelf

/-- The search's invariant. -/
def Inv (yn1 u Q : Int) (q r : Int) : Prop := 0 ≤ Q ∧ Q ≤ q ∧ q ≤ 8589934592 ∧ r = u - q * yn1 ∧ 0 ≤ r ∧ r < 4294967296

theorem search_holds {yn1 yn0 u n Y : Int} (hY : Y = yn1 * 4294967296 + yn0) (h1 : 2147483648 ≤ yn1) (h2 : yn1 < 4294967296) (h3 : 0 ≤ yn0) (h4 : yn0 < 4294967296) (hu0 : 0 ≤ u) (hu : u < Y) (hn0 : 0 ≤ n) (hn : n < 4294967296) :
    Search yn1 yn0 n ((u * 4294967296 + n) / Y) (Inv yn1 u ((u * 4294967296 + n) / Y)) ∧ Inv yn1 u ((u * 4294967296 + n) / Y) (u / yn1) (u - u / yn1 * yn1) ∧ (u * 4294967296 + n) / Y < 4294967296 ∧
    0 ≤ u / yn1 ∧ u / yn1 ≤ 8589934592 ∧ 0 ≤ u / yn1 * yn1 ∧ u / yn1 * yn1 ≤ u := by
  have hYp : 0 < Y := by omega
  have expand : ∀ q : Int, q * Y = q * yn1 * 4294967296 + q * yn0 := fun q => by rw [hY, Int.mul_add, Int.mul_assoc]
  have leQ : ∀ q : Int, q * yn1 * 4294967296 + q * yn0 ≤ u * 4294967296 + n → q ≤ (u * 4294967296 + n) / Y := fun q h => (Int.le_ediv_iff_mul_le hYp).2 (by rw [expand]; exact h)
  have ltQ : ∀ q : Int, u * 4294967296 + n < q * yn1 * 4294967296 + q * yn0 → (u * 4294967296 + n) / Y < q := fun q h => (Int.ediv_lt_iff_lt_mul hYp).2 (by rw [expand]; exact h)
  have hQ0 : 0 ≤ (u * 4294967296 + n) / Y := Int.ediv_nonneg (by omega) (by omega)
  have hQB : (u * 4294967296 + n) / Y < 4294967296 := (Int.ediv_lt_iff_lt_mul hYp).2 (by omega)
  have hQle : (u * 4294967296 + n) / Y * Y ≤ u * 4294967296 + n := Int.ediv_mul_le _ (by omega)
  have hd := Int.ediv_mul_add_emod u yn1
  have hm0 := Int.emod_nonneg u (show yn1 ≠ 0 by omega)
  have hm1 := Int.emod_lt_of_pos u (show 0 < yn1 by omega)
  have hq0 : 0 ≤ u / yn1 := Int.ediv_nonneg hu0 (by omega)
  have hq1 : u / yn1 ≤ 8589934592 := by
    have : u / yn1 < 8589934592 := (Int.ediv_lt_iff_lt_mul (by omega)).2 (by omega)
    omega
  have hp0 : 0 ≤ u / yn1 * yn1 := Int.mul_nonneg hq0 (by omega)
  generalize (u * 4294967296 + n) / Y = Q at *
  refine ⟨⟨?_, ?_, ?_⟩, ?_, hQB, hq0, hq1, hp0, by omega⟩
  · rintro q r ⟨a, b, c, d, e, f⟩
    exact ⟨by omega, c, e, f⟩
  · rintro q r ⟨a, b, c, d, e, f⟩ hc
    have hlt : Q < q := by
      rcases hc with hc | hc
      · omega
      · exact ltQ q (by rw [show q * yn1 = u - r from by omega]; omega)
    have es : (q - 1) * yn1 = q * yn1 - yn1 := by rw [Int.sub_mul, Int.one_mul]
    refine ⟨by omega, fun hr => ⟨a, by omega, by omega, by rw [es]; omega, by omega, hr⟩, fun hr => ?_⟩
    have hlt2 : q - 1 < 4294967296 := by
      have : (q - 1) * yn1 < 4294967296 * yn1 := by rw [es]; omega
      exact Int.lt_of_mul_lt_mul_right this (by omega)
    have hb : (q - 1) * yn0 ≤ 4294967295 * 4294967295 := Int.mul_le_mul (by omega) (by omega) h3 (by omega)
    have := leQ (q - 1) (by rw [es]; omega)
    omega
  · rintro q r ⟨a, b, c, d, e, f⟩ h5 h6
    have := leQ q (by rw [show q * yn1 = u - r from by omega]; omega)
    omega
  · refine ⟨hQ0, ?_, hq1, rfl, by omega, by omega⟩
    refine (Int.le_ediv_iff_mul_le (by omega)).2 ?_
    rw [expand] at hQle
    have : 0 ≤ Q * yn0 := Int.mul_nonneg hQ0 h3
    omega

/-- math/bits.Div64 where the high word is 0. -/
theorem div64_low (lo y : Nat) (hlo : lo < 18446744073709551616) (hy : 1 ≤ y) (hy1 : y < 18446744073709551616) (w : World) :
    Calls Tryz.prog 145 #[.int .u64 0, .int .u64 lo, .int .u64 y] w fun e w' => e = .returned (.tuple #[.int .u64 ((lo / y : Nat) : Int), .int .u64 ((lo % y : Nat) : Int)]) ∧ ∃ n, w' = w.drewN n := by
  have a1 : ¬ (y : Int) ≤ 0 := by omega
  have a2 : ((y : Int) == 0) = false := by rw [beq_eq_false_iff_ne]; omega
  have a3 : (1 : Int) ≤ y := by omega
  have hle : lo / y ≤ lo := Nat.div_le_self _ _
  have hwr : IntKind.u64.wrap ((lo : Int) / (y : Int)) = ((lo / y : Nat) : Int) := by
    rw [IntKind.wrap_u64, ← Int.natCast_ediv]
    generalize lo / y = q at *
    omega
  have hmo : (lo : Int) % (y : Int) = ((lo % y : Nat) : Int) := by rw [Int.natCast_emod]
  have HW := Lib.hid hwr
  have HM := Lib.hid hmo
  clear hwr hmo hle
  go_enter Tryz.func145, Tryz.ntmps145
  go_wp2
  go_quiet (fail)
  go_wp2
  go_ret2
  refine ⟨?_, _, rfl⟩
  rw [← HW.out, ← HM.out]
  rfl

theorem and_mask (n : Nat) (h : n < 18446744073709551616) : bits .and .u64 (n : Int) 4294967295 = ((n % 4294967296 : Nat) : Int) := by
  have := bits_and_u64_nat n 4294967295 h (by decide)
  rw [show (4294967295 : Nat) = 2 ^ 32 - 1 from by decide, Nat.and_two_pow_sub_one_eq_mod] at this
  exact this

/-- math/bits.Div64. -/
theorem div64_any (hi lo y : Nat) (hlo : lo < 18446744073709551616) (h : hi < y) (hy1 : y < 18446744073709551616) (w : World) :
    Calls Tryz.prog 145 #[.int .u64 hi, .int .u64 lo, .int .u64 y] w fun e w' => e = .returned (.tuple #[.int .u64 (((hi * 18446744073709551616 + lo) / y : Nat) : Int), .int .u64 (((hi * 18446744073709551616 + lo) % y : Nat) : Int)]) ∧ ∃ n, w' = w.drewN n := by
  by_cases h0 : hi = 0
  · subst h0
    rw [Nat.zero_mul, Nat.zero_add]
    exact div64_low lo y hlo (by omega) hy1 w
  · have hyz : y ≠ 0 := by omega
    have hbl := blen_spec hyz
    have hb64 : blen y ≤ 64 := blen_le hy1
    obtain ⟨s, hs⟩ : ∃ s : Nat, s + blen y = 64 := ⟨64 - blen y, by omega⟩
    have hs63 : s ≤ 63 := by omega
    -- the divisor, its first bit set
    have hY1 : y * 2 ^ s < 2 ^ 64 := by
      have : y * 2 ^ s < 2 ^ blen y * 2 ^ s := Nat.mul_lt_mul_of_pos_right hbl.2.2 (Nat.two_pow_pos _)
      rw [← Nat.pow_add, show blen y + s = 64 from by omega] at this
      exact this
    have hY0 : 2 ^ 63 ≤ y * 2 ^ s := by
      have : 2 ^ (blen y - 1) * 2 ^ s ≤ y * 2 ^ s := Nat.mul_le_mul_right _ hbl.2.1
      rw [← Nat.pow_add, show blen y - 1 + s = 63 from by omega] at this
      exact this
    -- the number's three parts
    have h64 : (2 : Nat) ^ 64 = 2 ^ s * 2 ^ (64 - s) := by rw [← Nat.pow_add]; congr 1; omega
    have hhs : hi * 2 ^ s < 2 ^ 64 := Nat.lt_trans (Nat.mul_lt_mul_of_pos_right h (Nat.two_pow_pos _)) hY1
    have hlow : lo / 2 ^ (64 - s) < 2 ^ s := by
      apply Nat.div_lt_of_lt_mul
      rw [Nat.mul_comm, ← h64]; exact hlo
    have hlo64 : lo / 2 ^ (64 - s) < 18446744073709551616 := Nat.lt_of_le_of_lt (Nat.div_le_self _ _) hlo
    have hU : bits .or .u64 (IntKind.u64.wrap ((hi : Int) * 2 ^ ((s : Nat) : Int).toNat)) ((lo : Int) / 2 ^ (64 - ((s : Nat) : Int)).toNat) = ((hi * 2 ^ s + lo / 2 ^ (64 - s) : Nat) : Int) := by
      rw [Int.toNat_natCast, show (64 - ((s : Nat) : Int)).toNat = 64 - s from by omega, wrap_mul_pow]
      have : (lo : Int) / 2 ^ (64 - s) = ((lo / 2 ^ (64 - s) : Nat) : Int) := by rw [Int.natCast_ediv, Int.natCast_pow]; rfl
      rw [this, Nat.mod_eq_of_lt hhs, u64_or_nat _ _ hhs hlo64]
      congr 1
      rw [Nat.mul_comm hi, ← Nat.two_pow_add_eq_or_of_lt hlow]
    have hL : IntKind.u64.wrap ((lo : Int) * 2 ^ ((s : Nat) : Int).toNat) = ((lo * 2 ^ s % 2 ^ 64 : Nat) : Int) := by
      rw [Int.toNat_natCast]; exact wrap_mul_pow _ _
    have hYw : IntKind.u64.wrap ((y : Int) * 2 ^ ((s : Nat) : Int).toNat) = ((y * 2 ^ s : Nat) : Int) := by
      rw [Int.toNat_natCast, wrap_mul_pow, Nat.mod_eq_of_lt hY1]
    have hall : (hi * 2 ^ s + lo / 2 ^ (64 - s)) * 18446744073709551616 + lo * 2 ^ s % 2 ^ 64 = (hi * 18446744073709551616 + lo) * 2 ^ s := by
      have e1 : lo * 2 ^ s / 2 ^ 64 = lo / 2 ^ (64 - s) := by
        rw [h64, Nat.mul_comm (2 ^ s), Nat.mul_div_mul_right _ _ (Nat.two_pow_pos _)]
      have e2 := Nat.div_add_mod (lo * 2 ^ s) (2 ^ 64)
      rw [e1] at e2
      rw [Nat.add_mul, Nat.add_mul, Nat.mul_assoc, Nat.mul_assoc, Nat.mul_comm (2 ^ s) 18446744073709551616]
      omega
    have hUY : hi * 2 ^ s + lo / 2 ^ (64 - s) < y * 2 ^ s := by
      have : (hi + 1) * 2 ^ s ≤ y * 2 ^ s := Nat.mul_le_mul_right _ h
      rw [Nat.add_mul, Nat.one_mul] at this
      omega
    -- the quotient and the rest, out of the number that is shifted
    have hpos : 0 < 2 ^ s := Nat.two_pow_pos _
    have hquo : (hi * 18446744073709551616 + lo) * 2 ^ s / (y * 2 ^ s) = (hi * 18446744073709551616 + lo) / y := Nat.mul_div_mul_right _ _ hpos
    have hrem : (hi * 18446744073709551616 + lo) * 2 ^ s % (y * 2 ^ s) = (hi * 18446744073709551616 + lo) % y * 2 ^ s := Nat.mul_mod_mul_right _ _ _
    rw [← hall] at hquo hrem
    have hrdiv : ((((hi * 18446744073709551616 + lo) % y * 2 ^ s : Nat) : Int)) / 2 ^ s = (((hi * 18446744073709551616 + lo) % y : Nat) : Int) := by
      rw [show ((2 : Int) ^ s) = ((2 ^ s : Nat) : Int) from by rw [Int.natCast_pow]; rfl, ← Int.natCast_ediv, Nat.mul_div_cancel _ hpos]
    have hlz : ∀ W, Calls Tryz.prog 178 #[.int .u64 y] W fun e w' => e = .returned (.int .i64 ((s : Nat) : Int)) ∧ w' = W := fun W => by
      have := Tryz.bits_LeadingZeros64 (y : Int) W (by omega) (by omega)
      rw [Int.toNat_natCast, bitLen_blen hy1, show (64 : Int) - (blen y : Int) = ((s : Nat) : Int) from by omega] at this
      exact this
    clear hall hhs hlow hlo64 h64 hbl
    generalize hi * 2 ^ s + lo / 2 ^ (64 - s) = U at *
    generalize y * 2 ^ s = Y at *
    have hLlt : lo * 2 ^ s % 2 ^ 64 < 2 ^ 64 := Nat.mod_lt _ (by decide)
    generalize lo * 2 ^ s % 2 ^ 64 = L at *
    -- two digits
    have hYe : (Y : Int) = ((Y / 4294967296 : Nat) : Int) * 4294967296 + ((Y % 4294967296 : Nat) : Int) := by omega
    obtain ⟨S1, I1, q1, a1, a2, a3, a4⟩ := search_holds (u := (U : Int)) (n := ((L / 4294967296 : Nat) : Int)) hYe (by omega) (by omega) (by omega) (by omega) (by omega) (by omega) (by omega) (by omega)
    have d1 := Int.ediv_mul_add_emod ((U : Int) * 4294967296 + ((L / 4294967296 : Nat) : Int)) (Y : Int)
    have m1 := Int.emod_nonneg ((U : Int) * 4294967296 + ((L / 4294967296 : Nat) : Int)) (show (Y : Int) ≠ 0 by omega)
    have m2 := Int.emod_lt_of_pos ((U : Int) * 4294967296 + ((L / 4294967296 : Nat) : Int)) (show 0 < (Y : Int) by omega)
    have g1 : 0 ≤ ((U : Int) * 4294967296 + ((L / 4294967296 : Nat) : Int)) / (Y : Int) := Int.ediv_nonneg (by omega) (by omega)
    obtain ⟨R1, hR1⟩ : ∃ R1 : Int, ((U : Int) * 4294967296 + ((L / 4294967296 : Nat) : Int)) % (Y : Int) = R1 := ⟨_, rfl⟩
    rw [hR1] at d1 m1 m2
    obtain ⟨S0, I0, q0, b1, b2, b3, b4⟩ := search_holds (u := R1) (n := ((L % 4294967296 : Nat) : Int)) hYe (by omega) (by omega) (by omega) (by omega) m1 m2 (by omega) (by omega)
    have d0 := Int.ediv_mul_add_emod (R1 * 4294967296 + ((L % 4294967296 : Nat) : Int)) (Y : Int)
    have m3 := Int.emod_nonneg (R1 * 4294967296 + ((L % 4294967296 : Nat) : Int)) (show (Y : Int) ≠ 0 by omega)
    have m4 := Int.emod_lt_of_pos (R1 * 4294967296 + ((L % 4294967296 : Nat) : Int)) (show 0 < (Y : Int) by omega)
    have g0 : 0 ≤ (R1 * 4294967296 + ((L % 4294967296 : Nat) : Int)) / (Y : Int) := Int.ediv_nonneg (by omega) (by omega)
    obtain ⟨R0, hR0⟩ : ∃ R0 : Int, (R1 * 4294967296 + ((L % 4294967296 : Nat) : Int)) % (Y : Int) = R0 := ⟨_, rfl⟩
    rw [hR0] at d0 m3 m4
    clear hR1 hR0
    obtain ⟨Q1, hQ1⟩ : ∃ Q1 : Int, ((U : Int) * 4294967296 + ((L / 4294967296 : Nat) : Int)) / (Y : Int) = Q1 := ⟨_, rfl⟩
    obtain ⟨Q0, hQ0⟩ : ∃ Q0 : Int, (R1 * 4294967296 + ((L % 4294967296 : Nat) : Int)) / (Y : Int) = Q0 := ⟨_, rfl⟩
    rw [hQ1] at S1 I1 q1 d1 g1
    rw [hQ0] at S0 I0 q0 d0 g0
    clear hQ1 hQ0
    obtain ⟨hqq, hrr⟩ : (U * 18446744073709551616 + L : Int) / (Y : Int) = Q1 * 4294967296 + Q0 ∧ (U * 18446744073709551616 + L : Int) % (Y : Int) = R0 := by
      have hc : (U * 18446744073709551616 + L : Int) = R0 + (Q1 * 4294967296 + Q0) * Y := by
        rw [Int.add_mul, Int.mul_assoc, Int.mul_comm 4294967296, ← Int.mul_assoc]
        omega
      rw [hc, Int.add_mul_ediv_right _ _ (by omega), Int.add_mul_emod_self_right, Int.ediv_eq_zero_of_lt m3 m4, Int.emod_eq_of_lt m3 m4]
      exact ⟨by omega, rfl⟩
    have f1 : IntKind.u64.wrap (IntKind.u64.wrap (IntKind.u64.wrap ((U : Int) * 4294967296) + ((L / 4294967296 : Nat) : Int)) - IntKind.u64.wrap (Q1 * (Y : Int))) = R1 := by
      simp only [IntKind.wrap_u64]
      generalize Q1 * (Y : Int) = P at *
      omega
    have f2 : IntKind.u64.wrap (IntKind.u64.wrap (IntKind.u64.wrap (R1 * 4294967296) + ((L % 4294967296 : Nat) : Int)) - IntKind.u64.wrap (Q0 * (Y : Int))) = R0 := by
      simp only [IntKind.wrap_u64]
      generalize Q0 * (Y : Int) = P at *
      omega
    have hfin : Q1 * 4294967296 + Q0 = (((hi * 18446744073709551616 + lo) / y : Nat) : Int) ∧ R0 = (((hi * 18446744073709551616 + lo) % y * 2 ^ s : Nat) : Int) := by
      rw [← hquo, ← hrem, ← hqq, ← hrr]
      exact ⟨by rw [Int.natCast_ediv]; rfl, by rw [Int.natCast_emod]; rfl⟩
    refine (div64_core (hi : Int) (lo : Int) (y : Int) ((s : Nat) : Int) (Y : Int) _ _ (U : Int) (L : Int) _ _ Q1 R1 Q0 R0 _ _ (by omega) (by omega) (by omega) (by omega) (by omega) hlz hYw (by rw [Int.natCast_ediv]; rfl) (and_mask Y hY1) hU hL (by rw [Int.natCast_ediv]; rfl) (and_mask L hLlt) (by omega) (by omega) (by omega) (by omega) (by omega) (by omega) (by omega) (by omega) (by omega) (by omega) a1 a2 a3 a4 I1 S1 f1 m1 (by omega) g1 q1 g0 q0 b1 b2 b3 b4 I0 S0 f2 w).mono ?_
    rintro e w' ⟨rfl, rfl⟩
    refine ⟨?_, 0, rfl⟩
    rw [hfin.1, hfin.2, Int.toNat_natCast, hrdiv]

end Go.Proofs.YtebfggiodhaahaaGreatDoor
end
section
namespace Go.Proofs.YtebfggiodhaahaaGreatDoor
open Go.RowKit Go.Shelf

theorem Row4.put0 {W : World} {b : Nat} {v0 v1 v2 v3 : Value} (h : Row4 W b v0 v1 v2 v3) (u : Value) : Row4 (W.setCell ⟨b, 0, none⟩ u) b u v1 v2 v3 := by
  unfold Row4 at *
  simpa using heap_setCell_same W b 0 _ _ u h
theorem Row4.put1 {W : World} {b : Nat} {v0 v1 v2 v3 : Value} (h : Row4 W b v0 v1 v2 v3) (u : Value) : Row4 (W.setCell ⟨b, 1, none⟩ u) b v0 u v2 v3 := by
  unfold Row4 at *
  simpa using heap_setCell_same W b 1 _ _ u h
theorem Row4.put2 {W : World} {b : Nat} {v0 v1 v2 v3 : Value} (h : Row4 W b v0 v1 v2 v3) (u : Value) : Row4 (W.setCell ⟨b, 2, none⟩ u) b v0 v1 u v3 := by
  unfold Row4 at *
  simpa using heap_setCell_same W b 2 _ _ u h
theorem Row4.put3 {W : World} {b : Nat} {v0 v1 v2 v3 : Value} (h : Row4 W b v0 v1 v2 v3) (u : Value) : Row4 (W.setCell ⟨b, 3, none⟩ u) b v0 v1 v2 u := by
  unfold Row4 at *
  simpa using heap_setCell_same W b 3 _ _ u h

set_option maxHeartbeats 1000000 in
theorem div_core (a0 a1 a2 a3 d q0 q1 q2 q3 r0 r1 r2 r3 : Int) (hd : (d == 0) = false)
    (D3 : ∀ W, Calls Tryz.prog 145 #[.int .u64 0, .int .u64 a3, .int .u64 d] W fun e w' => e = .returned (.tuple #[.int .u64 q3, .int .u64 r3]) ∧ ∃ n, w' = W.drewN n)
    (D2 : ∀ W, Calls Tryz.prog 145 #[.int .u64 r3, .int .u64 a2, .int .u64 d] W fun e w' => e = .returned (.tuple #[.int .u64 q2, .int .u64 r2]) ∧ ∃ n, w' = W.drewN n)
    (D1 : ∀ W, Calls Tryz.prog 145 #[.int .u64 r2, .int .u64 a1, .int .u64 d] W fun e w' => e = .returned (.tuple #[.int .u64 q1, .int .u64 r1]) ∧ ∃ n, w' = W.drewN n)
    (D0 : ∀ W, Calls Tryz.prog 145 #[.int .u64 r1, .int .u64 a0, .int .u64 d] W fun e w' => e = .returned (.tuple #[.int .u64 q0, .int .u64 r0]) ∧ ∃ n, w' = W.drewN n) (w : World) :
    Calls Tryz.prog 112 #[.agg #[.int .u64 a0, .int .u64 a1, .int .u64 a2, .int .u64 a3], .int .u64 d] w fun e w' => e = .returned (.tuple #[.agg #[.int .u64 q0, .int .u64 q1, .int .u64 q2, .int .u64 q3], .int .u64 r0, .bool true]) ∧ Below w.heap.size w w' := by
  have E0 := Lib.hid D0; have E1 := Lib.hid D1; have E2 := Lib.hid D2; have E3 := Lib.hid D3
  clear D0 D1 D2 D3
  go_enter Tryz.func112, Tryz.ntmps112
  go_wp2
  refine wp_loop_rounds 5 ?_
  rw [rounds_succ]
  go_name_world W4 hW4
  have A4 : Row4 W4 w.heap.size (.int .u64 a0) (.int .u64 a1) (.int .u64 a2) (.int .u64 a3) := by rw [← hW4]; exact Row4.alloc (Row4.alloc (Row4.new _ _ _ _ _) _) _
  have O4 : Row4 W4 (w.heap.size + 1) (.int .u64 0) (.int .u64 0) (.int .u64 0) (.int .u64 0) := by rw [← hW4]; exact Row4.alloc (Row4.new' _ (by simp) _ _ _ _) _
  have Q4 : Row4 W4 (w.heap.size + 1 + 1) (.int .u64 0) (.int .u64 0) (.int .u64 0) (.int .u64 0) := by rw [← hW4]; exact Row4.new' _ (by simp) _ _ _ _
  have B4 : Below w.heap.size w W4 := by rw [← hW4]; exact bal (bal (bal (Below.refl _ _) _) _) _
  clear hW4
  obtain ⟨ta0, ta1, ta2, ta3, tb⟩ := A4.parts
  obtain ⟨tq0, tq1, tq2, tq3, tf0, tf1, tf2, tf3⟩ := Q4.parts
  clear tb
  go_wp2_with fail
  refine (E3.out _).mono ?_
  rintro e w' ⟨rfl, n3, rfl⟩
  go_wp2
  rw [rounds_succ]
  go_name_world W3 hW3
  have A3 : Row4 W3 w.heap.size (.int .u64 a0) (.int .u64 a1) (.int .u64 a2) (.int .u64 a3) := by rw [← hW3]; exact Row4.set (Row4.drewN A4 _) (by omega) _
  have O3 : Row4 W3 (w.heap.size + 1) (.int .u64 0) (.int .u64 0) (.int .u64 0) (.int .u64 0) := by rw [← hW3]; exact Row4.set (Row4.drewN O4 _) (by omega) _
  have Q3 : Row4 W3 (w.heap.size + 1 + 1) (.int .u64 0) (.int .u64 0) (.int .u64 0) (.int .u64 q3) := by rw [← hW3]; exact Row4.put3 (Row4.drewN Q4 _) _
  have B3 : Below w.heap.size w W3 := by rw [← hW3]; exact bsc (bdn B4 _) (by simp; omega) _
  clear hW3 ta0 ta1 ta2 ta3 tq0 tq1 tq2 tq3 tf0 tf1 tf2 tf3 A4 O4 Q4 B4
  obtain ⟨ta0, ta1, ta2, ta3, tb⟩ := A3.parts
  obtain ⟨tq0, tq1, tq2, tq3, tf0, tf1, tf2, tf3⟩ := Q3.parts
  clear tb
  go_wp2_with fail
  refine (E2.out _).mono ?_
  rintro e w' ⟨rfl, n2, rfl⟩
  go_wp2
  rw [rounds_succ]
  go_name_world W2 hW2
  have A2 : Row4 W2 w.heap.size (.int .u64 a0) (.int .u64 a1) (.int .u64 a2) (.int .u64 a3) := by rw [← hW2]; exact Row4.set (Row4.drewN A3 _) (by omega) _
  have O2 : Row4 W2 (w.heap.size + 1) (.int .u64 0) (.int .u64 0) (.int .u64 0) (.int .u64 0) := by rw [← hW2]; exact Row4.set (Row4.drewN O3 _) (by omega) _
  have Q2 : Row4 W2 (w.heap.size + 1 + 1) (.int .u64 0) (.int .u64 0) (.int .u64 q2) (.int .u64 q3) := by rw [← hW2]; exact Row4.put2 (Row4.drewN Q3 _) _
  have B2 : Below w.heap.size w W2 := by rw [← hW2]; exact bsc (bdn B3 _) (by simp; omega) _
  clear hW2 ta0 ta1 ta2 ta3 tq0 tq1 tq2 tq3 tf0 tf1 tf2 tf3 A3 O3 Q3 B3
  obtain ⟨ta0, ta1, ta2, ta3, tb⟩ := A2.parts
  obtain ⟨tq0, tq1, tq2, tq3, tf0, tf1, tf2, tf3⟩ := Q2.parts
  clear tb
  go_wp2_with fail
  refine (E1.out _).mono ?_
  rintro e w' ⟨rfl, n1, rfl⟩
  go_wp2
  rw [rounds_succ]
  go_name_world W1 hW1
  have A1 : Row4 W1 w.heap.size (.int .u64 a0) (.int .u64 a1) (.int .u64 a2) (.int .u64 a3) := by rw [← hW1]; exact Row4.set (Row4.drewN A2 _) (by omega) _
  have O1 : Row4 W1 (w.heap.size + 1) (.int .u64 0) (.int .u64 0) (.int .u64 0) (.int .u64 0) := by rw [← hW1]; exact Row4.set (Row4.drewN O2 _) (by omega) _
  have Q1 : Row4 W1 (w.heap.size + 1 + 1) (.int .u64 0) (.int .u64 q1) (.int .u64 q2) (.int .u64 q3) := by rw [← hW1]; exact Row4.put1 (Row4.drewN Q2 _) _
  have B1 : Below w.heap.size w W1 := by rw [← hW1]; exact bsc (bdn B2 _) (by simp; omega) _
  clear hW1 ta0 ta1 ta2 ta3 tq0 tq1 tq2 tq3 tf0 tf1 tf2 tf3 A2 O2 Q2 B2
  obtain ⟨ta0, ta1, ta2, ta3, tb⟩ := A1.parts
  obtain ⟨tq0, tq1, tq2, tq3, tf0, tf1, tf2, tf3⟩ := Q1.parts
  clear tb
  go_wp2_with fail
  refine (E0.out _).mono ?_
  rintro e w' ⟨rfl, n0, rfl⟩
  go_wp2
  rw [rounds_succ]
  go_name_world W0 hW0
  have A0 : Row4 W0 w.heap.size (.int .u64 a0) (.int .u64 a1) (.int .u64 a2) (.int .u64 a3) := by rw [← hW0]; exact Row4.set (Row4.drewN A1 _) (by omega) _
  have O0 : Row4 W0 (w.heap.size + 1) (.int .u64 0) (.int .u64 0) (.int .u64 0) (.int .u64 0) := by rw [← hW0]; exact Row4.set (Row4.drewN O1 _) (by omega) _
  have Q0 : Row4 W0 (w.heap.size + 1 + 1) (.int .u64 q0) (.int .u64 q1) (.int .u64 q2) (.int .u64 q3) := by rw [← hW0]; exact Row4.put0 (Row4.drewN Q1 _) _
  have B0 : Below w.heap.size w W0 := by rw [← hW0]; exact bsc (bdn B1 _) (by simp; omega) _
  clear hW0 ta0 ta1 ta2 ta3 tq0 tq1 tq2 tq3 tf0 tf1 tf2 tf3 A1 O1 Q1 B1
  obtain ⟨tq0, tq1, tq2, tq3, tb⟩ := Q0.parts
  obtain ⟨tz0, tz1, tz2, tz3, tf0, tf1, tf2, tf3⟩ := O0.parts
  clear tb
  go_wp2
  exact bodyPost_ret (v := .tuple #[.agg #[.int .u64 q0, .int .u64 q1, .int .u64 q2, .int .u64 q3], .int .u64 r0, .bool true]) (by simp [results, Tryz.results112, go_sem, tz0, tz1, tz2, tz3]) rfl ⟨rfl, bsc4 B0 (by omega) _ _ _ _⟩

/-- One digit of a division. -/
theorem div_step (a : Int) (r d : Nat) (ha : Word a) (hr : r < d) (hd : d < 18446744073709551616) : ∃ (q : Int) (r' : Nat), Word q ∧ r' < d ∧ (r : Int) * 18446744073709551616 + a = q * d + r' ∧
    ∀ W, Calls Tryz.prog 145 #[.int .u64 r, .int .u64 a, .int .u64 d] W fun e w' => e = .returned (.tuple #[.int .u64 q, .int .u64 (r' : Int)]) ∧ ∃ n, w' = W.drewN n := by
  unfold Word at *
  obtain ⟨a, rfl⟩ := Int.eq_ofNat_of_zero_le ha.1
  have ha1 : a < 18446744073709551616 := by omega
  refine ⟨(((r * 18446744073709551616 + a) / d : Nat) : Int), (r * 18446744073709551616 + a) % d, ⟨Int.natCast_nonneg _, ?_⟩, Nat.mod_lt _ (by omega), ?_, fun W => div64_any r a d ha1 hr hd W⟩
  · have : (r * 18446744073709551616 + a) / d < 18446744073709551616 := by
      apply Nat.div_lt_of_lt_mul
      have : (r + 1) * 18446744073709551616 ≤ d * 18446744073709551616 := Nat.mul_le_mul_right _ hr
      omega
    omega
  · have := Nat.div_add_mod (r * 18446744073709551616 + a) d
    rw [Nat.mul_comm] at this
    generalize (r * 18446744073709551616 + a) / d = q at *
    generalize (r * 18446744073709551616 + a) % d = m at *
    rw [← Int.natCast_mul]
    omega

/-- nat.Div. -/
theorem div_any (x d : Nat) (hx : x < 2 ^ 256) (hd0 : 0 < d) (hd : d < 18446744073709551616) (w : World) :
    Calls Tryz.prog 112 #[N4 x, .int .u64 d] w fun e w' => e = .returned (.tuple #[N4 (x / d), .int .u64 ((x % d : Nat) : Int), .bool true]) ∧ Below w.heap.size w w' := by
  have X := lb_sum x hx
  have x0 := lb_word 0 x; have x1 := lb_word 1 x; have x2 := lb_word 2 x; have x3 := lb_word 3 x
  obtain ⟨q3, r3, w3, l3, e3, D3⟩ := div_step (lb 3 x) 0 d x3 hd0 hd
  obtain ⟨q2, r2, w2, l2, e2, D2⟩ := div_step (lb 2 x) r3 d x2 l3 hd
  obtain ⟨q1, r1, w1, l1, e1, D1⟩ := div_step (lb 1 x) r2 d x1 l2 hd
  obtain ⟨q0, r0, w0, l0, e0, D0⟩ := div_step (lb 0 x) r1 d x0 l1 hd
  have hv := val4_lt w0 w1 w2 w3
  have tot : (x : Int) = r0 + val4 q0 q1 q2 q3 * d := by
    rw [← X]
    unfold val4
    rw [Int.add_mul, Int.add_mul, Int.add_mul, Int.mul_assoc, Int.mul_assoc, Int.mul_assoc]
    omega
  have hq : (x : Int) / d = val4 q0 q1 q2 q3 := by
    rw [tot, Int.add_mul_ediv_right _ _ (by omega), Int.ediv_eq_zero_of_lt (by omega) (by omega), Int.zero_add]
  have hr : (x : Int) % d = r0 := by
    rw [tot, Int.add_mul_emod_self_right, Int.emod_eq_of_lt (by omega) (by omega)]
  obtain ⟨z0, z1, z2, z3⟩ := lb_of w0 w1 w2 w3 (z := x / d) (by rw [← hq, Int.natCast_ediv])
  refine (div_core _ _ _ _ (d : Int) q0 q1 q2 q3 r0 r1 r2 r3 (by rw [beq_eq_false_iff_ne]; omega) D3 D2 D1 D0 w).mono ?_
  rintro e w' ⟨rfl, hb⟩
  refine ⟨?_, hb⟩
  have hr' : ((x % d : Nat) : Int) = r0 := by rw [Int.natCast_emod]; exact hr
  rw [hr']
  simp only [N4, z0, z1, z2, z3]

end Go.Proofs.YtebfggiodhaahaaGreatDoor
end
section
namespace Go.Proofs.YtebfggiodhaahaaGreatDoor
open Go.RowKit Go.Shelf

abbrev Z4 : Value := .agg #[.int .u64 0, .int .u64 0, .int .u64 0, .int .u64 0]

theorem digit_bad (a0 a1 a2 a3 c : Int) (h : c < 48 ∨ 57 < c) (w : World) : Calls Tryz.prog 195 #[.agg #[.int .u64 a0, .int .u64 a1, .int .u64 a2, .int .u64 a3], .int .u8 c] w fun e w' => e = .returned (.tuple #[Z4, .bool false]) ∧ Below w.heap.size w w' := by
  rcases h with h | h
  · go_enter Tryz.func195, Tryz.ntmps195
    go_wp2
    exact bodyPost_ret (v := .tuple #[Z4, .bool false]) (by simp [results, Tryz.results195, go_sem]) rfl ⟨rfl, bal (bal (Below.refl _ _) _) _⟩
  · have h' : ¬ c < 48 := by omega
    go_enter Tryz.func195, Tryz.ntmps195
    go_wp2
    exact bodyPost_ret (v := .tuple #[Z4, .bool false]) (by simp [results, Tryz.results195, go_sem]) rfl ⟨rfl, bal (bal (Below.refl _ _) _) _⟩

theorem digit_mulover (x : Nat) (hx : x < 2 ^ 256) (c : Int) (h1 : ¬ c < 48) (h2 : ¬ 57 < c) (h : ¬ x * 10 < 2 ^ 256) (w : World) : Calls Tryz.prog 195 #[N4 x, .int .u8 c] w fun e w' => e = .returned (.tuple #[Z4, .bool false]) ∧ Below w.heap.size w w' := by
  go_enter Tryz.func195, Tryz.ntmps195
  go_wp2_with fail
  refine (mul_over x 10 hx (by decide) h _).mono ?_
  rintro e w1 ⟨rfl, hb⟩
  obtain ⟨hc, hf⟩ := bcell hb
  have hz := hb.size
  simp at hz
  have hz1 : w.heap.size + 1 < w1.heap.size := by omega
  go_wp2
  refine bodyPost_ret (v := .tuple #[Z4, .bool false]) (by simp [results, Tryz.results195, go_sem, hc, hz1]) rfl ⟨rfl, ?_⟩
  refine bal (bsc4 (btr ?_ hb) (by omega) _ _ _ _) _
  repeat (first | exact Below.refl _ _ | refine bal ?_ _ | refine Below.drew ?_ | refine bdn ?_ _)

set_option maxHeartbeats 400000 in
set_option maxRecDepth 100000 in
theorem digit_core (x : Nat) (hx : x < 2 ^ 256) (c : Int) (h1 : ¬ c < 48) (h2 : ¬ 57 < c) (h : x * 10 < 2 ^ 256) (v0 v1 v2 v3 : Int) (b : Bool)
    (hadd : ∀ W, Calls Tryz.prog 219 #[N4 (x * 10), .agg #[.int .u64 (c - 48), .int .u64 0, .int .u64 0, .int .u64 0]] W fun e w' => e = .returned (.tuple #[.agg #[.int .u64 v0, .int .u64 v1, .int .u64 v2, .int .u64 v3], .bool b]) ∧ Below W.heap.size W w') (w : World) : Calls Tryz.prog 195 #[N4 x, .int .u8 c] w fun e w' => e = .returned (.tuple #[.agg #[.int .u64 v0, .int .u64 v1, .int .u64 v2, .int .u64 v3], .bool b]) ∧ Below w.heap.size w w' := by
  have HA := Lib.hid hadd; clear hadd
  have hw8 : IntKind.u8.wrap (c - 48) = c - 48 := by rw [IntKind.wrap_u8]; omega
  have hw64 : IntKind.u64.wrap (c - 48) = c - 48 := by rw [IntKind.wrap_u64]; omega
  go_enter Tryz.func195, Tryz.ntmps195
  go_wp2_with fail
  refine (mul_ok x 10 hx (by decide) h _).mono ?_
  rintro e w1 ⟨rfl, hb⟩
  have R := Row4.keep hb (b := w.heap.size + 1) (Row4.new' _ (by simp) _ _ _ _)
  have hz : w.heap.size + 1 < w1.heap.size := R.lt
  have hw : Below w.heap.size w w1 := btr (bal (bal (Below.refl _ _) _) _) hb
  clear hb
  have hne : ¬ w1.heap.size = w.heap.size + 1 := by omega
  go_wp2
  go_region_held3 (fun w' => w'.cell? ⟨w1.heap.size, 0, none⟩ = some (.int .u64 (lb 0 (x * 10))) ∧ w'.cell? ⟨w1.heap.size, 1, none⟩ = some (.int .u64 (lb 1 (x * 10))) ∧ w'.cell? ⟨w1.heap.size, 2, none⟩ = some (.int .u64 (lb 2 (x * 10))) ∧ w'.cell? ⟨w1.heap.size, 3, none⟩ = some (.int .u64 (lb 3 (x * 10)))) (first | (simp [go_sem, World.cell?_alloc_past]; done) | (with_reducible exact ⟨t0, t1, t2, t3⟩) | (simp [go_sem, t0, t1, t2, t3]; done))
    (first | (go_at_call 107; refine (of_one _ _).mono ?_; rintro e w2 ⟨rfl, o2, rfl⟩) | (go_at_call 219; (with_reducible refine (HA.out _).mono ?_); rintro e w2 ⟨rfl, hb2⟩; obtain ⟨r0, r1, r2, r3, f0, f1, f2, f3⟩ := (Row4.keep hb2 (Row4.drew (Row4.alloc (Row4.alloc R _) _))).parts; obtain ⟨t0, t1, t2, t3, t4⟩ := (Row4.keep hb2 (Row4.drew (Row4.alloc (Row4.new _ _ _ _ _) _))).parts))
  go_wp2
  refine bodyPost_ret (v := .tuple #[.agg #[.int .u64 v0, .int .u64 v1, .int .u64 v2, .int .u64 v3], .bool b]) (by simp [results, Tryz.results195, go_sem, r0, r1, r2, r3]) rfl ⟨rfl, bsc4 (btr ?_ hb2) (by omega) _ _ _ _⟩
  exact bdn (n := 1) (bal (bal hw _) _)

/-- What a digit makes of a number. -/
def dstep (x : Nat) (c : UInt8) : Option Nat := if 48 ≤ c.toNat ∧ c.toNat ≤ 57 ∧ x * 10 + (c.toNat - 48) < 2 ^ 256 then some (x * 10 + (c.toNat - 48)) else none

theorem digit_ok (x : Nat) (hx : x < 2 ^ 256) (c : UInt8) (y : Nat) (h : dstep x c = some y) (w : World) : Calls Tryz.prog 195 #[N4 x, .int .u8 (c.toNat : Int)] w fun e w' => e = .returned (.tuple #[N4 y, .bool true]) ∧ Below w.heap.size w w' := by
  unfold dstep at h
  split at h
  · rename_i hh
    obtain ⟨h1, h2, h3⟩ := hh
    obtain rfl := Option.some.inj h
    refine digit_core x hx c.toNat (by omega) (by omega) (by omega) _ _ _ _ true (fun W => ?_) w
    have e := add_ok (x * 10) (c.toNat - 48) (by omega) (by omega) h3 W
    unfold N4 at e ⊢
    rw [show lb 0 (c.toNat - 48) = (c.toNat : Int) - 48 from by rw [lb0]; omega, show lb 1 (c.toNat - 48) = 0 from by rw [lb1]; omega, show lb 2 (c.toNat - 48) = 0 from by rw [lb2]; omega, show lb 3 (c.toNat - 48) = 0 from by rw [lb3]; omega] at e
    exact e
  · cases h
theorem digit_no (x : Nat) (hx : x < 2 ^ 256) (c : UInt8) (h : dstep x c = none) (w : World) : Calls Tryz.prog 195 #[N4 x, .int .u8 (c.toNat : Int)] w fun e w' => e = .returned (.tuple #[Z4, .bool false]) ∧ Below w.heap.size w w' := by
  unfold dstep at h
  split at h
  · cases h
  · rename_i hh
    by_cases hd : 48 ≤ c.toNat ∧ c.toNat ≤ 57
    · by_cases hm : x * 10 < 2 ^ 256
      · refine digit_core x hx c.toNat (by omega) (by omega) hm 0 0 0 0 false (fun W => ?_) w
        have e := add_over (x * 10) (c.toNat - 48) hm (by omega) (by omega) W
        unfold N4 at e ⊢
        rw [show lb 0 (c.toNat - 48) = (c.toNat : Int) - 48 from by rw [lb0]; omega, show lb 1 (c.toNat - 48) = 0 from by rw [lb1]; omega, show lb 2 (c.toNat - 48) = 0 from by rw [lb2]; omega, show lb 3 (c.toNat - 48) = 0 from by rw [lb3]; omega] at e
        simp only [lb_zero] at e
        exact e
      · exact digit_mulover x hx c.toNat (by omega) (by omega) hm w
    · exact digit_bad _ _ _ _ c.toNat (by omega) w

/-- What digits make of a number. -/
def dfold : List UInt8 → Nat → Option Nat
  | [], x => some x
  | c :: l, x => match dstep x c with
    | some y => dfold l y
    | none => none
theorem dstep_lt {x y : Nat} {c : UInt8} (h : dstep x c = some y) : y < 2 ^ 256 := by
  unfold dstep at h
  split at h
  · rename_i hh
    obtain rfl := Option.some.inj h
    exact hh.2.2
  · cases h
/-- The number whose decimals a text is. -/
def parseN (s : ByteArray) : Option Nat := if s.size = 0 ∨ (1 < s.size ∧ s.data.toList.head? = some 48) then none else dfold s.data.toList 0


end Go.Proofs.YtebfggiodhaahaaGreatDoor
end
section
namespace Go.Proofs.YtebfggiodhaahaaGreatDoor

theorem dec_step {u : Nat} (h : 10 ≤ u) : Lib.decDigits u = Lib.decDigits (u / 10) ++ [UInt8.ofNat (48 + u % 10)] := by
  rw [Lib.decDigits, dif_neg (by omega)]
theorem dec_small {u : Nat} (h : u < 10) : Lib.decDigits u = [UInt8.ofNat (48 + u)] := by
  rw [Lib.decDigits, dif_pos h]
/-- A number's digits, with noughts ahead up to k. -/
def pad (k r : Nat) : List UInt8 := List.replicate (k - (Lib.decDigits r).length) 48 ++ Lib.decDigits r
theorem dec_len {k r : Nat} (hk : 1 ≤ k) (h : r < 10 ^ k) : (Lib.decDigits r).length ≤ k := by
  induction k generalizing r with
  | zero => omega
  | succ k ih =>
    by_cases h10 : r < 10
    · rw [dec_small h10]; simp
    · rw [dec_step (by omega), List.length_append, List.length_singleton]
      have hk1 : 1 ≤ k := by
        rcases Nat.eq_zero_or_pos k with h0 | h0
        · subst h0; simp at h; omega
        · exact h0
      have := ih (r := r / 10) hk1 (by rw [Nat.pow_succ] at h; omega)
      omega
theorem dec_pos (r : Nat) : 1 ≤ (Lib.decDigits r).length := by
  by_cases h10 : r < 10
  · rw [dec_small h10]; simp
  · rw [dec_step (by omega)]; simp
theorem pad_step {k r : Nat} (hk : 1 ≤ k) (_h : r < 10 ^ (k + 1)) : pad (k + 1) r = pad k (r / 10) ++ [UInt8.ofNat (48 + r % 10)] := by
  unfold pad
  by_cases h10 : r < 10
  · rw [dec_small h10, show r / 10 = 0 from by omega, show r % 10 = r from by omega, dec_small (show 0 < 10 by decide)]
    have e : List.replicate (k + 1 - 1) (48 : UInt8) = List.replicate (k - 1) 48 ++ [48] := by
      rw [← List.replicate_succ', show k + 1 - 1 = k - 1 + 1 from by omega]
    simp only [List.length_singleton]
    rw [e]
    simp
  · rw [dec_step (by omega), List.length_append, List.length_singleton, show k + 1 - ((Lib.decDigits (r / 10)).length + 1) = k - (Lib.decDigits (r / 10)).length from by omega, List.append_assoc]
theorem dec_split {k q r : Nat} (hk : 1 ≤ k) (hq : 0 < q) (h : r < 10 ^ k) : Lib.decDigits (q * 10 ^ k + r) = Lib.decDigits q ++ pad k r := by
  induction k generalizing r with
  | zero => omega
  | succ k ih =>
    have hp : 0 < 10 ^ k := Nat.pow_pos (by decide)
    have h10 : 10 ≤ q * 10 ^ (k + 1) + r := by
      rw [Nat.pow_succ]
      have : 1 * 1 ≤ q * 10 ^ k := Nat.mul_le_mul hq hp
      rw [← Nat.mul_assoc]
      omega
    have e1 : (q * 10 ^ (k + 1) + r) / 10 = q * 10 ^ k + r / 10 := by rw [Nat.pow_succ, ← Nat.mul_assoc]; omega
    have e2 : (q * 10 ^ (k + 1) + r) % 10 = r % 10 := by rw [Nat.pow_succ, ← Nat.mul_assoc]; omega
    rw [dec_step h10, e1, e2]
    by_cases hk0 : k = 0
    · subst hk0
      simp at h
      rw [show r / 10 = 0 from by omega, Nat.add_zero, Nat.pow_zero, Nat.mul_one, show r % 10 = r from by omega]
      unfold pad
      rw [dec_small h]
      simp
    · rw [ih (by omega) (by rw [Nat.pow_succ] at h; omega), pad_step (by omega) h, List.append_assoc]

end Go.Proofs.YtebfggiodhaahaaGreatDoor
end
section
namespace Go.Proofs.YtebfggiodhaahaaGreatDoor

/-- A byte is a digit. -/
def isD (c : UInt8) : Prop := 48 ≤ c.toNat ∧ c.toNat ≤ 57
instance (c : UInt8) : Decidable (isD c) := by unfold isD; infer_instance
/-- What digits make of a number, however great. -/
def dgs : List UInt8 → Nat → Option Nat
  | [], x => some x
  | c :: l, x => if isD c then dgs l (x * 10 + (c.toNat - 48)) else none
theorem dgs_ge : ∀ (l : List UInt8) (x v : Nat), dgs l x = some v → x * 10 ^ l.length ≤ v
  | [], x, v, h => by simp only [dgs] at h; cases h; simp
  | c :: l, x, v, h => by
    simp only [dgs] at h
    split at h
    · have := dgs_ge l _ v h
      rw [List.length_cons, Nat.pow_succ, Nat.mul_comm (10 ^ l.length) 10, ← Nat.mul_assoc]
      exact Nat.le_trans (Nat.mul_le_mul_right _ (by omega)) this
    · cases h
/-- What is below 2^256. -/
def capN (o : Option Nat) : Option Nat := match o with
  | some v => if v < 2 ^ 256 then some v else none
  | none => none
theorem capN_in {v : Nat} (h : v < 2 ^ 256) : capN (some v) = some v := by unfold capN; simp only; rw [if_pos h]
theorem capN_out {v : Nat} (h : ¬ v < 2 ^ 256) : capN (some v) = none := by unfold capN; simp only; rw [if_neg h]
theorem dfold_dgs : ∀ (l : List UInt8) (x : Nat), x < 2 ^ 256 → dfold l x = capN (dgs l x)
  | [], x, hx => by simp only [dfold, dgs]; rw [capN_in hx]
  | c :: l, x, hx => by
    simp only [dfold, dgs]
    by_cases hc : isD c
    · rw [if_pos hc]
      unfold isD at hc
      by_cases hb : x * 10 + (c.toNat - 48) < 2 ^ 256
      · have e : dstep x c = some (x * 10 + (c.toNat - 48)) := by unfold dstep; rw [if_pos ⟨hc.1, hc.2, hb⟩]
        rw [e]
        exact dfold_dgs l _ hb
      · have e : dstep x c = none := by unfold dstep; rw [if_neg (fun h => hb h.2.2)]
        rw [e]
        cases hd : dgs l (x * 10 + (c.toNat - 48)) with
        | none => rfl
        | some v =>
          have := dgs_ge _ _ _ hd
          have h1 : 1 ≤ 10 ^ l.length := Nat.pow_pos (by decide)
          have h2 : (x * 10 + (c.toNat - 48)) * 1 ≤ (x * 10 + (c.toNat - 48)) * 10 ^ l.length := Nat.mul_le_mul_left _ h1
          rw [capN_out (by omega)]
    · rw [if_neg hc]
      have e : dstep x c = none := by
        unfold dstep
        rw [if_neg (fun h => hc ⟨h.1, h.2.1⟩)]
      rw [e]
      rfl
/-- The number whose decimals a text is, as the reference says it. -/
theorem parseN_dgs (s : ByteArray) : parseN s = if s.size = 0 ∨ (1 < s.size ∧ s.data.toList.head? = some 48) then none else capN (dgs s.data.toList 0) := by
  unfold parseN
  split
  · rfl
  · exact dfold_dgs _ _ (by decide)
/-- Decimals are built from the back. -/
theorem dec_cons (y : Nat) (h : 10 ≤ y) (l m : List UInt8) (e : l = Lib.decDigits y ++ m) : l = Lib.decDigits (y / 10) ++ (UInt8.ofNat (48 + y % 10) :: m) := by
  rw [e, dec_step h, List.append_assoc]; rfl
theorem dec_last (y : Nat) (h : y < 10) (l m : List UInt8) (e : l = Lib.decDigits y ++ m) : l = UInt8.ofNat (48 + y % 10) :: m := by
  rw [e, dec_small h, Nat.mod_eq_of_lt h]; rfl
theorem dec_isD : ∀ (n x : Nat), x < n → ∀ c ∈ Lib.decDigits x, isD c
  | 0, x, h => by omega
  | n + 1, x, h => by
    intro c hc
    by_cases h10 : x < 10
    · rw [dec_small h10, List.mem_singleton] at hc
      subst hc
      unfold isD
      rw [UInt8.toNat_ofNat']
      omega
    · rw [dec_step (by omega), List.mem_append, List.mem_singleton] at hc
      rcases hc with hc | hc
      · exact dec_isD n (x / 10) (by omega) c hc
      · subst hc
        unfold isD
        rw [UInt8.toNat_ofNat']
        omega
theorem dgs_app : ∀ (l m : List UInt8) (x : Nat), dgs (l ++ m) x = (match dgs l x with | some y => dgs m y | none => none)
  | [], m, x => by simp [dgs]
  | c :: l, m, x => by
    simp only [List.cons_append, dgs]
    split
    · exact dgs_app l m _
    · rfl
theorem dgs_dec : ∀ (n x : Nat), x < n → dgs (Lib.decDigits x) 0 = some x
  | 0, x, h => by omega
  | n + 1, x, h => by
    by_cases h10 : x < 10
    · rw [dec_small h10]
      have e : (UInt8.ofNat (48 + x)).toNat = 48 + x := by rw [UInt8.toNat_ofNat']; omega
      simp only [dgs]
      rw [if_pos (by unfold isD; omega), e]
      congr 1; omega
    · have e : (UInt8.ofNat (48 + x % 10)).toNat = 48 + x % 10 := by rw [UInt8.toNat_ofNat']; omega
      rw [dec_step (by omega), dgs_app, dgs_dec n (x / 10) (by omega)]
      simp only [dgs]
      rw [if_pos (by unfold isD; omega), e]
      congr 1; omega
theorem dec_head : ∀ (n x : Nat), x < n → x ≠ 0 → ∃ c l, Lib.decDigits x = c :: l ∧ c ≠ 48
  | 0, x, h, _ => by omega
  | n + 1, x, h, h0 => by
    by_cases h10 : x < 10
    · rw [dec_small h10]
      refine ⟨_, [], rfl, ?_⟩
      intro hc
      have := congrArg UInt8.toNat hc
      rw [UInt8.toNat_ofNat', show (48 : UInt8).toNat = 48 from rfl] at this
      omega
    · obtain ⟨c, l, hl, hc⟩ := dec_head n (x / 10) (by omega) (by omega)
      rw [dec_step (by omega), hl]
      exact ⟨c, _, rfl, hc⟩
/-- A number's decimals are read as it. -/
theorem parseN_dec {s : ByteArray} {x : Nat} (hs : s.data.toList = Lib.decDigits x) (hx : x < 2 ^ 256) : parseN s = some x := by
  have hl : s.data.toList.length = s.size := by simp
  have hp := dec_pos x
  rw [parseN_dgs, hs, dgs_dec (x + 1) x (by omega)]
  rw [hs] at hl
  rw [if_neg]
  · exact capN_in hx
  · rintro (h | ⟨h1, h2⟩)
    · omega
    · by_cases h0 : x = 0
      · subst h0
        rw [dec_small (by decide)] at hl
        simp at hl
        omega
      · obtain ⟨c, l, he, hc⟩ := dec_head (x + 1) x (by omega) h0
        rw [he] at h2
        exact hc (Option.some.inj h2)
end Go.Proofs.YtebfggiodhaahaaGreatDoor
end
section
namespace Go.Proofs.YtebfggiodhaahaaGreatDoor
open Go.RowKit Go.Shelf
attribute [local go_sem ↓] eql_nat neq_nat

theorem repeat_replicate (c : Nat) : Lib.repeatL [48] c = List.replicate c 48 := by
  induction c with
  | zero => rfl
  | succ c ih => rw [Lib.repeatL, ih]; rfl

set_option maxHeartbeats 2000000 in
set_option maxRecDepth 100000 in
theorem print_any (x : Nat) (hx : x < 2 ^ 256) (w : World) (htab : Tab w) :
    Calls Tryz.prog 68 #[N4 x] w fun e w' => (∃ p : ByteArray, e = .returned (.string p) ∧ p.data.toList = Lib.decDigits x) ∧ Below w.heap.size w w' := by
  have HT := Lib.hid htab
  clear htab
  go_enter Tryz.func68, Tryz.ntmps68
  go_wp2
  go_loopw [3] (fun v wr => ∃ (a : Nat) (t : ByteArray), v = .string t ∧ a < 2 ^ 256 ∧ t.size ≤ 100 ∧ Hid (Lib.decDigits x = Lib.decDigits a ++ t.data.toList) ∧ Row4 wr w.heap.size (.int .u64 (lb 0 a)) (.int .u64 (lb 1 a)) (.int .u64 (lb 2 a)) (.int .u64 (lb 3 a)) ∧ Below w.heap.size w wr) (fun v _ => 100 - (match v with | .string t => t.size | _ => 0))
  case atStart => exact ⟨x, ⟨#[]⟩, rfl, hx, by decide, by show Lib.decDigits x = _; simp, Row4.new _ _ _ _ _, bal (Below.refl _ _) _⟩
  case round =>
    obtain ⟨a, t, rfl, ha, ht, HD, R, hw⟩ := hrel
    rename World => wr
    obtain ⟨t0, t1, t2, t3, tf0, tf1, tf2, tf3⟩ := R.parts
    have TW := Lib.hid (tab_on HT.out hw)
    go_wp2_with fail
    refine (div_any a 10000000000000000000 ha (by decide) (by decide) _).mono ?_
    rintro e w1 ⟨rfl, hb1⟩
    have R1 := Row4.keep hb1 R
    have B1 := btr hw hb1
    have T1 := Lib.hid (tab_on TW.out hb1)
    clear R hb1 t0 t1 t2 t3 tf0 tf1 tf2 tf3
    go_wp2_with fail
    refine (fmt_any (a % 10000000000000000000) (by omega) _ (tab_on T1.out (bal (Below.refl _ _) _))).mono ?_
    rintro e w2 ⟨rfl, hb2⟩
    have R2 := Row4.keep hb2 (Row4.alloc R1 _)
    have Q2 := Row4.keep hb2 (Row4.new _ _ _ _ _)
    have B2 := btr (bal B1 _) hb2
    have hlen := dec_len (k := 19) (r := a % 10000000000000000000) (by decide) (by omega)
    have hpos := dec_pos (a % 10000000000000000000)
    obtain ⟨p, hp⟩ : ∃ p : ByteArray, p = ⟨(Lib.decDigits (a % 10000000000000000000)).toArray⟩ := ⟨_, rfl⟩
    rw [← hp]
    have HP : Hid (p.data.toList = Lib.decDigits (a % 10000000000000000000)) := by rw [hp]; show (Lib.decDigits (a % 10000000000000000000)).toArray.toList = _; simp
    have hps : p.size = (Lib.decDigits (a % 10000000000000000000)).length := by rw [hp]; show (Lib.decDigits (a % 10000000000000000000)).toArray.size = _; simp
    rw [← hps] at hlen hpos
    have hne : ¬ w1.heap.size = w.heap.size := by have := R1.lt; omega
    clear hp hps R1 B1 T1 TW hb2
    have hq256 : a / 10000000000000000000 < 2 ^ 256 := by omega
    have heq : eq4 (lb 0 (a / 10000000000000000000)) (lb 1 (a / 10000000000000000000)) (lb 2 (a / 10000000000000000000)) (lb 3 (a / 10000000000000000000)) 0 0 0 0 = decide (a / 10000000000000000000 = 0) := eq4_of (a / 10000000000000000000) 0 hq256 (by decide)
    obtain ⟨q0, q1, q2, q3, qf0, qf1, qf2, qf3⟩ := Q2.parts
    clear qf0 qf1 qf2 qf3
    by_cases hq : a / 10000000000000000000 = 0
    · rw [decide_eq_true hq] at heq
      have HF : Hid (Lib.decDigits x = p.data.toList ++ t.data.toList) := by
        show Lib.decDigits x = _
        rw [HD.out, HP.out, show a % 10000000000000000000 = a from by omega]
      have HQ := Lib.hid hq
      clear HD HP hq
      go_wp2
      go_region_held3 (fun w' => w'.cell? ⟨w1.heap.size, 0, none⟩ = some (.int .u64 (lb 0 (a / 10000000000000000000))) ∧ w'.cell? ⟨w1.heap.size, 1, none⟩ = some (.int .u64 (lb 1 (a / 10000000000000000000))) ∧ w'.cell? ⟨w1.heap.size, 2, none⟩ = some (.int .u64 (lb 2 (a / 10000000000000000000))) ∧ w'.cell? ⟨w1.heap.size, 3, none⟩ = some (.int .u64 (lb 3 (a / 10000000000000000000))))
        (first | (simp [go_sem, q0, q1, q2, q3]; done) | (with_reducible exact ⟨s0, s1, s2, s3⟩)) (first | (go_at_call 107; refine (of_one _ _).mono ?_; rintro e w3 ⟨rfl, o3, rfl⟩; obtain ⟨s0, s1, s2, s3, s4⟩ := (Row4.drew (Row4.alloc Q2 o3)).parts))
      go_wp2
      go_ret
      exact ⟨⟨p ++ t, rfl, by rw [HF.out]; simp⟩, Below.drew (bal B2 _)⟩
    · rw [decide_eq_false hq] at heq
      go_wp2
      go_region_held3 (fun w' => w'.cell? ⟨w1.heap.size, 0, none⟩ = some (.int .u64 (lb 0 (a / 10000000000000000000))) ∧ w'.cell? ⟨w1.heap.size, 1, none⟩ = some (.int .u64 (lb 1 (a / 10000000000000000000))) ∧ w'.cell? ⟨w1.heap.size, 2, none⟩ = some (.int .u64 (lb 2 (a / 10000000000000000000))) ∧ w'.cell? ⟨w1.heap.size, 3, none⟩ = some (.int .u64 (lb 3 (a / 10000000000000000000))))
        (first | (simp [go_sem, q0, q1, q2, q3]; done) | (with_reducible exact ⟨s0, s1, s2, s3⟩)) (first | (go_at_call 107; refine (of_one _ _).mono ?_; rintro e w3 ⟨rfl, o3, rfl⟩; obtain ⟨s0, s1, s2, s3, s4⟩ := (Row4.drew (Row4.alloc Q2 o3)).parts))
      go_wp2_with fail
      have hcc : (19 - (p.size : Int)) = ((19 - p.size : Nat) : Int) := by omega
      rw [hcc]
      refine (Tryz.strings_Repeat ⟨#[48]⟩ (19 - p.size) _ (by omega) (by show 1 * _ ≤ _; omega)).mono ?_
      rintro e w4 ⟨rfl, hb4⟩
      have Q4 := Row4.keep hb4 (Row4.drew (Row4.alloc Q2 o3))
      have R4 := Row4.keep hb4 (Row4.drew (Row4.alloc R2 o3))
      have B4 := btr (Below.drew (bal B2 o3)) hb4
      obtain ⟨z, hz⟩ : ∃ z : ByteArray, z = ⟨(Lib.repeatL (⟨#[48]⟩ : ByteArray).data.toList (19 - p.size)).toArray⟩ := ⟨_, rfl⟩
      rw [← hz]
      have hzl : z.data.toList = List.replicate (19 - p.size) 48 := by
        rw [hz]
        show (Lib.repeatL [48] (19 - p.size)).toArray.toList = _
        rw [repeat_replicate]
      have hzs : z.size = 19 - p.size := by
        rw [hz]
        show (Lib.repeatL [48] (19 - p.size)).toArray.size = _
        rw [repeat_replicate]; simp
      have hpl : p.size = (Lib.decDigits (a % 10000000000000000000)).length := by rw [← HP.out]; simp
      have HN : Hid (Lib.decDigits x = Lib.decDigits (a / 10000000000000000000) ++ (z ++ p ++ t).data.toList) := by
        show Lib.decDigits x = _
        have hda : Lib.decDigits a = Lib.decDigits (a / 10000000000000000000) ++ pad 19 (a % 10000000000000000000) := by
          have := dec_split (k := 19) (q := a / 10000000000000000000) (r := a % 10000000000000000000) (by decide) (by omega) (by omega)
          rw [show a / 10000000000000000000 * 10 ^ 19 + a % 10000000000000000000 = a from by omega] at this
          exact this
        rw [HD.out, hda]
        unfold pad
        rw [← hpl, ← HP.out, ← hzl]
        simp
      have hsz : (z ++ p ++ t).size = 19 + t.size := by
        rw [ByteArray.size_append, ByteArray.size_append]; omega
      have htot : (z ++ p ++ t).size ≤ 78 := by
        have h1 := dec_len (k := 78) (r := x) (by decide) (by omega)
        rw [HN.out, List.length_append] at h1
        have h2 : (z ++ p ++ t).data.toList.length = (z ++ p ++ t).size := by simp; omega
        omega
      have HZ := Lib.hid hsz
      have hz19 : z.size ≤ 19 := by omega
      have htot2 := htot
      rw [hsz] at htot2
      obtain ⟨s0, s1, s2, s3, s4⟩ := Q4.parts
      obtain ⟨r0, r1, r2, r3, f0, f1, f2, f3⟩ := R4.parts
      have HT3 := Lib.hid htot
      clear hz hzl hzs hpl hsz hcc hb4 htot HD HP s4 R2 Q2 Q4 hq heq q0 q1 q2 q3
      go_wp2
      go_roundw
      case rel => exact ⟨a / 10000000000000000000, z ++ p ++ t, rfl, hq256, by have := HT3.out; omega, HN, Row4.set4 R4 _ _ _ _, bsc4 B4 (by omega) _ _ _ _⟩
      case measure =>
        show 100 - (z ++ p ++ t).size < 100 - t.size
        rw [HZ.out]; omega

end Go.Proofs.YtebfggiodhaahaaGreatDoor
end
section
namespace Go.Proofs.YtebfggiodhaahaaGreatDoor
open Go.RowKit Go.Shelf

/-- A number's decimals. -/
def dstr (x : Nat) : ByteArray := ⟨(Lib.decDigits x).toArray⟩
theorem dstr_list (x : Nat) : (dstr x).data.toList = Lib.decDigits x := by
  show (Lib.decDigits x).toArray.toList = _
  simp
theorem dstr_size (x : Nat) : (dstr x).size = (Lib.decDigits x).length := by
  show (Lib.decDigits x).toArray.size = _
  simp
theorem dstr_of {p : ByteArray} {x : Nat} (h : p.data.toList = Lib.decDigits x) : p = dstr x := by
  obtain ⟨⟨l⟩⟩ := p
  unfold dstr
  simp only at h
  rw [← h]
theorem dstr_le {x : Nat} (h : x < 2 ^ 256) : (dstr x).size ≤ 78 := by
  rw [dstr_size]
  exact dec_len (k := 78) (r := x) (by decide) (by omega)
theorem print_str (x : Nat) (hx : x < 2 ^ 256) (w : World) (hT : Tab w) :
    Calls Tryz.prog 68 #[N4 x] w fun e w' => e = .returned (.string (dstr x)) ∧ Below w.heap.size w w' := by
  refine (print_any x hx w hT).mono ?_
  rintro e w' ⟨⟨p, rfl, hp⟩, hb⟩
  exact ⟨by rw [dstr_of hp], hb⟩
end Go.Proofs.YtebfggiodhaahaaGreatDoor
end
section
namespace Go.Proofs.YtebfggiodhaahaaGreatDoor
open Go.RowKit Go.Shelf

theorem parse_empty (w : World) (s : ByteArray) (_hs : s.toList.isEmpty = true) (hs2 : s.toList = []) (_hz : (s.size : Int) = 0) : Calls Tryz.prog 171 #[.string s] w fun e w' => e = .returned (.tuple #[Z4, .bool false]) ∧ Below w.heap.size w w' := by
  go_enter Tryz.func171, Tryz.ntmps171
  go_wp2
  exact bodyPost_ret (v := .tuple #[Z4, .bool false]) (by simp [results, Tryz.results171, go_sem]) rfl ⟨rfl, bal (Below.refl _ _) _⟩
theorem parse_nought (w : World) (s : ByteArray) (hs : s.toList.isEmpty = false) (_hs2 : ¬ s.toList = []) (h1 : 1 < (s.size : Int)) (h1' : 0 < s.size) (h0 : ((s[0].toNat : Int) == 48) = true) : Calls Tryz.prog 171 #[.string s] w fun e w' => e = .returned (.tuple #[Z4, .bool false]) ∧ Below w.heap.size w w' := by
  go_enter Tryz.func171, Tryz.ntmps171
  go_wp2
  exact bodyPost_ret (v := .tuple #[Z4, .bool false]) (by simp [results, Tryz.results171, go_sem]) rfl ⟨rfl, bal (Below.refl _ _) _⟩

/-- What nat.Parse answers. -/
def ParseEnd (s : ByteArray) (e : Ending) : Prop := e = match parseN s with
  | some v => .returned (.tuple #[N4 v, .bool true])
  | none => .returned (.tuple #[Z4, .bool false])

set_option maxHeartbeats 1000000 in
theorem parse_one (w : World) (s : ByteArray) (hs : s.toList.isEmpty = false) (_hs2 : ¬ s.toList = []) (h1 : ¬ 1 < (s.size : Int)) (hmax : s.size ≤ 140737488351232) (HS : Hid (dfold (s.data.toList.drop 0) 0 = parseN s)) : Calls Tryz.prog 171 #[.string s] w fun e w' => ParseEnd s e ∧ Below w.heap.size w w' := by
  go_enter Tryz.func171, Tryz.ntmps171
  go_wp2
  go_loopw [22] (fun v wr => ∃ (k x : Nat), k ≤ s.size ∧ v = .int .i64 k ∧ x < 2 ^ 256 ∧ Hid (dfold (s.data.toList.drop k) x = parseN s) ∧ Row4 wr (w.heap.size + 1) (.int .u64 (lb 0 x)) (.int .u64 (lb 1 x)) (.int .u64 (lb 2 x)) (.int .u64 (lb 3 x)) ∧ Row4 wr w.heap.size (.int .u64 0) (.int .u64 0) (.int .u64 0) (.int .u64 0) ∧ Below w.heap.size w wr) (fun v _ => s.size - (intOf v).toNat)
  case atStart => exact ⟨0, 0, Nat.zero_le _, rfl, by decide, HS, by simp only [lb_zero]; exact Row4.new' _ (by simp) _ _ _ _, Row4.alloc (Row4.new _ _ _ _ _) _, bal (bal (Below.refl _ _) _) _⟩
  case round =>
    obtain ⟨k, x, hk, rfl, hx, HD, R1, R2, hw⟩ := hrel
    rename World => wr
    obtain ⟨t0, t1, t2, t3, tf0, tf1, tf2, tf3⟩ := R1.parts
    obtain ⟨z0, z1, z2, z3, zf0, zf1, zf2, zf3⟩ := R2.parts
    by_cases hlt : k < s.size
    · have hdrop : s.data.toList.drop k = s[k] :: s.data.toList.drop (k + 1) := by
        rw [List.drop_eq_getElem_cons (by simpa using hlt)]; rfl
      have HD2 : Hid (dfold (s[k] :: s.data.toList.drop (k + 1)) x = parseN s) := by rw [← hdrop]; exact HD
      clear hdrop HD
      cases hd : dstep x s[k] with
      | none =>
        have HN : Hid (parseN s = none) := by
          have := HD2.out
          simp only [dfold, hd] at this
          exact this.symm
        have C := fun W => digit_no x hx s[k] hd W
        have HC := Lib.hid C
        clear C hd HD2
        have hk0 : (0 : Int) ≤ (k : Int) := by omega
        have hk1 : (k : Int) < (s.size : Int) := by omega
        go_wp2
        go_region_with (go_at_call 195; (with_reducible refine (HC.out _).mono ?_); rintro e w2 ⟨rfl, hb2⟩; have R3 := Row4.keep hb2 (Row4.drew R1); have R4 := Row4.keep hb2 (Row4.drew R2); obtain ⟨r0, r1, r2, r3, f0, f1, f2, f3⟩ := R3.parts; obtain ⟨q0, q1, q2, q3, g0, g1, g2, g3⟩ := R4.parts)
        all_goals
          go_wp2
          refine bodyPost_ret (v := .tuple #[Z4, .bool false]) (by simp [results, Tryz.results171, go_sem, q0, q1, q2, q3]) rfl ⟨by unfold ParseEnd; rw [HN.out], ?_⟩
          exact bsc4 (bsc4 (btr (Below.drew hw) hb2) (by omega) _ _ _ _) (by omega) _ _ _ _
      | some y =>
        have HN : Hid (dfold (s.data.toList.drop (k + 1)) y = parseN s) := by
          have := HD2.out
          simp only [dfold, hd] at this
          exact this
        have hy : y < 2 ^ 256 := dstep_lt hd
        have C := fun W => digit_ok x hx s[k] y hd W
        have HC := Lib.hid C
        clear C hd HD2
        have hk0 : (0 : Int) ≤ (k : Int) := by omega
        have hk1 : (k : Int) < (s.size : Int) := by omega
        go_wp2
        go_region_with (go_at_call 195; (with_reducible refine (HC.out _).mono ?_); rintro e w2 ⟨rfl, hb2⟩; have R3 := Row4.keep hb2 (Row4.drew R1); have R4 := Row4.keep hb2 (Row4.drew R2); obtain ⟨r0, r1, r2, r3, f0, f1, f2, f3⟩ := R3.parts; obtain ⟨q0, q1, q2, q3, g0, g1, g2, g3⟩ := R4.parts)
        all_goals
          go_wp2
          exact ⟨⟨k + 1, y, by omega, by go_num, hy, HN, Row4.set4 R3 _ _ _ _, Row4.set (Row4.set (Row4.set (Row4.set R4 (by omega) _) (by omega) _) (by omega) _) (by omega) _, bsc4 (btr (Below.drew hw) hb2) (by omega) _ _ _ _⟩, by simp [intOf]; omega⟩
    · have HN : Hid (parseN s = some x) := by
        have := HD.out
        rw [List.drop_eq_nil_of_le (by simp; omega)] at this
        exact this.symm
      clear HD
      go_wp2
      refine bodyPost_ret (v := .tuple #[N4 x, .bool true]) (by simp [results, Tryz.results171, go_sem, z0, z1, z2, z3]) rfl ⟨by unfold ParseEnd; rw [HN.out], bsc4 hw (by omega) _ _ _ _⟩

set_option maxHeartbeats 1000000 in
theorem parse_many (w : World) (s : ByteArray) (hs : s.toList.isEmpty = false) (_hs2 : ¬ s.toList = []) (h1 : 1 < (s.size : Int)) (h1' : 0 < s.size) (h0 : ((s[0].toNat : Int) == 48) = false) (hmax : s.size ≤ 140737488351232) (HS : Hid (dfold (s.data.toList.drop 0) 0 = parseN s)) : Calls Tryz.prog 171 #[.string s] w fun e w' => ParseEnd s e ∧ Below w.heap.size w w' := by
  go_enter Tryz.func171, Tryz.ntmps171
  go_wp2
  go_loopw [22] (fun v wr => ∃ (k x : Nat), k ≤ s.size ∧ v = .int .i64 k ∧ x < 2 ^ 256 ∧ Hid (dfold (s.data.toList.drop k) x = parseN s) ∧ Row4 wr (w.heap.size + 1) (.int .u64 (lb 0 x)) (.int .u64 (lb 1 x)) (.int .u64 (lb 2 x)) (.int .u64 (lb 3 x)) ∧ Row4 wr w.heap.size (.int .u64 0) (.int .u64 0) (.int .u64 0) (.int .u64 0) ∧ Below w.heap.size w wr) (fun v _ => s.size - (intOf v).toNat)
  case atStart => exact ⟨0, 0, Nat.zero_le _, rfl, by decide, HS, by simp only [lb_zero]; exact Row4.new' _ (by simp) _ _ _ _, Row4.alloc (Row4.new _ _ _ _ _) _, bal (bal (Below.refl _ _) _) _⟩
  case round =>
    obtain ⟨k, x, hk, rfl, hx, HD, R1, R2, hw⟩ := hrel
    rename World => wr
    obtain ⟨t0, t1, t2, t3, tf0, tf1, tf2, tf3⟩ := R1.parts
    obtain ⟨z0, z1, z2, z3, zf0, zf1, zf2, zf3⟩ := R2.parts
    by_cases hlt : k < s.size
    · have hdrop : s.data.toList.drop k = s[k] :: s.data.toList.drop (k + 1) := by
        rw [List.drop_eq_getElem_cons (by simpa using hlt)]; rfl
      have HD2 : Hid (dfold (s[k] :: s.data.toList.drop (k + 1)) x = parseN s) := by rw [← hdrop]; exact HD
      clear hdrop HD
      cases hd : dstep x s[k] with
      | none =>
        have HN : Hid (parseN s = none) := by
          have := HD2.out
          simp only [dfold, hd] at this
          exact this.symm
        have C := fun W => digit_no x hx s[k] hd W
        have HC := Lib.hid C
        clear C hd HD2
        have hk0 : (0 : Int) ≤ (k : Int) := by omega
        have hk1 : (k : Int) < (s.size : Int) := by omega
        go_wp2
        go_region_with (go_at_call 195; (with_reducible refine (HC.out _).mono ?_); rintro e w2 ⟨rfl, hb2⟩; have R3 := Row4.keep hb2 (Row4.drew R1); have R4 := Row4.keep hb2 (Row4.drew R2); obtain ⟨r0, r1, r2, r3, f0, f1, f2, f3⟩ := R3.parts; obtain ⟨q0, q1, q2, q3, g0, g1, g2, g3⟩ := R4.parts)
        all_goals
          go_wp2
          refine bodyPost_ret (v := .tuple #[Z4, .bool false]) (by simp [results, Tryz.results171, go_sem, q0, q1, q2, q3]) rfl ⟨by unfold ParseEnd; rw [HN.out], ?_⟩
          exact bsc4 (bsc4 (btr (Below.drew hw) hb2) (by omega) _ _ _ _) (by omega) _ _ _ _
      | some y =>
        have HN : Hid (dfold (s.data.toList.drop (k + 1)) y = parseN s) := by
          have := HD2.out
          simp only [dfold, hd] at this
          exact this
        have hy : y < 2 ^ 256 := dstep_lt hd
        have C := fun W => digit_ok x hx s[k] y hd W
        have HC := Lib.hid C
        clear C hd HD2
        have hk0 : (0 : Int) ≤ (k : Int) := by omega
        have hk1 : (k : Int) < (s.size : Int) := by omega
        go_wp2
        go_region_with (go_at_call 195; (with_reducible refine (HC.out _).mono ?_); rintro e w2 ⟨rfl, hb2⟩; have R3 := Row4.keep hb2 (Row4.drew R1); have R4 := Row4.keep hb2 (Row4.drew R2); obtain ⟨r0, r1, r2, r3, f0, f1, f2, f3⟩ := R3.parts; obtain ⟨q0, q1, q2, q3, g0, g1, g2, g3⟩ := R4.parts)
        all_goals
          go_wp2
          exact ⟨⟨k + 1, y, by omega, by go_num, hy, HN, Row4.set4 R3 _ _ _ _, Row4.set (Row4.set (Row4.set (Row4.set R4 (by omega) _) (by omega) _) (by omega) _) (by omega) _, bsc4 (btr (Below.drew hw) hb2) (by omega) _ _ _ _⟩, by simp [intOf]; omega⟩
    · have HN : Hid (parseN s = some x) := by
        have := HD.out
        rw [List.drop_eq_nil_of_le (by simp; omega)] at this
        exact this.symm
      clear HD
      go_wp2
      refine bodyPost_ret (v := .tuple #[N4 x, .bool true]) (by simp [results, Tryz.results171, go_sem, z0, z1, z2, z3]) rfl ⟨by unfold ParseEnd; rw [HN.out], bsc4 hw (by omega) _ _ _ _⟩


theorem toList_data (s : ByteArray) : s.toList = s.data.toList := ByteArray.toList_eq s

/-- nat.Parse. -/
theorem parse_any (w : World) (s : ByteArray) (hmax : s.size ≤ 140737488351232) : Calls Tryz.prog 171 #[.string s] w fun e w' => ParseEnd s e ∧ Below w.heap.size w w' := by
  have hlen : s.data.toList.length = s.size := by simp
  by_cases hz : s.size = 0
  · have hl : s.toList = [] := by rw [toList_data]; exact List.eq_nil_of_length_eq_zero (by omega)
    refine (parse_empty w s (by rw [hl]; rfl) hl (by omega)).mono ?_
    rintro e w' ⟨rfl, hb⟩
    exact ⟨by unfold ParseEnd parseN; rw [if_pos (.inl hz)], hb⟩
  · have hne : ¬ s.toList = [] := by rw [toList_data]; intro h; rw [h] at hlen; exact hz hlen.symm
    have hem : s.toList.isEmpty = false := by
      cases h : s.toList with
      | nil => exact absurd h hne
      | cons _ _ => rfl
    by_cases h1 : s.size ≤ 1
    · exact parse_one w s hem hne (by omega) hmax (by show _ = parseN s; unfold parseN; rw [if_neg (by omega), List.drop_zero])
    · have h0 : 0 < s.size := by omega
      have hh : s.data.toList.head? = some s[0] := by
        cases hd : s.data.toList with
        | nil => rw [hd] at hlen; exact absurd hlen.symm hz
        | cons c l =>
          have : s[0] = s.data.toList[0]'(by omega) := rfl
          rw [this]
          simp [hd]
      by_cases h48 : s[0] = 48
      · refine (parse_nought w s hem hne (by omega) h0 (by rw [h48]; rfl)).mono ?_
        rintro e w' ⟨rfl, hb⟩
        exact ⟨by unfold ParseEnd parseN; rw [if_pos (.inr ⟨by omega, by rw [hh, h48]⟩)], hb⟩
      · have hn : ((s[0].toNat : Int) == 48) = false := by
          rw [beq_eq_false_iff_ne]
          intro h
          exact h48 (UInt8.toNat_inj.1 (by rw [show (48 : UInt8).toNat = 48 from rfl]; omega))
        have hno : ¬ (s.size = 0 ∨ (1 < s.size ∧ s.data.toList.head? = some 48)) := by
          intro h
          rcases h with h | h
          · exact hz h
          · have h2 := h.2
            rw [hh] at h2
            exact h48 (Option.some.inj h2)
        exact parse_many w s hem hne (by omega) h0 hn hmax (by show _ = parseN s; unfold parseN; rw [if_neg hno, List.drop_zero])

end Go.Proofs.YtebfggiodhaahaaGreatDoor
end
