/-
  math/bits.Div64: the walk, for every divisor and every number whose quotient is a word; the arithmetic comes in as premises.
-/
import Derived.Test.YtoibaeilbolffaaGreatDoorShelf
import Derived.Test.YtoibaeilbolffaaGreatDoorNatBase
namespace Go.Proofs.YtoibaeilbolffaaGreatDoor
open Go.RowKit Go.Shelf

/-- What a digit's search keeps (Knuth's algorithm D): Q is the digit. -/
structure Search (yn1 yn0 n Q : Int) (Inv : Int → Int → Prop) : Prop where
  bounds : ∀ q r, Inv q r → 0 ≤ q ∧ q ≤ 8589934592 ∧ 0 ≤ r ∧ r < 4294967296
  more : ∀ q r, Inv q r → (4294967296 ≤ q ∨ 4294967296 * r + n < q * yn0) → 1 ≤ q ∧ (r + yn1 < 4294967296 → Inv (q - 1) (r + yn1)) ∧ (4294967296 ≤ r + yn1 → q - 1 = Q)
  done : ∀ q r, Inv q r → q < 4294967296 → q * yn0 ≤ 4294967296 * r + n → q = Q

set_option maxHeartbeats 4000000 in
theorem div64_core (hi lo y s Y yn1 yn0 U L n1 n0 Q1 R1 Q0 R0 : Int) (Inv1 Inv0 : Int → Int → Prop) (hhi : ¬ y ≤ hi) (hy0 : 1 ≤ y) (hhi1 : 1 ≤ hi) (hs0 : 0 ≤ s) (hs1 : s ≤ 63)
    (hlz : ∀ W, Calls Tryz.prog 111 #[.int .u64 y] W fun e w' => e = .returned (.int .i64 s) ∧ w' = W)
    (e1 : IntKind.u64.wrap (y * 2 ^ s.toNat) = Y) (e2 : Y / 4294967296 = yn1) (e3 : bits .and .u64 Y 4294967295 = yn0)
    (e4 : bits .or .u64 (IntKind.u64.wrap (hi * 2 ^ s.toNat)) (lo / 2 ^ (64 - s).toNat) = U) (e5 : IntKind.u64.wrap (lo * 2 ^ s.toNat) = L) (e6 : L / 4294967296 = n1) (e7 : bits .and .u64 L 4294967295 = n0)
    (hU0 : 0 ≤ U) (hU1 : U < 18446744073709551616) (hy1 : 1 ≤ yn1) (hy2 : yn1 < 4294967296) (hz0 : 0 ≤ yn0) (hz1 : yn0 < 4294967296) (hn0 : 0 ≤ n1) (hn1 : n1 < 4294967296) (hm0 : 0 ≤ n0) (hm1 : n0 < 4294967296)
    (_hqa0 : 0 ≤ U / yn1) (_hqa1 : U / yn1 ≤ 8589934592) (hp0 : 0 ≤ U / yn1 * yn1) (hp1 : U / yn1 * yn1 ≤ U)
    (hI1 : Inv1 (U / yn1) (U - U / yn1 * yn1)) (S1 : Search yn1 yn0 n1 Q1 Inv1)
    (f1 : IntKind.u64.wrap (IntKind.u64.wrap (IntKind.u64.wrap (U * 4294967296) + n1) - IntKind.u64.wrap (Q1 * Y)) = R1) (hR0 : 0 ≤ R1) (hR1 : R1 < 18446744073709551616)
    (hQ0 : 0 ≤ Q1) (hQ1 : Q1 < 4294967296) (hQ2 : 0 ≤ Q0) (hQ3 : Q0 < 4294967296)
    (_hqb0 : 0 ≤ R1 / yn1) (_hqb1 : R1 / yn1 ≤ 8589934592) (hr0 : 0 ≤ R1 / yn1 * yn1) (hr1 : R1 / yn1 * yn1 ≤ R1)
    (hI0 : Inv0 (R1 / yn1) (R1 - R1 / yn1 * yn1)) (S0 : Search yn1 yn0 n0 Q0 Inv0)
    (f2 : IntKind.u64.wrap (IntKind.u64.wrap (IntKind.u64.wrap (R1 * 4294967296) + n0) - IntKind.u64.wrap (Q0 * Y)) = R0) (w : World) :
    Calls Tryz.prog 97 #[.int .u64 hi, .int .u64 lo, .int .u64 y] w fun e w' => e = .returned (.tuple #[.int .u64 (Q1 * 4294967296 + Q0), .int .u64 (R0 / 2 ^ s.toNat)]) ∧ w' = w := by
  have HL := Lib.hid hlz; clear hlz
  have HI1 := Lib.hid hI1; clear hI1
  have HI0 := Lib.hid hI0; clear hI0
  go_enter Tryz.func97, Tryz.ntmps97
  go_wp2_with (go_at_call 111; refine (HL.out _).mono ?_; rintro e w' ⟨rfl, rfl⟩)
  clear e1 e2 e3 e4 e5 e6 e7 hhi hy0 hhi1
  go_loop [15, 16] (fun v15 v16 => ∃ q r : Int, v15 = .int .u64 q ∧ v16 = .int .u64 r ∧ Hid (Inv1 q r)) (fun v15 _ => (intOf v15).toNat)
  case atStart => exact ⟨_, _, rfl, rfl, HI1⟩
  case round =>
    obtain ⟨q, r, rfl, rfl, HI⟩ := hrel
    obtain ⟨hq0, hq1, hr0, hr1⟩ := S1.bounds q r HI.out
    have hmm0 : 0 ≤ q * yn0 := Int.mul_nonneg hq0 hz0
    by_cases hA : 4294967296 ≤ q
    · obtain ⟨h1, h2, h3⟩ := S1.more q r HI.out (.inl hA)
      by_cases hB : r + yn1 < 4294967296
      · have HI' := Lib.hid (h2 hB)
        clear h2 h3 HI
        have hB' : ¬ 4294967296 ≤ r + yn1 := by omega
        go_wp2
        go_round
        case rel => exact ⟨q - 1, r + yn1, rfl, rfl, HI'⟩
        case measure => simp [intOf]; omega
      · have hQ := Lib.hid (h3 (by omega))
        clear h2 h3 HI
        have hB' : 4294967296 ≤ r + yn1 := by omega
        have hQe : q - 1 = Q1 := hQ.out
        clear hQ
        go_wp2
        go_loop [18, 16] (fun v18 v16 => ∃ q r : Int, v18 = .int .u64 q ∧ v16 = .int .u64 r ∧ Hid (Inv0 q r)) (fun v18 _ => (intOf v18).toNat)
        case atStart => exact ⟨_, _, rfl, rfl, HI0⟩
        case round =>
          obtain ⟨q, r, rfl, rfl, HI⟩ := hrel
          obtain ⟨hq0, hq1, hr0, hr1⟩ := S0.bounds q r HI.out
          have hmm0 : 0 ≤ q * yn0 := Int.mul_nonneg hq0 hz0
          by_cases hA : 4294967296 ≤ q
          · obtain ⟨h1, h2, h3⟩ := S0.more q r HI.out (.inl hA)
            by_cases hB : r + yn1 < 4294967296
            · have HI' := Lib.hid (h2 hB)
              clear h2 h3 HI
              have hB' : ¬ 4294967296 ≤ r + yn1 := by omega
              go_wp2
              go_round
              case rel => exact ⟨q - 1, r + yn1, rfl, rfl, HI'⟩
              case measure => simp [intOf]; omega
            · have hQ := Lib.hid (h3 (by omega))
              clear h2 h3 HI
              have hB' : 4294967296 ≤ r + yn1 := by omega
              have hQe : q - 1 = Q0 := hQ.out
              clear hQ
              go_wp2
              go_ret2
              exact ⟨rfl, rfl⟩
          · have hmm1 : q * yn0 ≤ 18446744069414584321 := by
              have := Int.mul_le_mul (show q ≤ 4294967295 by omega) (show yn0 ≤ 4294967295 by omega) hz0 (by omega)
              omega
            by_cases hC : 4294967296 * r + n0 < q * yn0
            · obtain ⟨h1, h2, h3⟩ := S0.more q r HI.out (.inr hC)
              by_cases hB : r + yn1 < 4294967296
              · have HI' := Lib.hid (h2 hB)
                clear h2 h3 HI
                have hB' : ¬ 4294967296 ≤ r + yn1 := by omega
                go_wp2
                go_round
                case rel => exact ⟨q - 1, r + yn1, rfl, rfl, HI'⟩
                case measure => simp [intOf]; omega
              · have hQ := Lib.hid (h3 (by omega))
                clear h2 h3 HI
                have hB' : 4294967296 ≤ r + yn1 := by omega
                have hQe : q - 1 = Q0 := hQ.out
                clear hQ
                go_wp2
                go_ret2
                exact ⟨rfl, rfl⟩
            · obtain rfl : q = Q0 := S0.done q r HI.out (by omega) (by omega)
              clear HI
              go_wp2
              go_ret2
              exact ⟨rfl, rfl⟩
    · have hmm1 : q * yn0 ≤ 18446744069414584321 := by
        have := Int.mul_le_mul (show q ≤ 4294967295 by omega) (show yn0 ≤ 4294967295 by omega) hz0 (by omega)
        omega
      by_cases hC : 4294967296 * r + n1 < q * yn0
      · obtain ⟨h1, h2, h3⟩ := S1.more q r HI.out (.inr hC)
        by_cases hB : r + yn1 < 4294967296
        · have HI' := Lib.hid (h2 hB)
          clear h2 h3 HI
          have hB' : ¬ 4294967296 ≤ r + yn1 := by omega
          go_wp2
          go_round
          case rel => exact ⟨q - 1, r + yn1, rfl, rfl, HI'⟩
          case measure => simp [intOf]; omega
        · have hQ := Lib.hid (h3 (by omega))
          clear h2 h3 HI
          have hB' : 4294967296 ≤ r + yn1 := by omega
          have hQe : q - 1 = Q1 := hQ.out
          clear hQ
          go_wp2
          go_loop [18, 16] (fun v18 v16 => ∃ q r : Int, v18 = .int .u64 q ∧ v16 = .int .u64 r ∧ Hid (Inv0 q r)) (fun v18 _ => (intOf v18).toNat)
          case atStart => exact ⟨_, _, rfl, rfl, HI0⟩
          case round =>
            obtain ⟨q, r, rfl, rfl, HI⟩ := hrel
            obtain ⟨hq0, hq1, hr0, hr1⟩ := S0.bounds q r HI.out
            have hmm0 : 0 ≤ q * yn0 := Int.mul_nonneg hq0 hz0
            by_cases hA : 4294967296 ≤ q
            · obtain ⟨h1, h2, h3⟩ := S0.more q r HI.out (.inl hA)
              by_cases hB : r + yn1 < 4294967296
              · have HI' := Lib.hid (h2 hB)
                clear h2 h3 HI
                have hB' : ¬ 4294967296 ≤ r + yn1 := by omega
                go_wp2
                go_round
                case rel => exact ⟨q - 1, r + yn1, rfl, rfl, HI'⟩
                case measure => simp [intOf]; omega
              · have hQ := Lib.hid (h3 (by omega))
                clear h2 h3 HI
                have hB' : 4294967296 ≤ r + yn1 := by omega
                have hQe : q - 1 = Q0 := hQ.out
                clear hQ
                go_wp2
                go_ret2
                exact ⟨rfl, rfl⟩
            · have hmm1 : q * yn0 ≤ 18446744069414584321 := by
                have := Int.mul_le_mul (show q ≤ 4294967295 by omega) (show yn0 ≤ 4294967295 by omega) hz0 (by omega)
                omega
              by_cases hC : 4294967296 * r + n0 < q * yn0
              · obtain ⟨h1, h2, h3⟩ := S0.more q r HI.out (.inr hC)
                by_cases hB : r + yn1 < 4294967296
                · have HI' := Lib.hid (h2 hB)
                  clear h2 h3 HI
                  have hB' : ¬ 4294967296 ≤ r + yn1 := by omega
                  go_wp2
                  go_round
                  case rel => exact ⟨q - 1, r + yn1, rfl, rfl, HI'⟩
                  case measure => simp [intOf]; omega
                · have hQ := Lib.hid (h3 (by omega))
                  clear h2 h3 HI
                  have hB' : 4294967296 ≤ r + yn1 := by omega
                  have hQe : q - 1 = Q0 := hQ.out
                  clear hQ
                  go_wp2
                  go_ret2
                  exact ⟨rfl, rfl⟩
              · obtain rfl : q = Q0 := S0.done q r HI.out (by omega) (by omega)
                clear HI
                go_wp2
                go_ret2
                exact ⟨rfl, rfl⟩
      · obtain rfl : q = Q1 := S1.done q r HI.out (by omega) (by omega)
        clear HI
        go_wp2
        go_loop [18, 16] (fun v18 v16 => ∃ q r : Int, v18 = .int .u64 q ∧ v16 = .int .u64 r ∧ Hid (Inv0 q r)) (fun v18 _ => (intOf v18).toNat)
        case atStart => exact ⟨_, _, rfl, rfl, HI0⟩
        case round =>
          obtain ⟨q, r, rfl, rfl, HI⟩ := hrel
          obtain ⟨hq0, hq1, hr0, hr1⟩ := S0.bounds q r HI.out
          have hmm0 : 0 ≤ q * yn0 := Int.mul_nonneg hq0 hz0
          by_cases hA : 4294967296 ≤ q
          · obtain ⟨h1, h2, h3⟩ := S0.more q r HI.out (.inl hA)
            by_cases hB : r + yn1 < 4294967296
            · have HI' := Lib.hid (h2 hB)
              clear h2 h3 HI
              have hB' : ¬ 4294967296 ≤ r + yn1 := by omega
              go_wp2
              go_round
              case rel => exact ⟨q - 1, r + yn1, rfl, rfl, HI'⟩
              case measure => simp [intOf]; omega
            · have hQ := Lib.hid (h3 (by omega))
              clear h2 h3 HI
              have hB' : 4294967296 ≤ r + yn1 := by omega
              have hQe : q - 1 = Q0 := hQ.out
              clear hQ
              go_wp2
              go_ret2
              exact ⟨rfl, rfl⟩
          · have hmm1 : q * yn0 ≤ 18446744069414584321 := by
              have := Int.mul_le_mul (show q ≤ 4294967295 by omega) (show yn0 ≤ 4294967295 by omega) hz0 (by omega)
              omega
            by_cases hC : 4294967296 * r + n0 < q * yn0
            · obtain ⟨h1, h2, h3⟩ := S0.more q r HI.out (.inr hC)
              by_cases hB : r + yn1 < 4294967296
              · have HI' := Lib.hid (h2 hB)
                clear h2 h3 HI
                have hB' : ¬ 4294967296 ≤ r + yn1 := by omega
                go_wp2
                go_round
                case rel => exact ⟨q - 1, r + yn1, rfl, rfl, HI'⟩
                case measure => simp [intOf]; omega
              · have hQ := Lib.hid (h3 (by omega))
                clear h2 h3 HI
                have hB' : 4294967296 ≤ r + yn1 := by omega
                have hQe : q - 1 = Q0 := hQ.out
                clear hQ
                go_wp2
                go_ret2
                exact ⟨rfl, rfl⟩
            · obtain rfl : q = Q0 := S0.done q r HI.out (by omega) (by omega)
              clear HI
              go_wp2
              go_ret2
              exact ⟨rfl, rfl⟩

end Go.Proofs.YtoibaeilbolffaaGreatDoor
