/-
  entrepotlaw3.FloatPowers answers true for all exponents. The table math/bits.deBruijn64tab reads as its initialiser lays it.
-/
import Derived.Test.YtpnlmikjcpjjmaaDoorExpsWalk
import Derived.Test.YtpnlmikjcpjjmaaDoorSignsAny
import Derived.Test.YtpnlmikjcpjjmaaDoorFltPow
namespace Go.Proofs.YtpnlmikjcpjjmaaDoor
open Go.RowKit Go.Shelf

theorem pw_facts {J : Nat} (h : J < 2098) : whl (pwb J) = (if 1074 ≤ J ∧ J < 1330 then some (2 ^ (J - 1074)) else none) ∧ cls (pwb J) = (if J < 1010 ∨ 1330 ≤ J then 2 else if J < 1074 then 1 else 0) ∧ beh (pwb J) = 1074 - J ∧
    (tos (pwb J)).2 = decide (925 ≤ J ∧ J ≤ 1201) ∧ (toh (pwb J)).2 = decide (1050 ≤ J ∧ J ≤ 1089) := by
  have h := pw_all h
  unfold pwOk at h
  simp only [Bool.and_eq_true, beq_iff_eq] at h
  exact ⟨h.1.1.1.1, h.1.1.1.2, h.1.1.2, h.1.2, h.2⟩
theorem pwb_lt {J : Nat} (h : J < 2098) : pwb J < 9223372036854775808 := by
  unfold pwb
  split
  · omega
  · have : 2 ^ J < 2 ^ 52 := Nat.pow_lt_pow_right (by decide) (by omega)
    omega
theorem wrap_two (r : Nat) (hr : r < 64) : IntKind.u64.wrap ((2 : Int) ^ r) = ((2 ^ r : Nat) : Int) := by
  have h := wrap_mul_pow 1 r
  rw [Nat.one_mul] at h
  have e : ((1 : Nat) : Int) * 2 ^ r = 2 ^ r := by omega
  rw [e] at h
  rw [h]
  have : 2 ^ r < 2 ^ 64 := Nat.pow_lt_pow_right (by decide) hr
  rw [Nat.mod_eq_of_lt this]
theorem two_word (r : Nat) (hr : r < 64) : 2 ^ r < 18446744073709551616 := by
  have : 2 ^ r < 2 ^ 64 := Nat.pow_lt_pow_right (by decide) hr
  omega
theorem rem_2098 (a : Int) : 0 ≤ wrap64 ((IntKind.u64.wrap a).tmod 2098) ∧ wrap64 ((IntKind.u64.wrap a).tmod 2098) ≤ 2097 := by
  rw [IntKind.wrap_u64]
  have h0 : 0 ≤ a % 18446744073709551616 := Int.emod_nonneg _ (by decide)
  rw [Int.tmod_eq_emod_of_nonneg h0]
  unfold wrap64
  omega
theorem wnat {n : Nat} (h : n < 18446744073709551616) : Word (n : Int) := by unfold Word; omega
theorem wzero : Word 0 := by unfold Word; omega
theorem I5_two0 (r : Nat) (hr : r < 64) : I5 false (2 ^ (64 * 0 + r)) = .agg #[.bool false, .int .u64 ((2 ^ r : Nat) : Int), .int .u64 0, .int .u64 0, .int .u64 0] := by
  have hw := two_word r hr
  have e : 2 ^ (64 * 0 + r) = 2 ^ (64 * 0) * 2 ^ r := Nat.pow_add _ _ _
  have L := lb_of (z := 2 ^ (64 * 0 + r)) (wnat hw) wzero wzero wzero (by rw [e]; generalize 2 ^ r = P; unfold val4; omega)
  unfold I5
  rw [L.1, L.2.1, L.2.2.1, L.2.2.2]
theorem I5_two1 (r : Nat) (hr : r < 64) : I5 false (2 ^ (64 * 1 + r)) = .agg #[.bool false, .int .u64 0, .int .u64 ((2 ^ r : Nat) : Int), .int .u64 0, .int .u64 0] := by
  have hw := two_word r hr
  have e : 2 ^ (64 * 1 + r) = 2 ^ (64 * 1) * 2 ^ r := Nat.pow_add _ _ _
  have L := lb_of (z := 2 ^ (64 * 1 + r)) wzero (wnat hw) wzero wzero (by rw [e]; generalize 2 ^ r = P; unfold val4; omega)
  unfold I5
  rw [L.1, L.2.1, L.2.2.1, L.2.2.2]
theorem I5_two2 (r : Nat) (hr : r < 64) : I5 false (2 ^ (64 * 2 + r)) = .agg #[.bool false, .int .u64 0, .int .u64 0, .int .u64 ((2 ^ r : Nat) : Int), .int .u64 0] := by
  have hw := two_word r hr
  have e : 2 ^ (64 * 2 + r) = 2 ^ (64 * 2) * 2 ^ r := Nat.pow_add _ _ _
  have L := lb_of (z := 2 ^ (64 * 2 + r)) wzero wzero (wnat hw) wzero (by rw [e]; generalize 2 ^ r = P; unfold val4; omega)
  unfold I5
  rw [L.1, L.2.1, L.2.2.1, L.2.2.2]
theorem I5_two3 (r : Nat) (hr : r < 64) : I5 false (2 ^ (64 * 3 + r)) = .agg #[.bool false, .int .u64 0, .int .u64 0, .int .u64 0, .int .u64 ((2 ^ r : Nat) : Int)] := by
  have hw := two_word r hr
  have e : 2 ^ (64 * 3 + r) = 2 ^ (64 * 3) * 2 ^ r := Nat.pow_add _ _ _
  have L := lb_of (z := 2 ^ (64 * 3 + r)) wzero wzero wzero (wnat hw) (by rw [e]; generalize 2 ^ r = P; unfold val4; omega)
  unfold I5
  rw [L.1, L.2.1, L.2.2.1, L.2.2.2]
theorem exps_0 (k : Int) (J : Nat) (hj : wrap64 ((IntKind.u64.wrap k).tmod 2098) = (J : Int)) (_h0 : 0 ≤ J) (h1 : J ≤ 51) (w : World) (hT : Tb w) :
    Calls Tryd.prog 15 #[.int .i64 k] w fun e w' => e = .returned (.bool true) ∧ Below w.heap.size w w' := by
  obtain ⟨f1, f2, f3, f4, f5⟩ := pw_facts (J := J) (by omega)
  have hl := pwb_lt (J := J) (by omega)
  have hb : pwb J < 18446744073709551616 := by omega
  have k1 := fun W hW => whole_any (pwb J) hb W hW
  have k2 := fun W => tosingle_any (pwb J) hb W
  have k3 := fun W => tohalf_b (pwb J) hb W
  have k4 := fun W hW => class_any (pwb J) hb W hW
  have k5 := fun W hW => behind_b (pwb J) hb W hW
  have kt := fun W hW => told3_true W hW
  rw [if_neg (by omega)] at f1
  rw [if_pos (by omega)] at f2
  rw [f4, decide_eq_false (by omega)] at k2
  rw [f5, decide_eq_false (by omega)] at k3
  rw [f2] at k4
  rw [f3, show ((1074 - J : Nat) : Int) = 1074 - (J : Int) from by omega] at k5
  have hB : IntKind.u64.wrap (2 ^ (-1074 + (J : Int) + 1074).toNat) = (pwb J : Nat) := by
    rw [show (-1074 + (J : Int) + 1074).toNat = J from by omega, wrap_two J (by omega)]
    unfold pwb
    rw [if_neg (by omega)]
  rw [wend_none f1] at k1
  exact powers_0 k J _ _ _ hj (by omega) (by omega) hB k1 k2 k3 k4 k5 kt w hT
theorem exps_1 (k : Int) (J : Nat) (hj : wrap64 ((IntKind.u64.wrap k).tmod 2098) = (J : Int)) (h0 : 52 ≤ J) (h1 : J ≤ 924) (w : World) (hT : Tb w) :
    Calls Tryd.prog 15 #[.int .i64 k] w fun e w' => e = .returned (.bool true) ∧ Below w.heap.size w w' := by
  obtain ⟨f1, f2, f3, f4, f5⟩ := pw_facts (J := J) (by omega)
  have hl := pwb_lt (J := J) (by omega)
  have hb : pwb J < 18446744073709551616 := by omega
  have k1 := fun W hW => whole_any (pwb J) hb W hW
  have k2 := fun W => tosingle_any (pwb J) hb W
  have k3 := fun W => tohalf_b (pwb J) hb W
  have k4 := fun W hW => class_any (pwb J) hb W hW
  have k5 := fun W hW => behind_b (pwb J) hb W hW
  have kt := fun W hW => told3_true W hW
  rw [if_neg (by omega)] at f1
  rw [if_pos (by omega)] at f2
  rw [f4, decide_eq_false (by omega)] at k2
  rw [f5, decide_eq_false (by omega)] at k3
  rw [f2] at k4
  rw [f3, show ((1074 - J : Nat) : Int) = 1074 - (J : Int) from by omega] at k5
  have hB : (-1074 + (J : Int) + 1023) * 4503599627370496 = (pwb J : Nat) := by
    unfold pwb
    rw [if_pos (by omega)]
    omega
  rw [wend_none f1] at k1
  exact powers_1 k J _ _ _ hj (by omega) (by omega) hB k1 k2 k3 k4 k5 kt w hT
theorem exps_2 (k : Int) (J : Nat) (hj : wrap64 ((IntKind.u64.wrap k).tmod 2098) = (J : Int)) (h0 : 925 ≤ J) (h1 : J ≤ 1009) (w : World) (hT : Tb w) :
    Calls Tryd.prog 15 #[.int .i64 k] w fun e w' => e = .returned (.bool true) ∧ Below w.heap.size w w' := by
  obtain ⟨f1, f2, f3, f4, f5⟩ := pw_facts (J := J) (by omega)
  have hl := pwb_lt (J := J) (by omega)
  have hb : pwb J < 18446744073709551616 := by omega
  have k1 := fun W hW => whole_any (pwb J) hb W hW
  have k2 := fun W => tosingle_any (pwb J) hb W
  have k3 := fun W => tohalf_b (pwb J) hb W
  have k4 := fun W hW => class_any (pwb J) hb W hW
  have k5 := fun W hW => behind_b (pwb J) hb W hW
  have kt := fun W hW => told3_true W hW
  rw [if_neg (by omega)] at f1
  rw [if_pos (by omega)] at f2
  rw [f4, decide_eq_true (by omega)] at k2
  rw [f5, decide_eq_false (by omega)] at k3
  rw [f2] at k4
  rw [f3, show ((1074 - J : Nat) : Int) = 1074 - (J : Int) from by omega] at k5
  have hB : (-1074 + (J : Int) + 1023) * 4503599627370496 = (pwb J : Nat) := by
    unfold pwb
    rw [if_pos (by omega)]
    omega
  rw [wend_none f1] at k1
  exact powers_2 k J _ _ _ hj (by omega) (by omega) hB k1 k2 k3 k4 k5 kt w hT
theorem exps_3 (k : Int) (J : Nat) (hj : wrap64 ((IntKind.u64.wrap k).tmod 2098) = (J : Int)) (h0 : 1010 ≤ J) (h1 : J ≤ 1049) (w : World) (hT : Tb w) :
    Calls Tryd.prog 15 #[.int .i64 k] w fun e w' => e = .returned (.bool true) ∧ Below w.heap.size w w' := by
  obtain ⟨f1, f2, f3, f4, f5⟩ := pw_facts (J := J) (by omega)
  have hl := pwb_lt (J := J) (by omega)
  have hb : pwb J < 18446744073709551616 := by omega
  have k1 := fun W hW => whole_any (pwb J) hb W hW
  have k2 := fun W => tosingle_any (pwb J) hb W
  have k3 := fun W => tohalf_b (pwb J) hb W
  have k4 := fun W hW => class_any (pwb J) hb W hW
  have k5 := fun W hW => behind_b (pwb J) hb W hW
  have kt := fun W hW => told3_true W hW
  rw [if_neg (by omega)] at f1
  rw [if_neg (by omega), if_pos (by omega)] at f2
  rw [f4, decide_eq_true (by omega)] at k2
  rw [f5, decide_eq_false (by omega)] at k3
  rw [f2] at k4
  rw [f3, show ((1074 - J : Nat) : Int) = 1074 - (J : Int) from by omega] at k5
  have hB : (-1074 + (J : Int) + 1023) * 4503599627370496 = (pwb J : Nat) := by
    unfold pwb
    rw [if_pos (by omega)]
    omega
  rw [wend_none f1] at k1
  exact powers_3 k J _ _ _ hj (by omega) (by omega) hB k1 k2 k3 k4 k5 kt w hT
theorem exps_4 (k : Int) (J : Nat) (hj : wrap64 ((IntKind.u64.wrap k).tmod 2098) = (J : Int)) (h0 : 1050 ≤ J) (h1 : J ≤ 1073) (w : World) (hT : Tb w) :
    Calls Tryd.prog 15 #[.int .i64 k] w fun e w' => e = .returned (.bool true) ∧ Below w.heap.size w w' := by
  obtain ⟨f1, f2, f3, f4, f5⟩ := pw_facts (J := J) (by omega)
  have hl := pwb_lt (J := J) (by omega)
  have hb : pwb J < 18446744073709551616 := by omega
  have k1 := fun W hW => whole_any (pwb J) hb W hW
  have k2 := fun W => tosingle_any (pwb J) hb W
  have k3 := fun W => tohalf_b (pwb J) hb W
  have k4 := fun W hW => class_any (pwb J) hb W hW
  have k5 := fun W hW => behind_b (pwb J) hb W hW
  have kt := fun W hW => told3_true W hW
  rw [if_neg (by omega)] at f1
  rw [if_neg (by omega), if_pos (by omega)] at f2
  rw [f4, decide_eq_true (by omega)] at k2
  rw [f5, decide_eq_true (by omega)] at k3
  rw [f2] at k4
  rw [f3, show ((1074 - J : Nat) : Int) = 1074 - (J : Int) from by omega] at k5
  have hB : (-1074 + (J : Int) + 1023) * 4503599627370496 = (pwb J : Nat) := by
    unfold pwb
    rw [if_pos (by omega)]
    omega
  rw [wend_none f1] at k1
  exact powers_4 k J _ _ _ hj (by omega) (by omega) hB k1 k2 k3 k4 k5 kt w hT
theorem exps_5 (k : Int) (J : Nat) (hj : wrap64 ((IntKind.u64.wrap k).tmod 2098) = (J : Int)) (h0 : 1074 ≤ J) (h1 : J ≤ 1089) (w : World) (hT : Tb w) :
    Calls Tryd.prog 15 #[.int .i64 k] w fun e w' => e = .returned (.bool true) ∧ Below w.heap.size w w' := by
  obtain ⟨f1, f2, f3, f4, f5⟩ := pw_facts (J := J) (by omega)
  have hl := pwb_lt (J := J) (by omega)
  have hb : pwb J < 18446744073709551616 := by omega
  have k1 := fun W hW => whole_any (pwb J) hb W hW
  have k2 := fun W => tosingle_any (pwb J) hb W
  have k3 := fun W => tohalf_b (pwb J) hb W
  have k4 := fun W hW => class_any (pwb J) hb W hW
  have k5 := fun W hW => behind_b (pwb J) hb W hW
  have kt := fun W hW => told3_true W hW
  rw [if_pos (by omega)] at f1
  rw [if_neg (by omega), if_neg (by omega)] at f2
  rw [f4, decide_eq_true (by omega)] at k2
  rw [f5, decide_eq_true (by omega)] at k3
  rw [f2] at k4
  rw [f3, show 1074 - J = 0 from by omega] at k5
  have hB : (-1074 + (J : Int) + 1023) * 4503599627370496 = (pwb J : Nat) := by
    unfold pwb
    rw [if_pos (by omega)]
    omega
  have hn : 2 ^ (J - 1074) ≠ 0 := by have := Nat.two_pow_pos (J - 1074); omega
  have hs : sg (pwb J) = 0 := by unfold sg; omega
  obtain ⟨r, hr⟩ : ∃ r, J - 1074 = 64 * 0 + r := ⟨J - 1074 - 64 * 0, by omega⟩
  rw [wend_pos hb f1 hn, hs, hr, decide_eq_false (by decide), I5_two0 r (by omega)] at k1
  exact powers_5 k J _ _ _ _ hj (by omega) (by omega) hB (by omega) (by rw [show ((-1074 + (J : Int)) % 64).toNat = r from by omega]; exact wrap_two r (by omega)) k1 k2 k3 k4 k5 kt w hT
theorem exps_6 (k : Int) (J : Nat) (hj : wrap64 ((IntKind.u64.wrap k).tmod 2098) = (J : Int)) (h0 : 1090 ≤ J) (h1 : J ≤ 1137) (w : World) (hT : Tb w) :
    Calls Tryd.prog 15 #[.int .i64 k] w fun e w' => e = .returned (.bool true) ∧ Below w.heap.size w w' := by
  obtain ⟨f1, f2, f3, f4, f5⟩ := pw_facts (J := J) (by omega)
  have hl := pwb_lt (J := J) (by omega)
  have hb : pwb J < 18446744073709551616 := by omega
  have k1 := fun W hW => whole_any (pwb J) hb W hW
  have k2 := fun W => tosingle_any (pwb J) hb W
  have k3 := fun W => tohalf_b (pwb J) hb W
  have k4 := fun W hW => class_any (pwb J) hb W hW
  have k5 := fun W hW => behind_b (pwb J) hb W hW
  have kt := fun W hW => told3_true W hW
  rw [if_pos (by omega)] at f1
  rw [if_neg (by omega), if_neg (by omega)] at f2
  rw [f4, decide_eq_true (by omega)] at k2
  rw [f5, decide_eq_false (by omega)] at k3
  rw [f2] at k4
  rw [f3, show 1074 - J = 0 from by omega] at k5
  have hB : (-1074 + (J : Int) + 1023) * 4503599627370496 = (pwb J : Nat) := by
    unfold pwb
    rw [if_pos (by omega)]
    omega
  have hn : 2 ^ (J - 1074) ≠ 0 := by have := Nat.two_pow_pos (J - 1074); omega
  have hs : sg (pwb J) = 0 := by unfold sg; omega
  obtain ⟨r, hr⟩ : ∃ r, J - 1074 = 64 * 0 + r := ⟨J - 1074 - 64 * 0, by omega⟩
  rw [wend_pos hb f1 hn, hs, hr, decide_eq_false (by decide), I5_two0 r (by omega)] at k1
  exact powers_6 k J _ _ _ _ hj (by omega) (by omega) hB (by omega) (by rw [show ((-1074 + (J : Int)) % 64).toNat = r from by omega]; exact wrap_two r (by omega)) k1 k2 k3 k4 k5 kt w hT
theorem exps_7 (k : Int) (J : Nat) (hj : wrap64 ((IntKind.u64.wrap k).tmod 2098) = (J : Int)) (h0 : 1138 ≤ J) (h1 : J ≤ 1201) (w : World) (hT : Tb w) :
    Calls Tryd.prog 15 #[.int .i64 k] w fun e w' => e = .returned (.bool true) ∧ Below w.heap.size w w' := by
  obtain ⟨f1, f2, f3, f4, f5⟩ := pw_facts (J := J) (by omega)
  have hl := pwb_lt (J := J) (by omega)
  have hb : pwb J < 18446744073709551616 := by omega
  have k1 := fun W hW => whole_any (pwb J) hb W hW
  have k2 := fun W => tosingle_any (pwb J) hb W
  have k3 := fun W => tohalf_b (pwb J) hb W
  have k4 := fun W hW => class_any (pwb J) hb W hW
  have k5 := fun W hW => behind_b (pwb J) hb W hW
  have kt := fun W hW => told3_true W hW
  rw [if_pos (by omega)] at f1
  rw [if_neg (by omega), if_neg (by omega)] at f2
  rw [f4, decide_eq_true (by omega)] at k2
  rw [f5, decide_eq_false (by omega)] at k3
  rw [f2] at k4
  rw [f3, show 1074 - J = 0 from by omega] at k5
  have hB : (-1074 + (J : Int) + 1023) * 4503599627370496 = (pwb J : Nat) := by
    unfold pwb
    rw [if_pos (by omega)]
    omega
  have hn : 2 ^ (J - 1074) ≠ 0 := by have := Nat.two_pow_pos (J - 1074); omega
  have hs : sg (pwb J) = 0 := by unfold sg; omega
  obtain ⟨r, hr⟩ : ∃ r, J - 1074 = 64 * 1 + r := ⟨J - 1074 - 64 * 1, by omega⟩
  rw [wend_pos hb f1 hn, hs, hr, decide_eq_false (by decide), I5_two1 r (by omega)] at k1
  exact powers_7 k J _ _ _ _ hj (by omega) (by omega) hB (by omega) (by rw [show ((-1074 + (J : Int)) % 64).toNat = r from by omega]; exact wrap_two r (by omega)) k1 k2 k3 k4 k5 kt w hT
theorem exps_8 (k : Int) (J : Nat) (hj : wrap64 ((IntKind.u64.wrap k).tmod 2098) = (J : Int)) (h0 : 1202 ≤ J) (h1 : J ≤ 1265) (w : World) (hT : Tb w) :
    Calls Tryd.prog 15 #[.int .i64 k] w fun e w' => e = .returned (.bool true) ∧ Below w.heap.size w w' := by
  obtain ⟨f1, f2, f3, f4, f5⟩ := pw_facts (J := J) (by omega)
  have hl := pwb_lt (J := J) (by omega)
  have hb : pwb J < 18446744073709551616 := by omega
  have k1 := fun W hW => whole_any (pwb J) hb W hW
  have k2 := fun W => tosingle_any (pwb J) hb W
  have k3 := fun W => tohalf_b (pwb J) hb W
  have k4 := fun W hW => class_any (pwb J) hb W hW
  have k5 := fun W hW => behind_b (pwb J) hb W hW
  have kt := fun W hW => told3_true W hW
  rw [if_pos (by omega)] at f1
  rw [if_neg (by omega), if_neg (by omega)] at f2
  rw [f4, decide_eq_false (by omega)] at k2
  rw [f5, decide_eq_false (by omega)] at k3
  rw [f2] at k4
  rw [f3, show 1074 - J = 0 from by omega] at k5
  have hB : (-1074 + (J : Int) + 1023) * 4503599627370496 = (pwb J : Nat) := by
    unfold pwb
    rw [if_pos (by omega)]
    omega
  have hn : 2 ^ (J - 1074) ≠ 0 := by have := Nat.two_pow_pos (J - 1074); omega
  have hs : sg (pwb J) = 0 := by unfold sg; omega
  obtain ⟨r, hr⟩ : ∃ r, J - 1074 = 64 * 2 + r := ⟨J - 1074 - 64 * 2, by omega⟩
  rw [wend_pos hb f1 hn, hs, hr, decide_eq_false (by decide), I5_two2 r (by omega)] at k1
  exact powers_8 k J _ _ _ _ hj (by omega) (by omega) hB (by omega) (by rw [show ((-1074 + (J : Int)) % 64).toNat = r from by omega]; exact wrap_two r (by omega)) k1 k2 k3 k4 k5 kt w hT
theorem exps_9 (k : Int) (J : Nat) (hj : wrap64 ((IntKind.u64.wrap k).tmod 2098) = (J : Int)) (h0 : 1266 ≤ J) (h1 : J ≤ 1329) (w : World) (hT : Tb w) :
    Calls Tryd.prog 15 #[.int .i64 k] w fun e w' => e = .returned (.bool true) ∧ Below w.heap.size w w' := by
  obtain ⟨f1, f2, f3, f4, f5⟩ := pw_facts (J := J) (by omega)
  have hl := pwb_lt (J := J) (by omega)
  have hb : pwb J < 18446744073709551616 := by omega
  have k1 := fun W hW => whole_any (pwb J) hb W hW
  have k2 := fun W => tosingle_any (pwb J) hb W
  have k3 := fun W => tohalf_b (pwb J) hb W
  have k4 := fun W hW => class_any (pwb J) hb W hW
  have k5 := fun W hW => behind_b (pwb J) hb W hW
  have kt := fun W hW => told3_true W hW
  rw [if_pos (by omega)] at f1
  rw [if_neg (by omega), if_neg (by omega)] at f2
  rw [f4, decide_eq_false (by omega)] at k2
  rw [f5, decide_eq_false (by omega)] at k3
  rw [f2] at k4
  rw [f3, show 1074 - J = 0 from by omega] at k5
  have hB : (-1074 + (J : Int) + 1023) * 4503599627370496 = (pwb J : Nat) := by
    unfold pwb
    rw [if_pos (by omega)]
    omega
  have hn : 2 ^ (J - 1074) ≠ 0 := by have := Nat.two_pow_pos (J - 1074); omega
  have hs : sg (pwb J) = 0 := by unfold sg; omega
  obtain ⟨r, hr⟩ : ∃ r, J - 1074 = 64 * 3 + r := ⟨J - 1074 - 64 * 3, by omega⟩
  rw [wend_pos hb f1 hn, hs, hr, decide_eq_false (by decide), I5_two3 r (by omega)] at k1
  exact powers_9 k J _ _ _ _ hj (by omega) (by omega) hB (by omega) (by rw [show ((-1074 + (J : Int)) % 64).toNat = r from by omega]; exact wrap_two r (by omega)) k1 k2 k3 k4 k5 kt w hT
theorem exps_10 (k : Int) (J : Nat) (hj : wrap64 ((IntKind.u64.wrap k).tmod 2098) = (J : Int)) (h0 : 1330 ≤ J) (h1 : J ≤ 2097) (w : World) (hT : Tb w) :
    Calls Tryd.prog 15 #[.int .i64 k] w fun e w' => e = .returned (.bool true) ∧ Below w.heap.size w w' := by
  obtain ⟨f1, f2, f3, f4, f5⟩ := pw_facts (J := J) (by omega)
  have hl := pwb_lt (J := J) (by omega)
  have hb : pwb J < 18446744073709551616 := by omega
  have k1 := fun W hW => whole_any (pwb J) hb W hW
  have k2 := fun W => tosingle_any (pwb J) hb W
  have k3 := fun W => tohalf_b (pwb J) hb W
  have k4 := fun W hW => class_any (pwb J) hb W hW
  have k5 := fun W hW => behind_b (pwb J) hb W hW
  have kt := fun W hW => told3_true W hW
  rw [if_neg (by omega)] at f1
  rw [if_pos (by omega)] at f2
  rw [f4, decide_eq_false (by omega)] at k2
  rw [f5, decide_eq_false (by omega)] at k3
  rw [f2] at k4
  rw [f3, show 1074 - J = 0 from by omega] at k5
  have hB : (-1074 + (J : Int) + 1023) * 4503599627370496 = (pwb J : Nat) := by
    unfold pwb
    rw [if_pos (by omega)]
    omega
  rw [wend_none f1] at k1
  exact powers_10 k J _ _ _ hj (by omega) (by omega) hB k1 k2 k3 k4 k5 kt w hT
theorem exps_any (k : Int) (w : World) (hT : Tb w) :
    Calls Tryd.prog 15 #[.int .i64 k] w fun e w' => e = .returned (.bool true) ∧ Below w.heap.size w w' := by
  have hb := rem_2098 k
  obtain ⟨J, hJ⟩ := Int.eq_ofNat_of_zero_le hb.1
  have hl : J ≤ 2097 := by omega
  by_cases c0 : J ≤ 51
  · exact exps_0 k J hJ (by omega) c0 w hT
  by_cases c1 : J ≤ 924
  · exact exps_1 k J hJ (by omega) c1 w hT
  by_cases c2 : J ≤ 1009
  · exact exps_2 k J hJ (by omega) c2 w hT
  by_cases c3 : J ≤ 1049
  · exact exps_3 k J hJ (by omega) c3 w hT
  by_cases c4 : J ≤ 1073
  · exact exps_4 k J hJ (by omega) c4 w hT
  by_cases c5 : J ≤ 1089
  · exact exps_5 k J hJ (by omega) c5 w hT
  by_cases c6 : J ≤ 1137
  · exact exps_6 k J hJ (by omega) c6 w hT
  by_cases c7 : J ≤ 1201
  · exact exps_7 k J hJ (by omega) c7 w hT
  by_cases c8 : J ≤ 1265
  · exact exps_8 k J hJ (by omega) c8 w hT
  by_cases c9 : J ≤ 1329
  · exact exps_9 k J hJ (by omega) c9 w hT
  exact exps_10 k J hJ (by omega) hl w hT
end Go.Proofs.YtpnlmikjcpjjmaaDoor
