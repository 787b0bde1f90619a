/-
  The reference's parts of a float, and Behind: the contracts, for every word of 64 bits.
-/
import Derived.Test.YtoibaeilbolffaaGreatDoorGC
import Derived.Test.YtoibaeilbolffaaGreatDoorFltA
namespace Go.Proofs.YtoibaeilbolffaaGreatDoor
open Go.RowKit Go.Shelf

/-- The power of two of the last digit. -/
def ex (b : Nat) : Int := if b / 4503599627370496 % 2048 = 0 then -1074 else ((b / 4503599627370496 % 2048 : Nat) : Int) - 1075
set_option maxHeartbeats 1000000 in
set_option maxRecDepth 100000 in
theorem rparts_no (b m : Int) (g : Bool) (hg : (b / 9223372036854775808 == 1) = g) (hF : bits .and .u64 (b / 4503599627370496) 2047 = 2047) (hm : bits .and .u64 b 4503599627370495 = m) (w : World) :
    Calls Tryz.prog 33 #[.int .u64 b] w fun e w' => e = .returned (.tuple #[.bool g, .slice none 0 0, .int .i64 0, .bool false]) ∧ w' = w := by
  go_enter Tryz.func33, Tryz.ntmps33
  go_wp2
  exact bodyPost_ret (v := .tuple #[.bool g, .slice none 0 0, .int .i64 0, .bool false]) (by simp [results, Tryz.results33, go_sem]) rfl ⟨rfl, rfl⟩
set_option maxHeartbeats 1000000 in
set_option maxRecDepth 100000 in
theorem rparts_sub (b : Int) (m : Nat) (g : Bool) (hg : (b / 9223372036854775808 == 1) = g) (hF : bits .and .u64 (b / 4503599627370496) 2047 = 0) (hm : bits .and .u64 b 4503599627370495 = (m : Int)) (hm1 : m < 18446744073709551616) (w : World) :
    Calls Tryz.prog 33 #[.int .u64 b] w fun e w' => ∃ s', e = .returned (.tuple #[.bool g, s', .int .i64 (-1074), .bool true]) ∧ DR w' s' m ∧ Below w.heap.size w w' := by
  have HM := Lib.hid hm1; clear hm1
  go_enter Tryz.func33, Tryz.ntmps33
  go_wp2_with fail
  (with_reducible refine (rsmall m HM.out _).mono ?_)
  rintro e w1 ⟨s', rfl, hr, hb⟩
  have HR := Lib.hid hr; have HB := Lib.hid hb; clear hr hb
  go_wp2
  exact bodyPost_ret (v := .tuple #[.bool g, s', .int .i64 (-1074), .bool true]) (by simp [results, Tryz.results33, go_sem]) rfl ⟨s', rfl, HR.out, HB.out⟩
set_option maxHeartbeats 1000000 in
set_option maxRecDepth 100000 in
theorem rparts_norm (b m F : Int) (d : Nat) (g : Bool) (hg : (b / 9223372036854775808 == 1) = g) (hF : bits .and .u64 (b / 4503599627370496) 2047 = F) (hF0 : (F == 0) = false) (hF1 : (F == 2047) = false) (hF2 : 0 ≤ F) (hF3 : F < 2048) (hm : bits .and .u64 b 4503599627370495 = m) (hd : bits .or .u64 m 4503599627370496 = (d : Int)) (hd1 : d < 18446744073709551616) (w : World) :
    Calls Tryz.prog 33 #[.int .u64 b] w fun e w' => ∃ s', e = .returned (.tuple #[.bool g, s', .int .i64 (F - 1075), .bool true]) ∧ DR w' s' d ∧ Below w.heap.size w w' := by
  have HM := Lib.hid hd1; clear hd1
  go_enter Tryz.func33, Tryz.ntmps33
  go_wp2_with fail
  (with_reducible refine (rsmall d HM.out _).mono ?_)
  rintro e w1 ⟨s', rfl, hr, hb⟩
  have HR := Lib.hid hr; have HB := Lib.hid hb; clear hr hb
  go_wp2
  exact bodyPost_ret (v := .tuple #[.bool g, s', .int .i64 (F - 1075), .bool true]) (by simp [results, Tryz.results33, go_sem]) rfl ⟨s', rfl, HR.out, HB.out⟩
theorem sgn_bool (b : Nat) : ((b : Int) / 9223372036854775808 == 1) = (sg b == 1) := by
  unfold sg
  rw [Bool.eq_iff_iff, beq_iff_eq, beq_iff_eq]
  omega
theorem fin_field {b : Nat} : rg b < INF ↔ b / 4503599627370496 % 2048 ≠ 2047 := by
  have h5 : INF = 9218868437227405312 := rfl
  unfold rg
  omega
theorem rparts_inf (b : Nat) (hb : b < 18446744073709551616) (h : ¬ rg b < INF) (w : World) :
    Calls Tryz.prog 33 #[.int .u64 b] w fun e w' => e = .returned (.tuple #[.bool (sg b == 1), .slice none 0 0, .int .i64 0, .bool false]) ∧ w' = w := by
  have hF : b / 4503599627370496 % 2048 = 2047 := Decidable.byContradiction fun hc => h (fin_field.2 hc)
  have e := field_bits b hb
  rw [hF] at e
  exact rparts_no b _ _ (sgn_bool b) e (frac_bits b hb) w
theorem rparts_fin (b : Nat) (hb : b < 18446744073709551616) (h : rg b < INF) (w : World) :
    Calls Tryz.prog 33 #[.int .u64 b] w fun e w' => ∃ s', e = .returned (.tuple #[.bool (sg b == 1), s', .int .i64 (ex b), .bool true]) ∧ DR w' s' (dg b) ∧ Below w.heap.size w w' := by
  have hF := fin_field.1 h
  have e := field_bits b hb
  by_cases h0 : b / 4503599627370496 % 2048 = 0
  · have hd : dg b = b % 4503599627370496 := by unfold dg; rw [if_pos h0]; rfl
    have he : ex b = -1074 := by unfold ex; rw [if_pos h0]
    rw [hd, he]
    rw [h0] at e
    exact rparts_sub b _ _ (sgn_bool b) e (frac_bits b hb) (by omega) w
  · have hd : dg b = b % 4503599627370496 + 4503599627370496 := by unfold dg; rw [if_neg h0]
    have he : ex b = ((b / 4503599627370496 % 2048 : Nat) : Int) - 1075 := by unfold ex; rw [if_neg h0]
    rw [hd, he]
    exact rparts_norm b _ _ _ _ (sgn_bool b) e (by rw [beq_eq_false_iff_ne]; omega) (by rw [beq_eq_false_iff_ne]; omega) (by omega) (by omega) (frac_bits b hb) (hid_bits b) (by omega) w
end Go.Proofs.YtoibaeilbolffaaGreatDoor
