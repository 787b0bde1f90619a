/-
  entrepotlaw5.UtfEnds answers true for any two numbers.
-/
import Derived.Test.YtoibaeilbolffaaUtfPartsW
import Derived.Deep.Cut
import Derived.Deep.DeepCutAuto
namespace Go.Proofs.Ytoibaeilbolffaa
open Go.RowKit

theorem uput_list {c : Int} (h : zlng c ≠ 0) : (uput c).data.toList = uenc c.toNat := by rw [uput_some h]
theorem uput_size (c : Int) : (uput c).size = zlng c := by
  by_cases h : zlng c = 0
  · rw [uput_none h, h]; rfl
  · rw [← len_list, uput_list h]
    have hc := (zlng_some h).1
    have e : zlng c = ulng c.toNat := by unfold zlng; rw [if_neg (by omega)]
    rw [uenc_len (by omega), e]
theorem next_put (c : Int) (W : World) : Calls Try.prog 9 #[.string (uput c), .int .i64 0] W fun e w' => e = .returned (.tuple #[.int .i64 (if zlng c = 0 then 0 else c), .int .i64 (zlng c : Nat)]) ∧ w' = W := by
  have hs := uput_size c
  have h4 : zlng c ≤ 4 := by rcases zlng_cases c with h | h | h | h | h | h <;> omega
  have h := next_any (uput c) (by omega) 0 W
  by_cases h0 : zlng c = 0
  · rw [if_pos h0, h0]
    rw [uat_out (by omega)] at h
    exact h
  · rw [if_neg h0]
    have hc := (zlng_some h0).1
    have e : zlng c = ulng c.toNat := by unfold zlng; rw [if_neg (by omega)]
    have hd := udec_enc (c := c.toNat) (by omega) []
    rw [List.append_nil] at hd
    have hu : uat (uput c) 0 = uenc c.toNat := by
      rw [show (0 : Int) = ((0 : Nat) : Int) from rfl, uat_nat, List.drop_zero, uput_list h0]
    rw [hu, nans_some hd, ← e, show ((c.toNat : Nat) : Int) = c from by omega] at h
    exact h
set_option maxHeartbeats 4000000 in
set_option maxRecDepth 4000000 in
theorem ends_any (x y : Int) (w : World) :
    Calls Try.prog 7 #[.int .i64 x, .int .i64 y] w fun e w' => e = .returned (.bool true) ∧ Below w.heap.size w w' := by
  obtain ⟨U, hU⟩ : ∃ U, IntKind.u64.wrap x = U := ⟨_, rfl⟩
  obtain ⟨V, hV⟩ : ∃ V, IntKind.u64.wrap y = V := ⟨_, rfl⟩
  have u0 : 0 ≤ U ∧ U < 18446744073709551616 := by rw [← hU, IntKind.wrap_u64]; omega
  have v0 : 0 ≤ V ∧ V < 18446744073709551616 := by rw [← hV, IntKind.wrap_u64]; omega
  obtain ⟨u1, u2⟩ := u0
  obtain ⟨v1, v2⟩ := v0
  obtain ⟨m, hm⟩ : ∃ m, V % 3 = m := ⟨_, rfl⟩
  have m0 : 0 ≤ m := by omega
  have m2 : m ≤ 2 := by omega
  obtain ⟨j, hj⟩ : ∃ j, U % 13 = j := ⟨_, rfl⟩
  have j0 : 0 ≤ j := by omega
  have j2 : j ≤ 12 := by omega
  have hj13 : j = 0 ∨ j = 1 ∨ j = 2 ∨ j = 3 ∨ j = 4 ∨ j = 5 ∨ j = 6 ∨ j = 7 ∨ j = 8 ∨ j = 9 ∨ j = 10 ∨ j = 11 ∨ j = 12 := by omega
  go_enter Try.func7, Try.ntmps7
  go_upto_region 2 with (fail)
  go_cut [6] (fun s6 wx => ∃ c : Int, s6 = .int .i64 c ∧ -1 ≤ c ∧ c ≤ 1114113 ∧ Below w.heap.size w wx)
  case first =>
    rcases hj13 with rfl | rfl | rfl | rfl | rfl | rfl | rfl | rfl | rfl | rfl | rfl | rfl | rfl
    all_goals
      go_wp2
      go_meet
      exact ⟨_, rfl, by omega, by omega, (Below.refl _ _).alloc (Nat.le_refl _) _⟩
  case rest =>
    obtain ⟨c, rfl, hc0, hc1, hbw⟩ := hcut
    generalize wc = wx at *
    clear hj hj13 j0 j2 hm m0 m2 u1 u2 v1 v2 hU hV
    have k1 := fun W => put_any c W
    have k2 := fun W => next_put c W
    have hs := uput_size c
    have hen := fun h => encode_put (c := c) h
    rcases zlng_cases c with ⟨e, h | h⟩ | ⟨e, h0, h1⟩ | ⟨e, h0, h1⟩ | ⟨e, h0, h1⟩ | ⟨e, h0, h1, h2 | h2⟩ | ⟨e, h0, h1⟩
    · rw [if_pos e, e] at k2
      rw [uput_none e] at k1 k2
      have K1 := Lib.hid k1; have K2 := Lib.hid k2
      clear k1 k2 hs hen e
      go_wp2_with fail
      (with_reducible refine (K1.out _).mono ?_)
      rintro e w' ⟨rfl, rfl⟩
      go_wp2_with fail
      (with_reducible refine (K2.out _).mono ?_)
      rintro e w' ⟨rfl, rfl⟩
      go_wp2_with fail
      (with_reducible refine (told5_true _).mono ?_)
      rintro e w1 ⟨rfl, hb1⟩
      go_wp2
      go_ret
      exact ⟨rfl, ubtr hbw hb1⟩
    · have hn : 0 ≤ c := by omega
      rw [if_pos e, e] at k2
      rw [uput_none e] at k1 k2
      have K1 := Lib.hid k1; have K2 := Lib.hid k2
      clear k1 k2 hs hen e
      go_wp2_with fail
      (with_reducible refine (K1.out _).mono ?_)
      rintro e w' ⟨rfl, rfl⟩
      go_wp2_with fail
      (with_reducible refine (K2.out _).mono ?_)
      rintro e w' ⟨rfl, rfl⟩
      go_wp2_with fail
      (with_reducible refine (told5_true _).mono ?_)
      rintro e w1 ⟨rfl, hb1⟩
      go_wp2
      go_ret
      exact ⟨rfl, ubtr hbw hb1⟩
    · rw [if_pos e, e] at k2
      rw [uput_none e] at k1 k2
      have K1 := Lib.hid k1; have K2 := Lib.hid k2
      clear k1 k2 hs hen e
      go_wp2_with fail
      (with_reducible refine (K1.out _).mono ?_)
      rintro e w' ⟨rfl, rfl⟩
      go_wp2_with fail
      (with_reducible refine (K2.out _).mono ?_)
      rintro e w' ⟨rfl, rfl⟩
      go_wp2_with fail
      (with_reducible refine (told5_true _).mono ?_)
      rintro e w1 ⟨rfl, hb1⟩
      go_wp2
      go_ret
      exact ⟨rfl, ubtr hbw hb1⟩
    · rw [if_neg (by omega), e] at k2
      rw [e] at hs
      have hp := hen (by omega)
      have hw : IntKind.i32.wrap c = c := by simp [IntKind.wrap, IntKind.bits, IntKind.signed]; omega
      clear hen e
      generalize uput c = P at *
      have ePP : (P == P) = true := beq_bytes P
      have K1 := Lib.hid k1; have K2 := Lib.hid k2
      clear k1 k2
      go_wp2_with fail
      (with_reducible refine (K1.out _).mono ?_)
      rintro e w' ⟨rfl, rfl⟩
      go_wp2_with fail
      (with_reducible refine (K2.out _).mono ?_)
      rintro e w' ⟨rfl, rfl⟩
      go_wp2_with fail
      (with_reducible refine (told5_true _).mono ?_)
      rintro e w1 ⟨rfl, hb1⟩
      go_wp2
      go_ret
      exact ⟨rfl, ubtr hbw hb1⟩
    · rw [if_neg (by omega), e] at k2
      rw [e] at hs
      have hp := hen (by omega)
      have hw : IntKind.i32.wrap c = c := by simp [IntKind.wrap, IntKind.bits, IntKind.signed]; omega
      clear hen e
      generalize uput c = P at *
      have ePP : (P == P) = true := beq_bytes P
      have K1 := Lib.hid k1; have K2 := Lib.hid k2
      clear k1 k2
      go_wp2_with fail
      (with_reducible refine (K1.out _).mono ?_)
      rintro e w' ⟨rfl, rfl⟩
      go_wp2_with fail
      (with_reducible refine (K2.out _).mono ?_)
      rintro e w' ⟨rfl, rfl⟩
      go_wp2_with fail
      (with_reducible refine (told5_true _).mono ?_)
      rintro e w1 ⟨rfl, hb1⟩
      go_wp2
      go_ret
      exact ⟨rfl, ubtr hbw hb1⟩
    · rw [if_neg (by omega), e] at k2
      rw [e] at hs
      have hp := hen (by omega)
      have hw : IntKind.i32.wrap c = c := by simp [IntKind.wrap, IntKind.bits, IntKind.signed]; omega
      clear hen e
      generalize uput c = P at *
      have ePP : (P == P) = true := beq_bytes P
      have K1 := Lib.hid k1; have K2 := Lib.hid k2
      clear k1 k2
      go_wp2_with fail
      (with_reducible refine (K1.out _).mono ?_)
      rintro e w' ⟨rfl, rfl⟩
      go_wp2_with fail
      (with_reducible refine (K2.out _).mono ?_)
      rintro e w' ⟨rfl, rfl⟩
      go_wp2_with fail
      (with_reducible refine (told5_true _).mono ?_)
      rintro e w1 ⟨rfl, hb1⟩
      go_wp2
      go_ret
      exact ⟨rfl, ubtr hbw hb1⟩
    · rw [if_neg (by omega), e] at k2
      rw [e] at hs
      have hp := hen (by omega)
      have hw : IntKind.i32.wrap c = c := by simp [IntKind.wrap, IntKind.bits, IntKind.signed]; omega
      clear hen e
      generalize uput c = P at *
      have ePP : (P == P) = true := beq_bytes P
      have K1 := Lib.hid k1; have K2 := Lib.hid k2
      clear k1 k2
      go_wp2_with fail
      (with_reducible refine (K1.out _).mono ?_)
      rintro e w' ⟨rfl, rfl⟩
      go_wp2_with fail
      (with_reducible refine (K2.out _).mono ?_)
      rintro e w' ⟨rfl, rfl⟩
      go_wp2_with fail
      (with_reducible refine (told5_true _).mono ?_)
      rintro e w1 ⟨rfl, hb1⟩
      go_wp2
      go_ret
      exact ⟨rfl, ubtr hbw hb1⟩
    · rw [if_neg (by omega), e] at k2
      rw [e] at hs
      have hp := hen (by omega)
      have hw : IntKind.i32.wrap c = c := by simp [IntKind.wrap, IntKind.bits, IntKind.signed]; omega
      clear hen e
      generalize uput c = P at *
      have ePP : (P == P) = true := beq_bytes P
      have K1 := Lib.hid k1; have K2 := Lib.hid k2
      clear k1 k2
      go_wp2_with fail
      (with_reducible refine (K1.out _).mono ?_)
      rintro e w' ⟨rfl, rfl⟩
      go_wp2_with fail
      (with_reducible refine (K2.out _).mono ?_)
      rintro e w' ⟨rfl, rfl⟩
      go_wp2_with fail
      (with_reducible refine (told5_true _).mono ?_)
      rintro e w1 ⟨rfl, hb1⟩
      go_wp2
      go_ret
      exact ⟨rfl, ubtr hbw hb1⟩
end Go.Proofs.Ytoibaeilbolffaa
