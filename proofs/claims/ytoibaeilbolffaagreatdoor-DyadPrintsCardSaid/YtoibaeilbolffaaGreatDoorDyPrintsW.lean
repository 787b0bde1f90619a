/-
  The reference's PrintFloat for every word; entrepotlaw4.DyadPrints answers true for every word.
-/
import Derived.Test.YtoibaeilbolffaaGreatDoorDyRPrint
import Derived.Test.YtoibaeilbolffaaGreatDoorDyTold
import Derived.Test.YtoibaeilbolffaaGreatDoorRefClass
namespace Go.Proofs.YtoibaeilbolffaaGreatDoor
open Go.RowKit Go.Shelf

theorem beq_str (S : ByteArray) : (S == S) = true := by
  show (S.data == S.data) = true
  exact beq_self_eq_true _
theorem rpf_no (b c : Int) (hc : (c != 1) = true) (w : World)
    (k1 : ∀ W, Calls Tryz.prog 32 #[.int .u64 b] W fun e w' => e = .returned (.int .i64 c) ∧ Below W.heap.size W w') :
    Calls Tryz.prog 12 #[.int .u64 b] w fun e w' => e = .returned (.tuple #[.string ⟨#[]⟩, .bool false]) ∧ Below w.heap.size w w' := by
  have K1 := Lib.hid k1; clear k1
  go_enter Tryz.func12, Tryz.ntmps12
  go_wp2_with fail
  (with_reducible refine (K1.out _).mono ?_)
  rintro e w1 ⟨rfl, hb⟩
  go_wp2
  go_ret2
  exact ⟨rfl, hb⟩
theorem shv_odd {b d K : Nat} (h0 : dg b ≠ 0) (ho : od b = d) (hp : pw b = -(K : Int)) : shv (dg b) (ex b + (K : Int)) = d := by
  have hpw := pw_ex h0
  unfold od at ho
  rw [if_neg h0] at ho
  unfold shv
  by_cases hc : Lib.ctz 64 (dg b) = 0
  · rw [hc, Nat.pow_zero, Nat.div_one] at ho
    rw [if_pos (by omega), show (ex b + (K : Int)).toNat = 0 from by omega, Nat.pow_zero, Nat.mul_one, ho]
  · rw [if_neg (by omega), show (-(ex b + (K : Int))).toNat = Lib.ctz 64 (dg b) from by omega, ho]
theorem rprintfloat_any (b : Nat) (hb : b < 18446744073709551616) (w : World) :
    Calls Tryz.prog 12 #[.int .u64 (b : Int)] w fun e w' => e = .returned (prans b) ∧ Below w.heap.size w w' := by
  have k1 := fun W => rclass b hb W
  unfold prans
  by_cases hc : cls b = 1
  · rw [if_pos hc]
    rw [hc] at k1
    obtain ⟨d, m, K, hd, hK1, hK2, hB, hl, ho, hw, hf⟩ := plain_parts hc
    have hd0 : d ≠ 0 := by omega
    have h0 : dg b ≠ 0 := by
      intro h
      unfold od at ho
      rw [if_pos h] at ho
      exact hd0 ho.symm
    have hp : pw b = -(K : Int) := by
      unfold beh at hB
      rw [if_pos hf] at hB
      omega
    have hd53 := odd_small hd0 hl
    have he := ex_bounds b
    obtain ⟨hs2, hsg⟩ := sg_two hb
    have k2 := fun W => rparts_fin b hb hf W
    have k3 := fun W => rbehind b hb W
    rw [hB] at k3
    have k4 := fun s W (h : DR W s (dg b)) => rshift h (dg_len b) (ex b + (K : Int)) (by omega) (by omega)
    rw [shv_odd h0 ho hp] at k4
    have hdl := dstr_le (five_fit hd53 hK2)
    rw [dstr_size] at hdl
    have h := rpf_yes (b : Int) (ex b) (sg b == 1) K d (dg b) hK1 hK2 (by omega) (by omega)
      (fun i hi => Nat.le_trans (digs_len.2 (show d * 5 ^ i < 2 ^ (32 * 8) from five_fit hd53 (by omega))) (by decide)) (by omega) w k1 k2 k3 k4
    rw [sign_text _ (sg b) (sg b == 1) rfl (by omega)] at h
    unfold ptx
    rw [ho, hB]
    exact h
  · rw [if_neg hc]
    exact rpf_no (b : Int) _ (by rw [bne_iff_ne]; omega) w k1
theorem prints_no (b : Int) (w : World)
    (k1 : ∀ W, Below w.heap.size w W → Calls Tryz.prog 11 #[.int .u64 b] W fun e w' => e = .returned (.tuple #[.string ⟨#[]⟩, .bool false]) ∧ Below W.heap.size W w')
    (k2 : ∀ W, Calls Tryz.prog 12 #[.int .u64 b] W fun e w' => e = .returned (.tuple #[.string ⟨#[]⟩, .bool false]) ∧ Below W.heap.size W w')
    (k3 : ∀ W, Below w.heap.size w W → Calls Tryz.prog 7 #[] W fun e w' => e = .returned (.bool true) ∧ Below W.heap.size W w') :
    Calls Tryz.prog 4 #[.int .u64 b] w fun e w' => e = .returned (.bool true) ∧ Below w.heap.size w w' := by
  have K1 := Lib.hid k1; have K2 := Lib.hid k2; have K3 := Lib.hid k3; clear k1 k2 k3
  obtain ⟨S, hS⟩ : ∃ S : ByteArray, S = ⟨#[]⟩ := ⟨_, rfl⟩
  rw [← hS] at K1 K2
  have hSS := beq_str S
  clear hS
  go_enter Tryz.func4, Tryz.ntmps4
  go_wp2_with fail
  (with_reducible refine (K1.out _ (Below.refl _ _)).mono ?_)
  rintro e w1 ⟨rfl, hw1⟩
  go_wp2_with fail
  (with_reducible refine (K2.out _).mono ?_)
  rintro e w2 ⟨rfl, hb⟩
  have hw2 := btr hw1 hb
  clear hb hw1
  go_wp2_with fail
  (with_reducible refine (K3.out _ hw2).mono ?_)
  rintro e w3 ⟨rfl, hb⟩
  have hw3 := btr hw2 hb
  go_wp2
  go_ret
  exact ⟨rfl, hw3⟩
theorem prints_yes (b : Int) (S : ByteArray) (w : World)
    (k1 : ∀ W, Below w.heap.size w W → Calls Tryz.prog 11 #[.int .u64 b] W fun e w' => e = .returned (.tuple #[.string S, .bool true]) ∧ Below W.heap.size W w')
    (k2 : ∀ W, Calls Tryz.prog 12 #[.int .u64 b] W fun e w' => e = .returned (.tuple #[.string S, .bool true]) ∧ Below W.heap.size W w')
    (k4 : ∀ W, Below w.heap.size w W → Calls Tryz.prog 8 #[.string S] W fun e w' => e = .returned (.tuple #[VX 4 0 b, .int .i64 0]) ∧ Below W.heap.size W w')
    (k3 : ∀ W, Below w.heap.size w W → Calls Tryz.prog 7 #[] W fun e w' => e = .returned (.bool true) ∧ Below W.heap.size W w') :
    Calls Tryz.prog 4 #[.int .u64 b] w fun e w' => e = .returned (.bool true) ∧ Below w.heap.size w w' := by
  have K1 := Lib.hid k1; have K2 := Lib.hid k2; have K3 := Lib.hid k3; have K4 := Lib.hid k4; clear k1 k2 k3 k4
  have hSS := beq_str S
  have hbb : (b == b) = true := beq_self_eq_true b
  go_enter Tryz.func4, Tryz.ntmps4
  go_wp2_with fail
  (with_reducible refine (K1.out _ (Below.refl _ _)).mono ?_)
  rintro e w1 ⟨rfl, hw1⟩
  go_wp2_with fail
  (with_reducible refine (K2.out _).mono ?_)
  rintro e w2 ⟨rfl, hb⟩
  have hw2 := btr hw1 hb
  clear hb hw1
  go_wp2_with fail
  (with_reducible refine (K4.out _ hw2).mono ?_)
  rintro e w3 ⟨rfl, hb⟩
  have hw3 := btr hw2 hb
  have V := RowV.new w3 (.int .i64 4) (.bool false) (.int .u64 0) (.int .u64 0) (.int .u64 0) (.int .u64 0) (.int .u64 b) (.string ⟨#[]⟩) (.slice none 0 0) (.slice none 0 0)
  clear hb hw2
  go_wp2_with fail
  (with_reducible refine (K3.out _ (bal hw3 _)).mono ?_)
  rintro e w4 ⟨rfl, hb⟩
  have hw4 := btr (bal hw3 _) hb
  have V4 := RowV.keep hb V
  clear hb hw3 V
  obtain ⟨c0, c1, c2, c3, c4, c5, c6, c7, c8, c9⟩ := V4.parts
  go_wp2
  go_ret
  exact ⟨rfl, hw4⟩
theorem dprints_any (b : Int) (hb0 : 0 ≤ b) (hb1 : b < 18446744073709551616) (w : World) (hT : Tb w) (hU : Tab w) :
    Calls Tryz.prog 4 #[.int .u64 b] w fun e w' => e = .returned (.bool true) ∧ Below w.heap.size w w' := by
  obtain ⟨n, rfl⟩ := Int.eq_ofNat_of_zero_le hb0
  have hn : n < 18446744073709551616 := by omega
  have k1 := fun W (hW : Below w.heap.size w W) => dprint_any n hn W (tb_on hT hW) (tab_on hU hW)
  have k2 := fun W => rprintfloat_any n hn W
  have k3 := fun W (hW : Below w.heap.size w W) => told4_true W (tb_on hT hW) (tab_on hU hW)
  unfold prans at k1 k2
  by_cases hc : cls n = 1
  · rw [if_pos hc] at k1 k2
    refine prints_yes (n : Int) _ w k1 k2 (fun W hW => ?_) k3
    have := dparse_any (ptx n) W (tb_on hT hW)
    rw [dpans_ptx hn hc, vx_of 4 0 (by decide)] at this
    exact this
  · rw [if_neg hc] at k1 k2
    exact prints_no (n : Int) w k1 k2 k3
end Go.Proofs.YtoibaeilbolffaaGreatDoor
