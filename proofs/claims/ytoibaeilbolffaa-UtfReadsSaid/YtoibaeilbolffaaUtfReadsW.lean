/-
  entrepotlaw5.UtfReads answers true for any text, any place, any number.
-/
import Derived.Test.YtoibaeilbolffaaUtfPartsW
import Derived.Test.YtoibaeilbolffaaUtfPut
namespace Go.Proofs.Ytoibaeilbolffaa
open Go.RowKit

set_option maxRecDepth 100000 in
theorem reads_long (s : ByteArray) (p n : Int) (h : 400 < (s.size : Int)) (w : World) :
    Calls Try.prog 3 #[.string s, .int .i64 p, .int .i64 n] w fun e w' => e = .returned (.bool true) ∧ Below w.heap.size w w' := by
  go_enter Try.func3, Try.ntmps3
  go_wp2_with (go_at_call 8; ((with_reducible refine (told5_true _).mono ?_); rintro e w1 ⟨rfl, hb1⟩))
  go_ret
  exact ⟨rfl, hb1⟩
set_option maxHeartbeats 2000000 in
set_option maxRecDepth 4000000 in
theorem reads_core (s P X : ByteArray) (p n A k V : Int) (B : Int) (b : Bool) (h : (s.size : Int) ≤ 400) (hk : n.tmod 500 = k) (w : World)
    (k1 : ∀ W, Calls Try.prog 9 #[.string s, .int .i64 p] W fun e w' => e = .returned (.tuple #[.int .i64 A, .int .i64 B]) ∧ w' = W)
    (k2 : ∀ W, Calls Try.prog 10 #[.string s, .int .i64 p] W fun e w' => e = .returned (.tuple #[.int .i64 A, .int .i64 B]) ∧ w' = W)
    (k3 : ∀ W, Calls Try.prog 11 #[.string s] W fun e w' => e = .returned (.bool b) ∧ w' = W)
    (k4 : ∀ W, Calls Try.prog 12 #[.string s] W fun e w' => e = .returned (.bool b) ∧ w' = W)
    (k5 : ∀ W, Calls Try.prog 13 #[.string s] W fun e w' => e = .returned (.int .i64 V) ∧ w' = W)
    (k6 : ∀ W, Calls Try.prog 14 #[.string s] W fun e w' => e = .returned (.int .i64 V) ∧ w' = W)
    (k7 : ∀ W, Calls Try.prog 15 #[.int .i64 n] W fun e w' => e = .returned (.string P) ∧ w' = W)
    (k8 : ∀ W, Calls Try.prog 16 #[.int .i64 n] W fun e w' => e = .returned (.string P) ∧ Below W.heap.size W w')
    (k9 : ∀ W, Calls Try.prog 17 #[.string s, .int .i64 k] W fun e w' => e = .returned (.string X) ∧ Below W.heap.size W w')
    (k10 : ∀ W, Calls Try.prog 18 #[.string s, .int .i64 k] W fun e w' => e = .returned (.string X) ∧ w' = W) :
    Calls Try.prog 3 #[.string s, .int .i64 p, .int .i64 n] w fun e w' => e = .returned (.bool true) ∧ Below w.heap.size w w' := by
  have K1 := Lib.hid k1; have K2 := Lib.hid k2; have K3 := Lib.hid k3; have K4 := Lib.hid k4; have K5 := Lib.hid k5; have K6 := Lib.hid k6; have K7 := Lib.hid k7; have K8 := Lib.hid k8; have K9 := Lib.hid k9; have K10 := Lib.hid k10; clear k1 k2 k3 k4 k5 k6 k7 k8 k9 k10
  have eP : (P == P) = true := beq_bytes P
  have eX : (X == X) = true := beq_bytes X
  have eb : (b == b) = true := beq_self_eq_true b
  go_enter Try.func3, Try.ntmps3
  go_wp2_with fail
  (with_reducible refine (K1.out _).mono ?_)
  rintro e w' ⟨rfl, rfl⟩
  go_wp2_with fail
  (with_reducible refine (K2.out _).mono ?_)
  rintro e w' ⟨rfl, rfl⟩
  go_wp2_with fail
  go_loop [11] (fun i => ∃ j : Nat, j ≤ s.size ∧ i = .int .i64 (j : Nat)) (fun i => s.size - (intOf i).toNat)
  case atStart => exact ⟨0, Nat.zero_le _, rfl⟩
  case round =>
    obtain ⟨j, hj, rfl⟩ := hrel
    by_cases hlt : j < s.size
    · have C := fun W => next_any s (by omega) (j : Int) W
      have D := fun W => rnext_any s (by omega) (j : Int) W
      unfold nans at C D
      generalize unc (uat s (j : Int)) = c at C D
      generalize (((unn (uat s (j : Int))) : Nat) : Int) = m at C D
      have HC := Lib.hid C; have HD := Lib.hid D; clear C D
      go_wp2_with fail
      (with_reducible refine (HC.out _).mono ?_)
      rintro e w' ⟨rfl, rfl⟩
      go_wp2_with fail
      (with_reducible refine (HD.out _).mono ?_)
      rintro e w' ⟨rfl, rfl⟩
      go_wp2
      go_round
      case rel => exact ⟨j + 1, by omega, by go_num⟩
      case measure => simp [intOf]; omega
    · go_wp2_with fail
      (with_reducible refine (told5_true _).mono ?_)
      rintro e w1 ⟨rfl, hb1⟩
      go_wp2_with fail
      (with_reducible refine (K3.out _).mono ?_)
      rintro e w' ⟨rfl, rfl⟩
      go_wp2_with fail
      (with_reducible refine (K4.out _).mono ?_)
      rintro e w' ⟨rfl, rfl⟩
      go_wp2_with fail
      (with_reducible refine (K5.out _).mono ?_)
      rintro e w' ⟨rfl, rfl⟩
      go_wp2_with fail
      (with_reducible refine (K6.out _).mono ?_)
      rintro e w' ⟨rfl, rfl⟩
      go_wp2_with fail
      (with_reducible refine (K7.out _).mono ?_)
      rintro e w' ⟨rfl, rfl⟩
      go_wp2_with fail
      (with_reducible refine (K8.out _).mono ?_)
      rintro e w2 ⟨rfl, hb2⟩
      go_wp2_with fail
      (with_reducible refine (K9.out _).mono ?_)
      rintro e w3 ⟨rfl, hb3⟩
      go_wp2_with fail
      (with_reducible refine (K10.out _).mono ?_)
      rintro e w' ⟨rfl, rfl⟩
      go_wp2
      go_ret
      exact ⟨rfl, ubtr (ubtr hb1 hb2) hb3⟩
theorem reads_any (s : ByteArray) (p n : Int) (w : World) :
    Calls Try.prog 3 #[.string s, .int .i64 p, .int .i64 n] w fun e w' => e = .returned (.bool true) ∧ Below w.heap.size w w' := by
  by_cases h : 400 < (s.size : Int)
  · exact reads_long s p n h w
  · have hm : s.size ≤ 140737488351232 := by omega
    have h5 : -500 < n.tmod 500 ∧ n.tmod 500 < 500 := by
      have h1 := Int.natAbs_tmod n 500
      rw [show (500 : Int).natAbs = 500 from rfl] at h1
      omega
    exact reads_core s _ _ p n _ _ _ _ _ (by omega) rfl w (fun W => next_any s hm p W) (fun W => rnext_any s hm p W) (fun W => valid_any s hm W) (fun W => rvalid_any s hm W) (fun W => count_any s hm W) (fun W => rcount_any s hm W) (fun W => put_any n W) (fun W => rput_any n W)
      (fun W => cut_any s hm (n.tmod 500) (by omega) (by omega) W) (fun W => rcut_any s hm (n.tmod 500) (by omega) (by omega) W)
end Go.Proofs.Ytoibaeilbolffaa
