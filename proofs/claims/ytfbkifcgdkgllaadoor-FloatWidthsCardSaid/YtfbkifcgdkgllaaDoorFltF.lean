/-
  float.Class, May: the contracts, for every word of 64 bits.
-/
import Derived.Test.YtfbkifcgdkgllaaDoorFltE
namespace Go.Proofs.YtfbkifcgdkgllaaDoor
open Go.RowKit Go.Shelf Go.Sort
attribute [local go_sem ↓] eql_nat neq_nat eql_int5 neq_int5

set_option maxRecDepth 100000 in
theorem class_nan (b : Int) 
    (k1 : ∀ W, Calls Tryd.prog 93 #[.int .u64 b] W fun e w' => e = .returned (.bool true) ∧ w' = W) (w : World) :
    Calls Tryd.prog 67 #[.int .u64 b] w fun e w' => e = .returned (.int .i64 16) ∧ Below w.heap.size w w' := by
  have K1 := Lib.hid k1; clear k1
  go_enter Tryd.func67, Tryd.ntmps67
  go_wp2_with fail
  refine (K1.out _).mono ?_
  rintro e w1 ⟨rfl, hw⟩
  rw [hw]; clear hw w1
  go_wp2
  go_ret
  exact ⟨rfl, Below.refl _ _⟩

set_option maxRecDepth 100000 in
theorem class_inf (b : Int) (hb : (b == 9218868437227405312) = true)
    (k1 : ∀ W, Calls Tryd.prog 93 #[.int .u64 b] W fun e w' => e = .returned (.bool false) ∧ w' = W) (w : World) :
    Calls Tryd.prog 67 #[.int .u64 b] w fun e w' => e = .returned (.int .i64 4) ∧ Below w.heap.size w w' := by
  have K1 := Lib.hid k1; clear k1
  go_enter Tryd.func67, Tryd.ntmps67
  go_wp2_with fail
  refine (K1.out _).mono ?_
  rintro e w1 ⟨rfl, hw⟩
  rw [hw]; clear hw w1
  go_wp2
  go_ret
  exact ⟨rfl, Below.refl _ _⟩

set_option maxRecDepth 100000 in
theorem class_neg (b : Int) (ha : (b == 9218868437227405312) = false) (hb : (b == 18442240474082181120) = true)
    (k1 : ∀ W, Calls Tryd.prog 93 #[.int .u64 b] W fun e w' => e = .returned (.bool false) ∧ w' = W) (w : World) :
    Calls Tryd.prog 67 #[.int .u64 b] w fun e w' => e = .returned (.int .i64 8) ∧ Below w.heap.size w w' := by
  have K1 := Lib.hid k1; clear k1
  go_enter Tryd.func67, Tryd.ntmps67
  go_wp2_with fail
  refine (K1.out _).mono ?_
  rintro e w1 ⟨rfl, hw⟩
  rw [hw]; clear hw w1
  go_wp2
  go_ret
  exact ⟨rfl, Below.refl _ _⟩

set_option maxRecDepth 100000 in
theorem class_whole (b : Int) (ha : (b == 9218868437227405312) = false) (hb : (b == 18442240474082181120) = false) (g : Bool) (x0 x1 x2 x3 : Int)
    (k1 : ∀ W, Calls Tryd.prog 93 #[.int .u64 b] W fun e w' => e = .returned (.bool false) ∧ w' = W)
    (k2 : ∀ W, Tb W → Calls Tryd.prog 65 #[.int .u64 b] W fun e w' => e = .returned (.tuple #[.agg #[.bool g, .int .u64 x0, .int .u64 x1, .int .u64 x2, .int .u64 x3], .bool true]) ∧ Below W.heap.size W w') (w : World) (hT : Tb w) :
    Calls Tryd.prog 67 #[.int .u64 b] w fun e w' => e = .returned (.int .i64 0) ∧ Below w.heap.size w w' := by
  have K1 := Lib.hid k1; clear k1
  have K2 := Lib.hid k2; clear k2
  have HT := Lib.hid hT; clear hT
  go_enter Tryd.func67, Tryd.ntmps67
  go_wp2_with fail
  refine (K1.out _).mono ?_
  rintro e w1 ⟨rfl, hw⟩
  rw [hw]; clear hw w1
  go_wp2_with fail
  refine (K2.out _ (tb_on HT.out (by repeat (first | (with_reducible exact Below.refl _ _) | (with_reducible refine bal ?_ _) | (with_reducible refine Below.drew ?_) | (with_reducible refine bdn ?_ _))))).mono ?_
  rintro e w2 ⟨rfl, hb⟩
  have BW : Below w.heap.size w w2 := btr (by repeat (first | (with_reducible exact Below.refl _ _) | (with_reducible refine bal ?_ _) | (with_reducible refine Below.drew ?_) | (with_reducible refine bdn ?_ _))) hb
  clear hb
  go_wp2
  go_ret
  exact ⟨rfl, by repeat (first | (with_reducible exact BW) | (with_reducible refine bal ?_ _) | (with_reducible refine Below.drew ?_) | (with_reducible refine bdn ?_ _))⟩

set_option maxRecDepth 100000 in
theorem class_fine0 (b : Int) (ha : (b == 9218868437227405312) = false) (hb : (b == 18442240474082181120) = false) (g : Bool) (x0 x1 x2 x3 : Int) (k : Int) (h0 : (k == 0) = true)
    (k1 : ∀ W, Calls Tryd.prog 93 #[.int .u64 b] W fun e w' => e = .returned (.bool false) ∧ w' = W)
    (k2 : ∀ W, Tb W → Calls Tryd.prog 65 #[.int .u64 b] W fun e w' => e = .returned (.tuple #[.agg #[.bool g, .int .u64 x0, .int .u64 x1, .int .u64 x2, .int .u64 x3], .bool false]) ∧ Below W.heap.size W w')
    (k3 : ∀ W, Tb W → Calls Tryd.prog 98 #[.int .u64 b] W fun e w' => e = .returned (.int .i64 k) ∧ w' = W) (w : World) (hT : Tb w) :
    Calls Tryd.prog 67 #[.int .u64 b] w fun e w' => e = .returned (.int .i64 2) ∧ Below w.heap.size w w' := by
  have K1 := Lib.hid k1; clear k1
  have K2 := Lib.hid k2; clear k2
  have K3 := Lib.hid k3; clear k3
  have HT := Lib.hid hT; clear hT
  go_enter Tryd.func67, Tryd.ntmps67
  go_wp2_with fail
  refine (K1.out _).mono ?_
  rintro e w1 ⟨rfl, hw⟩
  rw [hw]; clear hw w1
  go_wp2_with fail
  refine (K2.out _ (tb_on HT.out (by repeat (first | (with_reducible exact Below.refl _ _) | (with_reducible refine bal ?_ _) | (with_reducible refine Below.drew ?_) | (with_reducible refine bdn ?_ _))))).mono ?_
  rintro e w2 ⟨rfl, hb⟩
  have BW : Below w.heap.size w w2 := btr (by repeat (first | (with_reducible exact Below.refl _ _) | (with_reducible refine bal ?_ _) | (with_reducible refine Below.drew ?_) | (with_reducible refine bdn ?_ _))) hb
  clear hb
  go_wp2_with fail
  refine (K3.out _ (tb_on HT.out (by repeat (first | (with_reducible exact BW) | (with_reducible refine bal ?_ _) | (with_reducible refine Below.drew ?_) | (with_reducible refine bdn ?_ _))))).mono ?_
  rintro e w3 ⟨rfl, hw⟩
  rw [hw]; clear hw w3
  go_wp2
  all_goals
    go_ret
    exact ⟨rfl, by repeat (first | (with_reducible exact BW) | (with_reducible refine bal ?_ _) | (with_reducible refine Below.drew ?_) | (with_reducible refine bdn ?_ _))⟩

set_option maxRecDepth 100000 in
theorem class_fine (b : Int) (ha : (b == 9218868437227405312) = false) (hb : (b == 18442240474082181120) = false) (g : Bool) (x0 x1 x2 x3 : Int) (k : Int) (h0 : (k == 0) = false) (h1 : 64 < k)
    (k1 : ∀ W, Calls Tryd.prog 93 #[.int .u64 b] W fun e w' => e = .returned (.bool false) ∧ w' = W)
    (k2 : ∀ W, Tb W → Calls Tryd.prog 65 #[.int .u64 b] W fun e w' => e = .returned (.tuple #[.agg #[.bool g, .int .u64 x0, .int .u64 x1, .int .u64 x2, .int .u64 x3], .bool false]) ∧ Below W.heap.size W w')
    (k3 : ∀ W, Tb W → Calls Tryd.prog 98 #[.int .u64 b] W fun e w' => e = .returned (.int .i64 k) ∧ w' = W) (w : World) (hT : Tb w) :
    Calls Tryd.prog 67 #[.int .u64 b] w fun e w' => e = .returned (.int .i64 2) ∧ Below w.heap.size w w' := by
  have K1 := Lib.hid k1; clear k1
  have K2 := Lib.hid k2; clear k2
  have K3 := Lib.hid k3; clear k3
  have HT := Lib.hid hT; clear hT
  go_enter Tryd.func67, Tryd.ntmps67
  go_wp2_with fail
  refine (K1.out _).mono ?_
  rintro e w1 ⟨rfl, hw⟩
  rw [hw]; clear hw w1
  go_wp2_with fail
  refine (K2.out _ (tb_on HT.out (by repeat (first | (with_reducible exact Below.refl _ _) | (with_reducible refine bal ?_ _) | (with_reducible refine Below.drew ?_) | (with_reducible refine bdn ?_ _))))).mono ?_
  rintro e w2 ⟨rfl, hb⟩
  have BW : Below w.heap.size w w2 := btr (by repeat (first | (with_reducible exact Below.refl _ _) | (with_reducible refine bal ?_ _) | (with_reducible refine Below.drew ?_) | (with_reducible refine bdn ?_ _))) hb
  clear hb
  go_wp2_with fail
  refine (K3.out _ (tb_on HT.out (by repeat (first | (with_reducible exact BW) | (with_reducible refine bal ?_ _) | (with_reducible refine Below.drew ?_) | (with_reducible refine bdn ?_ _))))).mono ?_
  rintro e w3 ⟨rfl, hw⟩
  rw [hw]; clear hw w3
  go_wp2
  all_goals
    go_ret
    exact ⟨rfl, by repeat (first | (with_reducible exact BW) | (with_reducible refine bal ?_ _) | (with_reducible refine Below.drew ?_) | (with_reducible refine bdn ?_ _))⟩

set_option maxRecDepth 100000 in
theorem class_plain (b : Int) (ha : (b == 9218868437227405312) = false) (hb : (b == 18442240474082181120) = false) (g : Bool) (x0 x1 x2 x3 : Int) (k : Int) (h0 : (k == 0) = false) (h1 : k ≤ 64)
    (k1 : ∀ W, Calls Tryd.prog 93 #[.int .u64 b] W fun e w' => e = .returned (.bool false) ∧ w' = W)
    (k2 : ∀ W, Tb W → Calls Tryd.prog 65 #[.int .u64 b] W fun e w' => e = .returned (.tuple #[.agg #[.bool g, .int .u64 x0, .int .u64 x1, .int .u64 x2, .int .u64 x3], .bool false]) ∧ Below W.heap.size W w')
    (k3 : ∀ W, Tb W → Calls Tryd.prog 98 #[.int .u64 b] W fun e w' => e = .returned (.int .i64 k) ∧ w' = W) (w : World) (hT : Tb w) :
    Calls Tryd.prog 67 #[.int .u64 b] w fun e w' => e = .returned (.int .i64 1) ∧ Below w.heap.size w w' := by
  have K1 := Lib.hid k1; clear k1
  have K2 := Lib.hid k2; clear k2
  have K3 := Lib.hid k3; clear k3
  have HT := Lib.hid hT; clear hT
  go_enter Tryd.func67, Tryd.ntmps67
  go_wp2_with fail
  refine (K1.out _).mono ?_
  rintro e w1 ⟨rfl, hw⟩
  rw [hw]; clear hw w1
  go_wp2_with fail
  refine (K2.out _ (tb_on HT.out (by repeat (first | (with_reducible exact Below.refl _ _) | (with_reducible refine bal ?_ _) | (with_reducible refine Below.drew ?_) | (with_reducible refine bdn ?_ _))))).mono ?_
  rintro e w2 ⟨rfl, hb⟩
  have BW : Below w.heap.size w w2 := btr (by repeat (first | (with_reducible exact Below.refl _ _) | (with_reducible refine bal ?_ _) | (with_reducible refine Below.drew ?_) | (with_reducible refine bdn ?_ _))) hb
  clear hb
  go_wp2_with fail
  refine (K3.out _ (tb_on HT.out (by repeat (first | (with_reducible exact BW) | (with_reducible refine bal ?_ _) | (with_reducible refine Below.drew ?_) | (with_reducible refine bdn ?_ _))))).mono ?_
  rintro e w3 ⟨rfl, hw⟩
  rw [hw]; clear hw w3
  go_wp2
  all_goals
    go_ret
    exact ⟨rfl, by repeat (first | (with_reducible exact BW) | (with_reducible refine bal ?_ _) | (with_reducible refine Below.drew ?_) | (with_reducible refine bdn ?_ _))⟩

theorem calls_below {f : FuncId} {args : Array Value} {w : World} {r : Ending} (h : Calls Tryd.prog f args w fun e w' => e = r ∧ w' = w) : Calls Tryd.prog f args w fun e w' => e = r ∧ Below w.heap.size w w' :=
  h.mono fun _ _ ⟨he, hw⟩ => ⟨he, by rw [hw]; exact Below.refl _ _⟩
theorem class_any (b : Nat) (hb : b < 18446744073709551616) (w : World) (hT : Tb w) :
    Calls Tryd.prog 67 #[.int .u64 b] w fun e w' => e = .returned (.int .i64 (cls b : Nat)) ∧ Below w.heap.size w w' := by
  have h5 : INF = 9218868437227405312 := rfl
  have hw := word_of b
  have h2 : sg b = 0 ∨ sg b = 1 := by unfold sg; omega
  unfold cls
  by_cases h : INF < rg b
  · rw [if_pos h]
    exact class_nan b (fun W => isnan_yes b hb h W) w
  rw [if_neg h]
  have k1 := fun W => isnan_no b hb h W
  by_cases hi : rg b = INF
  · rw [if_pos hi]
    rcases h2 with h2 | h2
    · rw [if_pos h2]
      exact class_inf b (by rw [beq_iff_eq]; omega) k1 w
    · rw [if_neg (by omega)]
      exact class_neg b (by rw [beq_eq_false_iff_ne]; omega) (by rw [beq_iff_eq]; omega) k1 w
  rw [if_neg hi]
  have ha : ((b : Int) == 9218868437227405312) = false := by rw [beq_eq_false_iff_ne]; intro h3; apply hi; unfold rg; omega
  have hc : ((b : Int) == 18442240474082181120) = false := by rw [beq_eq_false_iff_ne]; intro h3; apply hi; unfold rg; omega
  have hwh := fun W hW => whole_any b hb W hW
  have hbe := fun W hW => behind_any b hb W hW
  unfold WEnd at hwh
  cases hq : whl b with
  | some n =>
    simp only [hq] at hwh
    rw [Option.isSome_some, if_pos rfl]
    exact class_whole b ha hc _ _ _ _ _ k1 hwh w hT
  | none =>
    simp only [hq] at hwh
    rw [Option.isSome_none, if_neg (by decide)]
    by_cases z : beh b = 0
    · rw [if_pos (.inl z)]
      exact class_fine0 b ha hc _ _ _ _ _ _ (by rw [beq_iff_eq]; omega) k1 hwh hbe w hT
    · by_cases z2 : 64 < beh b
      · rw [if_pos (.inr z2)]
        exact class_fine b ha hc _ _ _ _ _ _ (by rw [beq_eq_false_iff_ne]; omega) (show (64 : Int) < ((beh b : Nat) : Int) by omega) k1 hwh hbe w hT
      · rw [if_neg (fun hh => hh.elim z z2)]
        exact class_plain b ha hc _ _ _ _ _ _ (by rw [beq_eq_false_iff_ne]; omega) (show ((beh b : Nat) : Int) ≤ 64 by omega) k1 hwh hbe w hT

theorem may_zero (b : Int) 
    (k1 : ∀ W, Tb W → Calls Tryd.prog 67 #[.int .u64 b] W fun e w' => e = .returned (.int .i64 0) ∧ Below W.heap.size W w') (w : World) (hT : Tb w) :
    Calls Tryd.prog 68 #[.int .u64 b] w fun e w' => e = .returned (.bool false) ∧ Below w.heap.size w w' := by
  have K1 := Lib.hid k1; clear k1
  have HT := Lib.hid hT; clear hT
  go_enter Tryd.func68, Tryd.ntmps68
  go_wp2_with fail
  refine (K1.out _ HT.out).mono ?_
  rintro e w2 ⟨rfl, hb⟩
  have BW : Below w.heap.size w w2 := btr (by repeat (first | (with_reducible exact Below.refl _ _) | (with_reducible refine bal ?_ _) | (with_reducible refine Below.drew ?_) | (with_reducible refine bdn ?_ _))) hb
  clear hb
  go_wp2
  go_ret
  exact ⟨rfl, by repeat (first | (with_reducible exact BW) | (with_reducible refine bal ?_ _) | (with_reducible refine Below.drew ?_) | (with_reducible refine bdn ?_ _))⟩

theorem may_some (b : Int) (k d : Int) (h1 : (k != 0) = true)
    (k1 : ∀ W, Tb W → Calls Tryd.prog 67 #[.int .u64 b] W fun e w' => e = .returned (.int .i64 k) ∧ Below W.heap.size W w')
    (k2 : ∀ W, Calls Tryd.prog 101 #[.int .u64 b] W fun e w' => e = .returned (.int .u64 d) ∧ w' = W) (w : World) (hT : Tb w) :
    Calls Tryd.prog 68 #[.int .u64 b] w fun e w' => e = .returned (.bool (d == b)) ∧ Below w.heap.size w w' := by
  have K1 := Lib.hid k1; clear k1
  have K2 := Lib.hid k2; clear k2
  have HT := Lib.hid hT; clear hT
  go_enter Tryd.func68, Tryd.ntmps68
  go_wp2_with fail
  refine (K1.out _ HT.out).mono ?_
  rintro e w2 ⟨rfl, hb⟩
  have BW : Below w.heap.size w w2 := btr (by repeat (first | (with_reducible exact Below.refl _ _) | (with_reducible refine bal ?_ _) | (with_reducible refine Below.drew ?_) | (with_reducible refine bdn ?_ _))) hb
  clear hb
  go_wp2_with fail
  refine (K2.out _).mono ?_
  rintro e w3 ⟨rfl, hw⟩
  rw [hw]; clear hw w3
  go_wp2
  go_ret
  exact ⟨rfl, by repeat (first | (with_reducible exact BW) | (with_reducible refine bal ?_ _) | (with_reducible refine Below.drew ?_) | (with_reducible refine bdn ?_ _))⟩

/-- What May answers. -/
def mayF (b : Nat) : Bool := cls b != 0 && can b == b
theorem fmay_any (b : Nat) (hb : b < 18446744073709551616) (w : World) (hT : Tb w) :
    Calls Tryd.prog 68 #[.int .u64 b] w fun e w' => e = .returned (.bool (mayF b)) ∧ Below w.heap.size w w' := by
  have hc := fun W hW => class_any b hb W hW
  have hd := fun W => canon_any b hb W
  unfold mayF
  by_cases h : cls b = 0
  · rw [h] at hc
    rw [h]
    exact may_zero b hc w hT
  · have e : (cls b != 0 && can b == b) = (((can b : Nat) : Int) == (b : Int)) := by
      rw [Bool.eq_iff_iff, Bool.and_eq_true, bne_iff_ne, beq_iff_eq, beq_iff_eq]
      omega
    rw [e]
    exact may_some b _ _ (by rw [bne_iff_ne]; omega) hc hd w hT
set_option maxHeartbeats 1000000 in
set_option maxRecDepth 100000 in
theorem told3_core (w : World)
    (k1 : ∀ W, Below w.heap.size w W → Calls Tryd.prog 65 #[.int .u64 4607182418800017408] W fun e w' => e = .returned (.tuple #[.agg #[.bool false, .int .u64 1, .int .u64 0, .int .u64 0, .int .u64 0], .bool true]) ∧ Below W.heap.size W w')
    (k2 : ∀ W, Calls Tryd.prog 57 #[.int .u64 4607182418800017408] W fun e w' => e = .returned (.tuple #[.int .u16 15360, .bool true]) ∧ Below W.heap.size W w')
    (k3 : ∀ W, Calls Tryd.prog 30 #[.int .i64 1] W fun e w' => e = .returned (.agg #[.bool false, .int .u64 1, .int .u64 0, .int .u64 0, .int .u64 0]) ∧ Below W.heap.size W w')
    (k4 : ∀ W, Calls Tryd.prog 60 #[.int .u16 15360] W fun e w' => e = .returned (.int .u64 4607182418800017408) ∧ Below W.heap.size W w')
    (k5 : ∀ W, Below w.heap.size w W → Calls Tryd.prog 67 #[.int .u64 4602678819172646912] W fun e w' => e = .returned (.int .i64 1) ∧ Below W.heap.size W w')
    (k6 : ∀ W, Below w.heap.size w W → Calls Tryd.prog 67 #[.int .u64 4607182418800017408] W fun e w' => e = .returned (.int .i64 0) ∧ Below W.heap.size W w')
    (k7 : ∀ W, Below w.heap.size w W → Calls Tryd.prog 98 #[.int .u64 4602678819172646912] W fun e w' => e = .returned (.int .i64 1) ∧ Below W.heap.size W w') :
    Calls Tryd.prog 59 #[] w fun e w' => e = .returned (.bool true) ∧ Below w.heap.size w w' := by
  have K1 := Lib.hid k1; clear k1
  have K2 := Lib.hid k2; clear k2
  have K3 := Lib.hid k3; clear k3
  have K4 := Lib.hid k4; clear k4
  have K5 := Lib.hid k5; clear k5
  have K6 := Lib.hid k6; clear k6
  have K7 := Lib.hid k7; clear k7
  have hq : eq5 false 1 0 0 0 false 1 0 0 0 = true := by decide
  have HQ := Lib.hid hq; clear hq
  go_enter Tryd.func59, Tryd.ntmps59
  go_wp2_with fail
  refine (K1.out _ (by repeat (first | (with_reducible exact Below.refl _ _) | (with_reducible refine bal ?_ _) | (with_reducible refine Below.drew ?_) | (with_reducible refine bdn ?_ _)))).mono ?_
  rintro e w1 ⟨rfl, hb⟩
  have BW1 : Below w.heap.size w w1 := btr (by repeat (first | (with_reducible exact Below.refl _ _) | (with_reducible refine bal ?_ _) | (with_reducible refine Below.drew ?_) | (with_reducible refine bdn ?_ _))) hb
  clear hb
  go_wp2_with fail
  (with_reducible refine (K2.out _).mono ?_)
  rintro e w2 ⟨rfl, hb⟩
  have BW2 : Below w.heap.size w w2 := btr (by repeat (first | (with_reducible exact BW1) | (with_reducible refine bal ?_ _) | (with_reducible refine Below.drew ?_) | (with_reducible refine bdn ?_ _))) hb
  have A2 : Row5 w2 w1.heap.size (.bool false) (.int .u64 1) (.int .u64 0) (.int .u64 0) (.int .u64 0) := Row5.keep hb (by repeat (first | (with_reducible exact Row5.new _ _ _ _ _ _) | ((with_reducible refine Row5.new' _ ?_ _ _ _ _ _); (simp; done)) | (with_reducible refine Row5.alloc ?_ _) | (with_reducible refine Row5.drew ?_)))
  clear BW1
  clear hb
  go_upto_region 4 with (fail)
  go_name_world w3 hw3
  have BW3 : Below w.heap.size w w3 := by rw [← hw3]; repeat (first | (with_reducible exact BW2) | (with_reducible refine bal ?_ _) | (with_reducible refine Below.drew ?_) | (with_reducible refine bdn ?_ _))
  have A3 : Row5 w3 w1.heap.size (.bool false) (.int .u64 1) (.int .u64 0) (.int .u64 0) (.int .u64 0) := by rw [← hw3]; exact (by repeat (first | (with_reducible exact A2) | (with_reducible refine Row5.alloc ?_ _) | (with_reducible refine Row5.drew ?_)))
  clear A2
  clear BW2
  clear hw3
  have hq := HQ.out
  obtain ⟨qA0, qA1, qA2, qA3, qA4⟩ := A3.parts
  have gA0 := cell_regrown qA0
  have gA1 := cell_regrown qA1
  have gA2 := cell_regrown qA2
  have gA3 := cell_regrown qA3
  have gA4 := cell_regrown qA4
  clear qA0 qA1 qA2 qA3 qA4
  have cq0 := fun (d : Nat) (os : Array Obj) => Calls.regrown_of (w := w3) (d := d) (os := os) (K3.out _)
  have cq1 := fun (d : Nat) (os : Array Obj) => Calls.regrown_of (w := w3) (d := d) (os := os) (K4.out _)
  have cq2 := fun (d : Nat) (os : Array Obj) => Calls.regrown_of (w := w3) (d := d) (os := os) (K5.out _ (btr BW3 (below_regrown w3 d os)))
  have cq3 := fun (d : Nat) (os : Array Obj) => Calls.regrown_of (w := w3) (d := d) (os := os) (K6.out _ (btr BW3 (below_regrown w3 d os)))
  have cq4 := fun (d : Nat) (os : Array Obj) => Calls.regrown_of (w := w3) (d := d) (os := os) (K7.out _ (btr BW3 (below_regrown w3 d os)))
  refine wp_region_quiet_below (by kernel_rfl) (by kernel_rfl) ?_
  repeat (first | go_big_quiet_step ((first | (with_reducible exact cq0 _ _) | (with_reducible exact cq1 _ _) | (with_reducible exact cq2 _ _) | (with_reducible exact cq3 _ _) | (with_reducible exact cq4 _ _))) | quiet_step (first | (with_reducible exact cq0 _ _) | (with_reducible exact cq1 _ _) | (with_reducible exact cq2 _ _) | (with_reducible exact cq3 _ _) | (with_reducible exact cq4 _ _)))
  refine wpQuiet_nil ?_
  intro _ hw'
  obtain ⟨⟨dq, osq⟩, hw''⟩ := hw'
  subst hw''
  clear gA0 gA1 gA2 gA3 gA4 cq0 cq1 cq2 cq3 cq4
  have hb := below_regrown w3 dq osq
  generalize grow (redrawn w3 dq) osq = w4 at *
  have BW4 : Below w.heap.size w w4 := btr BW3 hb
  have A4 : Row5 w4 w1.heap.size (.bool false) (.int .u64 1) (.int .u64 0) (.int .u64 0) (.int .u64 0) := Row5.keep hb A3
  clear A3 BW3 hb
  go_wp2
  go_ret
  exact ⟨rfl, BW4⟩
end Go.Proofs.YtfbkifcgdkgllaaDoor
