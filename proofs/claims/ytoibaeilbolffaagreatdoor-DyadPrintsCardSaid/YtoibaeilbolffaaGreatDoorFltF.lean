/-
  float.Class, May: the contracts, for every word of 64 bits.
-/
import Derived.Test.YtoibaeilbolffaaGreatDoorFltE
namespace Go.Proofs.YtoibaeilbolffaaGreatDoor
open Go.RowKit Go.Shelf Go.Sort
attribute [local go_sem ↓] eql_nat neq_nat eql_int5 neq_int5

set_option maxRecDepth 100000 in
theorem class_nan (b : Int) 
    (k1 : ∀ W, Calls Tryz.prog 54 #[.int .u64 b] W fun e w' => e = .returned (.bool true) ∧ w' = W) (w : World) :
    Calls Tryz.prog 25 #[.int .u64 b] w fun e w' => e = .returned (.int .i64 16) ∧ Below w.heap.size w w' := by
  have K1 := Lib.hid k1; clear k1
  go_enter Tryz.func25, Tryz.ntmps25
  go_wp2_with fail
  refine (K1.out _).mono ?_
  rintro e w1 ⟨rfl, hw⟩
  rw [hw]; clear hw w1
  go_wp2
  go_ret
  exact ⟨rfl, Below.refl _ _⟩

set_option maxRecDepth 100000 in
theorem class_inf (b : Int) (hb : (b == 9218868437227405312) = true)
    (k1 : ∀ W, Calls Tryz.prog 54 #[.int .u64 b] W fun e w' => e = .returned (.bool false) ∧ w' = W) (w : World) :
    Calls Tryz.prog 25 #[.int .u64 b] w fun e w' => e = .returned (.int .i64 4) ∧ Below w.heap.size w w' := by
  have K1 := Lib.hid k1; clear k1
  go_enter Tryz.func25, Tryz.ntmps25
  go_wp2_with fail
  refine (K1.out _).mono ?_
  rintro e w1 ⟨rfl, hw⟩
  rw [hw]; clear hw w1
  go_wp2
  go_ret
  exact ⟨rfl, Below.refl _ _⟩

set_option maxRecDepth 100000 in
theorem class_neg (b : Int) (ha : (b == 9218868437227405312) = false) (hb : (b == 18442240474082181120) = true)
    (k1 : ∀ W, Calls Tryz.prog 54 #[.int .u64 b] W fun e w' => e = .returned (.bool false) ∧ w' = W) (w : World) :
    Calls Tryz.prog 25 #[.int .u64 b] w fun e w' => e = .returned (.int .i64 8) ∧ Below w.heap.size w w' := by
  have K1 := Lib.hid k1; clear k1
  go_enter Tryz.func25, Tryz.ntmps25
  go_wp2_with fail
  refine (K1.out _).mono ?_
  rintro e w1 ⟨rfl, hw⟩
  rw [hw]; clear hw w1
  go_wp2
  go_ret
  exact ⟨rfl, Below.refl _ _⟩

set_option maxRecDepth 100000 in
theorem class_whole (b : Int) (ha : (b == 9218868437227405312) = false) (hb : (b == 18442240474082181120) = false) (g : Bool) (x0 x1 x2 x3 : Int)
    (k1 : ∀ W, Calls Tryz.prog 54 #[.int .u64 b] W fun e w' => e = .returned (.bool false) ∧ w' = W)
    (k2 : ∀ W, Tb W → Calls Tryz.prog 27 #[.int .u64 b] W fun e w' => e = .returned (.tuple #[.agg #[.bool g, .int .u64 x0, .int .u64 x1, .int .u64 x2, .int .u64 x3], .bool true]) ∧ Below W.heap.size W w') (w : World) (hT : Tb w) :
    Calls Tryz.prog 25 #[.int .u64 b] w fun e w' => e = .returned (.int .i64 0) ∧ Below w.heap.size w w' := by
  have K1 := Lib.hid k1; clear k1
  have K2 := Lib.hid k2; clear k2
  have HT := Lib.hid hT; clear hT
  go_enter Tryz.func25, Tryz.ntmps25
  go_wp2_with fail
  refine (K1.out _).mono ?_
  rintro e w1 ⟨rfl, hw⟩
  rw [hw]; clear hw w1
  go_wp2_with fail
  refine (K2.out _ (tb_on HT.out (by repeat (first | (with_reducible exact Below.refl _ _) | (with_reducible refine bal ?_ _) | (with_reducible refine Below.drew ?_) | (with_reducible refine bdn ?_ _))))).mono ?_
  rintro e w2 ⟨rfl, hb⟩
  have BW : Below w.heap.size w w2 := btr (by repeat (first | (with_reducible exact Below.refl _ _) | (with_reducible refine bal ?_ _) | (with_reducible refine Below.drew ?_) | (with_reducible refine bdn ?_ _))) hb
  clear hb
  go_wp2
  go_ret
  exact ⟨rfl, by repeat (first | (with_reducible exact BW) | (with_reducible refine bal ?_ _) | (with_reducible refine Below.drew ?_) | (with_reducible refine bdn ?_ _))⟩

set_option maxRecDepth 100000 in
theorem class_fine0 (b : Int) (ha : (b == 9218868437227405312) = false) (hb : (b == 18442240474082181120) = false) (g : Bool) (x0 x1 x2 x3 : Int) (k : Int) (h0 : (k == 0) = true)
    (k1 : ∀ W, Calls Tryz.prog 54 #[.int .u64 b] W fun e w' => e = .returned (.bool false) ∧ w' = W)
    (k2 : ∀ W, Tb W → Calls Tryz.prog 27 #[.int .u64 b] W fun e w' => e = .returned (.tuple #[.agg #[.bool g, .int .u64 x0, .int .u64 x1, .int .u64 x2, .int .u64 x3], .bool false]) ∧ Below W.heap.size W w')
    (k3 : ∀ W, Tb W → Calls Tryz.prog 26 #[.int .u64 b] W fun e w' => e = .returned (.int .i64 k) ∧ w' = W) (w : World) (hT : Tb w) :
    Calls Tryz.prog 25 #[.int .u64 b] w fun e w' => e = .returned (.int .i64 2) ∧ Below w.heap.size w w' := by
  have K1 := Lib.hid k1; clear k1
  have K2 := Lib.hid k2; clear k2
  have K3 := Lib.hid k3; clear k3
  have HT := Lib.hid hT; clear hT
  go_enter Tryz.func25, Tryz.ntmps25
  go_wp2_with fail
  refine (K1.out _).mono ?_
  rintro e w1 ⟨rfl, hw⟩
  rw [hw]; clear hw w1
  go_wp2_with fail
  refine (K2.out _ (tb_on HT.out (by repeat (first | (with_reducible exact Below.refl _ _) | (with_reducible refine bal ?_ _) | (with_reducible refine Below.drew ?_) | (with_reducible refine bdn ?_ _))))).mono ?_
  rintro e w2 ⟨rfl, hb⟩
  have BW : Below w.heap.size w w2 := btr (by repeat (first | (with_reducible exact Below.refl _ _) | (with_reducible refine bal ?_ _) | (with_reducible refine Below.drew ?_) | (with_reducible refine bdn ?_ _))) hb
  clear hb
  go_wp2_with fail
  refine (K3.out _ (tb_on HT.out (by repeat (first | (with_reducible exact BW) | (with_reducible refine bal ?_ _) | (with_reducible refine Below.drew ?_) | (with_reducible refine bdn ?_ _))))).mono ?_
  rintro e w3 ⟨rfl, hw⟩
  rw [hw]; clear hw w3
  go_wp2
  all_goals
    go_ret
    exact ⟨rfl, by repeat (first | (with_reducible exact BW) | (with_reducible refine bal ?_ _) | (with_reducible refine Below.drew ?_) | (with_reducible refine bdn ?_ _))⟩

set_option maxRecDepth 100000 in
theorem class_fine (b : Int) (ha : (b == 9218868437227405312) = false) (hb : (b == 18442240474082181120) = false) (g : Bool) (x0 x1 x2 x3 : Int) (k : Int) (h0 : (k == 0) = false) (h1 : 64 < k)
    (k1 : ∀ W, Calls Tryz.prog 54 #[.int .u64 b] W fun e w' => e = .returned (.bool false) ∧ w' = W)
    (k2 : ∀ W, Tb W → Calls Tryz.prog 27 #[.int .u64 b] W fun e w' => e = .returned (.tuple #[.agg #[.bool g, .int .u64 x0, .int .u64 x1, .int .u64 x2, .int .u64 x3], .bool false]) ∧ Below W.heap.size W w')
    (k3 : ∀ W, Tb W → Calls Tryz.prog 26 #[.int .u64 b] W fun e w' => e = .returned (.int .i64 k) ∧ w' = W) (w : World) (hT : Tb w) :
    Calls Tryz.prog 25 #[.int .u64 b] w fun e w' => e = .returned (.int .i64 2) ∧ Below w.heap.size w w' := by
  have K1 := Lib.hid k1; clear k1
  have K2 := Lib.hid k2; clear k2
  have K3 := Lib.hid k3; clear k3
  have HT := Lib.hid hT; clear hT
  go_enter Tryz.func25, Tryz.ntmps25
  go_wp2_with fail
  refine (K1.out _).mono ?_
  rintro e w1 ⟨rfl, hw⟩
  rw [hw]; clear hw w1
  go_wp2_with fail
  refine (K2.out _ (tb_on HT.out (by repeat (first | (with_reducible exact Below.refl _ _) | (with_reducible refine bal ?_ _) | (with_reducible refine Below.drew ?_) | (with_reducible refine bdn ?_ _))))).mono ?_
  rintro e w2 ⟨rfl, hb⟩
  have BW : Below w.heap.size w w2 := btr (by repeat (first | (with_reducible exact Below.refl _ _) | (with_reducible refine bal ?_ _) | (with_reducible refine Below.drew ?_) | (with_reducible refine bdn ?_ _))) hb
  clear hb
  go_wp2_with fail
  refine (K3.out _ (tb_on HT.out (by repeat (first | (with_reducible exact BW) | (with_reducible refine bal ?_ _) | (with_reducible refine Below.drew ?_) | (with_reducible refine bdn ?_ _))))).mono ?_
  rintro e w3 ⟨rfl, hw⟩
  rw [hw]; clear hw w3
  go_wp2
  all_goals
    go_ret
    exact ⟨rfl, by repeat (first | (with_reducible exact BW) | (with_reducible refine bal ?_ _) | (with_reducible refine Below.drew ?_) | (with_reducible refine bdn ?_ _))⟩

set_option maxRecDepth 100000 in
theorem class_plain (b : Int) (ha : (b == 9218868437227405312) = false) (hb : (b == 18442240474082181120) = false) (g : Bool) (x0 x1 x2 x3 : Int) (k : Int) (h0 : (k == 0) = false) (h1 : k ≤ 64)
    (k1 : ∀ W, Calls Tryz.prog 54 #[.int .u64 b] W fun e w' => e = .returned (.bool false) ∧ w' = W)
    (k2 : ∀ W, Tb W → Calls Tryz.prog 27 #[.int .u64 b] W fun e w' => e = .returned (.tuple #[.agg #[.bool g, .int .u64 x0, .int .u64 x1, .int .u64 x2, .int .u64 x3], .bool false]) ∧ Below W.heap.size W w')
    (k3 : ∀ W, Tb W → Calls Tryz.prog 26 #[.int .u64 b] W fun e w' => e = .returned (.int .i64 k) ∧ w' = W) (w : World) (hT : Tb w) :
    Calls Tryz.prog 25 #[.int .u64 b] w fun e w' => e = .returned (.int .i64 1) ∧ Below w.heap.size w w' := by
  have K1 := Lib.hid k1; clear k1
  have K2 := Lib.hid k2; clear k2
  have K3 := Lib.hid k3; clear k3
  have HT := Lib.hid hT; clear hT
  go_enter Tryz.func25, Tryz.ntmps25
  go_wp2_with fail
  refine (K1.out _).mono ?_
  rintro e w1 ⟨rfl, hw⟩
  rw [hw]; clear hw w1
  go_wp2_with fail
  refine (K2.out _ (tb_on HT.out (by repeat (first | (with_reducible exact Below.refl _ _) | (with_reducible refine bal ?_ _) | (with_reducible refine Below.drew ?_) | (with_reducible refine bdn ?_ _))))).mono ?_
  rintro e w2 ⟨rfl, hb⟩
  have BW : Below w.heap.size w w2 := btr (by repeat (first | (with_reducible exact Below.refl _ _) | (with_reducible refine bal ?_ _) | (with_reducible refine Below.drew ?_) | (with_reducible refine bdn ?_ _))) hb
  clear hb
  go_wp2_with fail
  refine (K3.out _ (tb_on HT.out (by repeat (first | (with_reducible exact BW) | (with_reducible refine bal ?_ _) | (with_reducible refine Below.drew ?_) | (with_reducible refine bdn ?_ _))))).mono ?_
  rintro e w3 ⟨rfl, hw⟩
  rw [hw]; clear hw w3
  go_wp2
  all_goals
    go_ret
    exact ⟨rfl, by repeat (first | (with_reducible exact BW) | (with_reducible refine bal ?_ _) | (with_reducible refine Below.drew ?_) | (with_reducible refine bdn ?_ _))⟩

theorem calls_below {f : FuncId} {args : Array Value} {w : World} {r : Ending} (h : Calls Tryz.prog f args w fun e w' => e = r ∧ w' = w) : Calls Tryz.prog f args w fun e w' => e = r ∧ Below w.heap.size w w' :=
  h.mono fun _ _ ⟨he, hw⟩ => ⟨he, by rw [hw]; exact Below.refl _ _⟩
theorem class_any (b : Nat) (hb : b < 18446744073709551616) (w : World) (hT : Tb w) :
    Calls Tryz.prog 25 #[.int .u64 b] w fun e w' => e = .returned (.int .i64 (cls b : Nat)) ∧ Below w.heap.size w w' := by
  have h5 : INF = 9218868437227405312 := rfl
  have hw := word_of b
  have h2 : sg b = 0 ∨ sg b = 1 := by unfold sg; omega
  unfold cls
  by_cases h : INF < rg b
  · rw [if_pos h]
    exact class_nan b (fun W => isnan_yes b hb h W) w
  rw [if_neg h]
  have k1 := fun W => isnan_no b hb h W
  by_cases hi : rg b = INF
  · rw [if_pos hi]
    rcases h2 with h2 | h2
    · rw [if_pos h2]
      exact class_inf b (by rw [beq_iff_eq]; omega) k1 w
    · rw [if_neg (by omega)]
      exact class_neg b (by rw [beq_eq_false_iff_ne]; omega) (by rw [beq_iff_eq]; omega) k1 w
  rw [if_neg hi]
  have ha : ((b : Int) == 9218868437227405312) = false := by rw [beq_eq_false_iff_ne]; intro h3; apply hi; unfold rg; omega
  have hc : ((b : Int) == 18442240474082181120) = false := by rw [beq_eq_false_iff_ne]; intro h3; apply hi; unfold rg; omega
  have hwh := fun W hW => whole_any b hb W hW
  have hbe := fun W hW => behind_any b hb W hW
  unfold WEnd at hwh
  cases hq : whl b with
  | some n =>
    simp only [hq] at hwh
    rw [Option.isSome_some, if_pos rfl]
    exact class_whole b ha hc _ _ _ _ _ k1 hwh w hT
  | none =>
    simp only [hq] at hwh
    rw [Option.isSome_none, if_neg (by decide)]
    by_cases z : beh b = 0
    · rw [if_pos (.inl z)]
      exact class_fine0 b ha hc _ _ _ _ _ _ (by rw [beq_iff_eq]; omega) k1 hwh hbe w hT
    · by_cases z2 : 64 < beh b
      · rw [if_pos (.inr z2)]
        exact class_fine b ha hc _ _ _ _ _ _ (by rw [beq_eq_false_iff_ne]; omega) (show (64 : Int) < ((beh b : Nat) : Int) by omega) k1 hwh hbe w hT
      · rw [if_neg (fun hh => hh.elim z z2)]
        exact class_plain b ha hc _ _ _ _ _ _ (by rw [beq_eq_false_iff_ne]; omega) (show ((beh b : Nat) : Int) ≤ 64 by omega) k1 hwh hbe w hT

/-- What May answers. -/
def mayF (b : Nat) : Bool := cls b != 0 && can b == b
end Go.Proofs.YtoibaeilbolffaaGreatDoor
