/-
  The reference's Class, MayFloat, Canon: the contracts, for every word of 64 bits.
-/
import Derived.Test.YtgklokjilfeklaaDoorRefFWhole
import Derived.Test.YtgklokjilfeklaaDoorGF
namespace Go.Proofs.YtgklokjilfeklaaDoor
open Go.RowKit Go.Shelf
attribute [local go_sem ↓] eql_nat neq_nat eql_int5 neq_int5

set_option maxHeartbeats 1000000 in
set_option maxRecDepth 100000 in
theorem rcls_whole (b : Int) (g : Bool) (x0 x1 x2 x3 : Int)  (w : World)
    (k1 : ∀ W, Calls Tryd.prog 64 #[.int .u64 b] W fun e w' => e = .returned (.tuple #[.agg #[.bool g, .int .u64 x0, .int .u64 x1, .int .u64 x2, .int .u64 x3], .bool true]) ∧ Below W.heap.size W w') :
    Calls Tryd.prog 41 #[.int .u64 b] w fun e w' => e = .returned (.int .i64 0) ∧ Below w.heap.size w w' := by
  have K1 := Lib.hid k1; clear k1
  go_enter Tryd.func41, Tryd.ntmps41
  go_wp2_with fail
  refine (K1.out _).mono ?_
  rintro e w1 ⟨rfl, hb⟩
  have BW1 : Below w.heap.size w w1 := btr (by repeat (first | (with_reducible exact Below.refl _ _) | (with_reducible refine bal ?_ _) | (with_reducible refine Below.drew ?_) | (with_reducible refine bdn ?_ _))) hb
  clear hb
  go_wp2
  go_ret
  exact ⟨rfl, by repeat (first | (with_reducible exact BW1) | (with_reducible refine bal ?_ _) | (with_reducible refine Below.drew ?_) | (with_reducible refine bdn ?_ _))⟩

set_option maxHeartbeats 1000000 in
set_option maxRecDepth 100000 in
theorem rcls_plain (b : Int) (g : Bool) (x0 x1 x2 x3 : Int) (sg : Bool) (E B : Int) (D : Nat) (h0 : 1 ≤ B) (h1 : B ≤ 64) (w : World)
    (k1 : ∀ W, Calls Tryd.prog 64 #[.int .u64 b] W fun e w' => e = .returned (.tuple #[.agg #[.bool g, .int .u64 x0, .int .u64 x1, .int .u64 x2, .int .u64 x3], .bool false]) ∧ Below W.heap.size W w')
    (k2 : ∀ W, Calls Tryd.prog 65 #[.int .u64 b] W fun e w' => ∃ s', e = .returned (.tuple #[.bool sg, s', .int .i64 E, .bool true]) ∧ DR w' s' D ∧ Below W.heap.size W w')
    (k3 : ∀ W, Calls Tryd.prog 66 #[.int .u64 b] W fun e w' => e = .returned (.int .i64 B) ∧ Below W.heap.size W w') :
    Calls Tryd.prog 41 #[.int .u64 b] w fun e w' => e = .returned (.int .i64 1) ∧ Below w.heap.size w w' := by
  have K1 := Lib.hid k1; clear k1
  have K2 := Lib.hid k2; clear k2
  have K3 := Lib.hid k3; clear k3
  go_enter Tryd.func41, Tryd.ntmps41
  go_wp2_with fail
  refine (K1.out _).mono ?_
  rintro e w1 ⟨rfl, hb⟩
  have BW1 : Below w.heap.size w w1 := btr (by repeat (first | (with_reducible exact Below.refl _ _) | (with_reducible refine bal ?_ _) | (with_reducible refine Below.drew ?_) | (with_reducible refine bdn ?_ _))) hb
  clear hb
  go_wp2_with fail
  refine (K2.out _).mono ?_
  rintro e w2 ⟨s1, rfl, hr, hb⟩
  have hbX : Below w1.heap.size w1 w2 := btr (by repeat (first | (with_reducible exact Below.refl _ _) | (with_reducible refine bal ?_ _) | (with_reducible refine Below.drew ?_) | (with_reducible refine bdn ?_ _))) hb
  clear hbX
  have DD2 : DR w2 s1 D := hr
  clear hr
  have BW2 : Below w.heap.size w w2 := btr (by repeat (first | (with_reducible exact BW1) | (with_reducible refine bal ?_ _) | (with_reducible refine Below.drew ?_) | (with_reducible refine bdn ?_ _))) hb
  clear BW1
  clear hb
  go_wp2_with fail
  refine (K3.out _).mono ?_
  rintro e w3 ⟨rfl, hb⟩
  have hbX : Below w2.heap.size w2 w3 := btr (by repeat (first | (with_reducible exact Below.refl _ _) | (with_reducible refine bal ?_ _) | (with_reducible refine Below.drew ?_) | (with_reducible refine bdn ?_ _))) hb
  have DD3 : DR w3 s1 D := DR.keep hbX DD2
  clear DD2
  clear hbX
  have BW3 : Below w.heap.size w w3 := btr (by repeat (first | (with_reducible exact BW2) | (with_reducible refine bal ?_ _) | (with_reducible refine Below.drew ?_) | (with_reducible refine bdn ?_ _))) hb
  clear BW2
  clear hb
  go_wp2_with fail
  refine (K3.out _).mono ?_
  rintro e w4 ⟨rfl, hb⟩
  have hbX : Below w3.heap.size w3 w4 := btr (by repeat (first | (with_reducible exact Below.refl _ _) | (with_reducible refine bal ?_ _) | (with_reducible refine Below.drew ?_) | (with_reducible refine bdn ?_ _))) hb
  have DD4 : DR w4 s1 D := DR.keep hbX DD3
  clear DD3
  clear hbX
  have BW4 : Below w.heap.size w w4 := btr (by repeat (first | (with_reducible exact BW3) | (with_reducible refine bal ?_ _) | (with_reducible refine Below.drew ?_) | (with_reducible refine bdn ?_ _))) hb
  clear BW3
  clear hb
  go_wp2
  go_ret
  exact ⟨rfl, by repeat (first | (with_reducible exact BW4) | (with_reducible refine bal ?_ _) | (with_reducible refine Below.drew ?_) | (with_reducible refine bdn ?_ _))⟩

set_option maxHeartbeats 1000000 in
set_option maxRecDepth 100000 in
theorem rcls_fine (b : Int) (g : Bool) (x0 x1 x2 x3 : Int) (sg : Bool) (E B : Int) (D : Nat) (h0 : 1 ≤ B) (h1 : 64 < B) (w : World)
    (k1 : ∀ W, Calls Tryd.prog 64 #[.int .u64 b] W fun e w' => e = .returned (.tuple #[.agg #[.bool g, .int .u64 x0, .int .u64 x1, .int .u64 x2, .int .u64 x3], .bool false]) ∧ Below W.heap.size W w')
    (k2 : ∀ W, Calls Tryd.prog 65 #[.int .u64 b] W fun e w' => ∃ s', e = .returned (.tuple #[.bool sg, s', .int .i64 E, .bool true]) ∧ DR w' s' D ∧ Below W.heap.size W w')
    (k3 : ∀ W, Calls Tryd.prog 66 #[.int .u64 b] W fun e w' => e = .returned (.int .i64 B) ∧ Below W.heap.size W w') :
    Calls Tryd.prog 41 #[.int .u64 b] w fun e w' => e = .returned (.int .i64 2) ∧ Below w.heap.size w w' := by
  have K1 := Lib.hid k1; clear k1
  have K2 := Lib.hid k2; clear k2
  have K3 := Lib.hid k3; clear k3
  go_enter Tryd.func41, Tryd.ntmps41
  go_wp2_with fail
  refine (K1.out _).mono ?_
  rintro e w1 ⟨rfl, hb⟩
  have BW1 : Below w.heap.size w w1 := btr (by repeat (first | (with_reducible exact Below.refl _ _) | (with_reducible refine bal ?_ _) | (with_reducible refine Below.drew ?_) | (with_reducible refine bdn ?_ _))) hb
  clear hb
  go_wp2_with fail
  refine (K2.out _).mono ?_
  rintro e w2 ⟨s1, rfl, hr, hb⟩
  have hbX : Below w1.heap.size w1 w2 := btr (by repeat (first | (with_reducible exact Below.refl _ _) | (with_reducible refine bal ?_ _) | (with_reducible refine Below.drew ?_) | (with_reducible refine bdn ?_ _))) hb
  clear hbX
  have DD2 : DR w2 s1 D := hr
  clear hr
  have BW2 : Below w.heap.size w w2 := btr (by repeat (first | (with_reducible exact BW1) | (with_reducible refine bal ?_ _) | (with_reducible refine Below.drew ?_) | (with_reducible refine bdn ?_ _))) hb
  clear BW1
  clear hb
  go_wp2_with fail
  refine (K3.out _).mono ?_
  rintro e w3 ⟨rfl, hb⟩
  have hbX : Below w2.heap.size w2 w3 := btr (by repeat (first | (with_reducible exact Below.refl _ _) | (with_reducible refine bal ?_ _) | (with_reducible refine Below.drew ?_) | (with_reducible refine bdn ?_ _))) hb
  have DD3 : DR w3 s1 D := DR.keep hbX DD2
  clear DD2
  clear hbX
  have BW3 : Below w.heap.size w w3 := btr (by repeat (first | (with_reducible exact BW2) | (with_reducible refine bal ?_ _) | (with_reducible refine Below.drew ?_) | (with_reducible refine bdn ?_ _))) hb
  clear BW2
  clear hb
  go_wp2_with fail
  refine (K3.out _).mono ?_
  rintro e w4 ⟨rfl, hb⟩
  have hbX : Below w3.heap.size w3 w4 := btr (by repeat (first | (with_reducible exact Below.refl _ _) | (with_reducible refine bal ?_ _) | (with_reducible refine Below.drew ?_) | (with_reducible refine bdn ?_ _))) hb
  have DD4 : DR w4 s1 D := DR.keep hbX DD3
  clear DD3
  clear hbX
  have BW4 : Below w.heap.size w w4 := btr (by repeat (first | (with_reducible exact BW3) | (with_reducible refine bal ?_ _) | (with_reducible refine Below.drew ?_) | (with_reducible refine bdn ?_ _))) hb
  clear BW3
  clear hb
  go_wp2
  go_ret
  exact ⟨rfl, by repeat (first | (with_reducible exact BW4) | (with_reducible refine bal ?_ _) | (with_reducible refine Below.drew ?_) | (with_reducible refine bdn ?_ _))⟩

set_option maxHeartbeats 1000000 in
set_option maxRecDepth 100000 in
theorem rcls_big (b : Int) (g : Bool) (x0 x1 x2 x3 : Int) (sg : Bool) (E B : Int) (D : Nat) (h0 : B < 1) (w : World)
    (k1 : ∀ W, Calls Tryd.prog 64 #[.int .u64 b] W fun e w' => e = .returned (.tuple #[.agg #[.bool g, .int .u64 x0, .int .u64 x1, .int .u64 x2, .int .u64 x3], .bool false]) ∧ Below W.heap.size W w')
    (k2 : ∀ W, Calls Tryd.prog 65 #[.int .u64 b] W fun e w' => ∃ s', e = .returned (.tuple #[.bool sg, s', .int .i64 E, .bool true]) ∧ DR w' s' D ∧ Below W.heap.size W w')
    (k3 : ∀ W, Calls Tryd.prog 66 #[.int .u64 b] W fun e w' => e = .returned (.int .i64 B) ∧ Below W.heap.size W w') :
    Calls Tryd.prog 41 #[.int .u64 b] w fun e w' => e = .returned (.int .i64 2) ∧ Below w.heap.size w w' := by
  have K1 := Lib.hid k1; clear k1
  have K2 := Lib.hid k2; clear k2
  have K3 := Lib.hid k3; clear k3
  go_enter Tryd.func41, Tryd.ntmps41
  go_wp2_with fail
  refine (K1.out _).mono ?_
  rintro e w1 ⟨rfl, hb⟩
  have BW1 : Below w.heap.size w w1 := btr (by repeat (first | (with_reducible exact Below.refl _ _) | (with_reducible refine bal ?_ _) | (with_reducible refine Below.drew ?_) | (with_reducible refine bdn ?_ _))) hb
  clear hb
  go_wp2_with fail
  refine (K2.out _).mono ?_
  rintro e w2 ⟨s1, rfl, hr, hb⟩
  have hbX : Below w1.heap.size w1 w2 := btr (by repeat (first | (with_reducible exact Below.refl _ _) | (with_reducible refine bal ?_ _) | (with_reducible refine Below.drew ?_) | (with_reducible refine bdn ?_ _))) hb
  clear hbX
  have DD2 : DR w2 s1 D := hr
  clear hr
  have BW2 : Below w.heap.size w w2 := btr (by repeat (first | (with_reducible exact BW1) | (with_reducible refine bal ?_ _) | (with_reducible refine Below.drew ?_) | (with_reducible refine bdn ?_ _))) hb
  clear BW1
  clear hb
  go_wp2_with fail
  refine (K3.out _).mono ?_
  rintro e w3 ⟨rfl, hb⟩
  have hbX : Below w2.heap.size w2 w3 := btr (by repeat (first | (with_reducible exact Below.refl _ _) | (with_reducible refine bal ?_ _) | (with_reducible refine Below.drew ?_) | (with_reducible refine bdn ?_ _))) hb
  have DD3 : DR w3 s1 D := DR.keep hbX DD2
  clear DD2
  clear hbX
  have BW3 : Below w.heap.size w w3 := btr (by repeat (first | (with_reducible exact BW2) | (with_reducible refine bal ?_ _) | (with_reducible refine Below.drew ?_) | (with_reducible refine bdn ?_ _))) hb
  clear BW2
  clear hb
  go_wp2
  go_ret
  exact ⟨rfl, by repeat (first | (with_reducible exact BW3) | (with_reducible refine bal ?_ _) | (with_reducible refine Below.drew ?_) | (with_reducible refine bdn ?_ _))⟩

set_option maxHeartbeats 1000000 in
set_option maxRecDepth 100000 in
theorem rcls_inf (b : Int) (g : Bool) (x0 x1 x2 x3 : Int) (sg : Bool) (hb : (b == 9218868437227405312) = true) (w : World)
    (k1 : ∀ W, Calls Tryd.prog 64 #[.int .u64 b] W fun e w' => e = .returned (.tuple #[.agg #[.bool g, .int .u64 x0, .int .u64 x1, .int .u64 x2, .int .u64 x3], .bool false]) ∧ Below W.heap.size W w')
    (k2 : ∀ W, Calls Tryd.prog 65 #[.int .u64 b] W fun e w' => e = .returned (.tuple #[.bool sg, .slice none 0 0, .int .i64 0, .bool false]) ∧ Below W.heap.size W w') :
    Calls Tryd.prog 41 #[.int .u64 b] w fun e w' => e = .returned (.int .i64 4) ∧ Below w.heap.size w w' := by
  have K1 := Lib.hid k1; clear k1
  have K2 := Lib.hid k2; clear k2
  go_enter Tryd.func41, Tryd.ntmps41
  go_wp2_with fail
  refine (K1.out _).mono ?_
  rintro e w1 ⟨rfl, hb⟩
  have BW1 : Below w.heap.size w w1 := btr (by repeat (first | (with_reducible exact Below.refl _ _) | (with_reducible refine bal ?_ _) | (with_reducible refine Below.drew ?_) | (with_reducible refine bdn ?_ _))) hb
  clear hb
  go_wp2_with fail
  refine (K2.out _).mono ?_
  rintro e w2 ⟨rfl, hb⟩
  have BW2 : Below w.heap.size w w2 := btr (by repeat (first | (with_reducible exact BW1) | (with_reducible refine bal ?_ _) | (with_reducible refine Below.drew ?_) | (with_reducible refine bdn ?_ _))) hb
  clear BW1
  clear hb
  go_wp2
  go_ret
  exact ⟨rfl, by repeat (first | (with_reducible exact BW2) | (with_reducible refine bal ?_ _) | (with_reducible refine Below.drew ?_) | (with_reducible refine bdn ?_ _))⟩

set_option maxHeartbeats 1000000 in
set_option maxRecDepth 100000 in
theorem rcls_neg (b : Int) (g : Bool) (x0 x1 x2 x3 : Int) (sg : Bool) (ha : (b == 9218868437227405312) = false) (hb : (b == 18442240474082181120) = true) (w : World)
    (k1 : ∀ W, Calls Tryd.prog 64 #[.int .u64 b] W fun e w' => e = .returned (.tuple #[.agg #[.bool g, .int .u64 x0, .int .u64 x1, .int .u64 x2, .int .u64 x3], .bool false]) ∧ Below W.heap.size W w')
    (k2 : ∀ W, Calls Tryd.prog 65 #[.int .u64 b] W fun e w' => e = .returned (.tuple #[.bool sg, .slice none 0 0, .int .i64 0, .bool false]) ∧ Below W.heap.size W w') :
    Calls Tryd.prog 41 #[.int .u64 b] w fun e w' => e = .returned (.int .i64 8) ∧ Below w.heap.size w w' := by
  have K1 := Lib.hid k1; clear k1
  have K2 := Lib.hid k2; clear k2
  go_enter Tryd.func41, Tryd.ntmps41
  go_wp2_with fail
  refine (K1.out _).mono ?_
  rintro e w1 ⟨rfl, hb⟩
  have BW1 : Below w.heap.size w w1 := btr (by repeat (first | (with_reducible exact Below.refl _ _) | (with_reducible refine bal ?_ _) | (with_reducible refine Below.drew ?_) | (with_reducible refine bdn ?_ _))) hb
  clear hb
  go_wp2_with fail
  refine (K2.out _).mono ?_
  rintro e w2 ⟨rfl, hb⟩
  have BW2 : Below w.heap.size w w2 := btr (by repeat (first | (with_reducible exact BW1) | (with_reducible refine bal ?_ _) | (with_reducible refine Below.drew ?_) | (with_reducible refine bdn ?_ _))) hb
  clear BW1
  clear hb
  go_wp2
  go_ret
  exact ⟨rfl, by repeat (first | (with_reducible exact BW2) | (with_reducible refine bal ?_ _) | (with_reducible refine Below.drew ?_) | (with_reducible refine bdn ?_ _))⟩

set_option maxHeartbeats 1000000 in
set_option maxRecDepth 100000 in
theorem rcls_nan (b : Int) (g : Bool) (x0 x1 x2 x3 : Int) (sg : Bool) (ha : (b == 9218868437227405312) = false) (hb : (b == 18442240474082181120) = false) (w : World)
    (k1 : ∀ W, Calls Tryd.prog 64 #[.int .u64 b] W fun e w' => e = .returned (.tuple #[.agg #[.bool g, .int .u64 x0, .int .u64 x1, .int .u64 x2, .int .u64 x3], .bool false]) ∧ Below W.heap.size W w')
    (k2 : ∀ W, Calls Tryd.prog 65 #[.int .u64 b] W fun e w' => e = .returned (.tuple #[.bool sg, .slice none 0 0, .int .i64 0, .bool false]) ∧ Below W.heap.size W w') :
    Calls Tryd.prog 41 #[.int .u64 b] w fun e w' => e = .returned (.int .i64 16) ∧ Below w.heap.size w w' := by
  have K1 := Lib.hid k1; clear k1
  have K2 := Lib.hid k2; clear k2
  go_enter Tryd.func41, Tryd.ntmps41
  go_wp2_with fail
  refine (K1.out _).mono ?_
  rintro e w1 ⟨rfl, hb⟩
  have BW1 : Below w.heap.size w w1 := btr (by repeat (first | (with_reducible exact Below.refl _ _) | (with_reducible refine bal ?_ _) | (with_reducible refine Below.drew ?_) | (with_reducible refine bdn ?_ _))) hb
  clear hb
  go_wp2_with fail
  refine (K2.out _).mono ?_
  rintro e w2 ⟨rfl, hb⟩
  have BW2 : Below w.heap.size w w2 := btr (by repeat (first | (with_reducible exact BW1) | (with_reducible refine bal ?_ _) | (with_reducible refine Below.drew ?_) | (with_reducible refine bdn ?_ _))) hb
  clear BW1
  clear hb
  go_wp2
  go_ret
  exact ⟨rfl, by repeat (first | (with_reducible exact BW2) | (with_reducible refine bal ?_ _) | (with_reducible refine Below.drew ?_) | (with_reducible refine bdn ?_ _))⟩

theorem rclass (b : Nat) (hb : b < 18446744073709551616) (w : World) :
    Calls Tryd.prog 41 #[.int .u64 b] w fun e w' => e = .returned (.int .i64 (cls b : Nat)) ∧ Below w.heap.size w w' := by
  have h5 : INF = 9218868437227405312 := rfl
  have hw := word_of b
  have h2 : sg b = 0 ∨ sg b = 1 := by unfold sg; omega
  have k1 := fun W => rfwhole b hb W
  have k3 := fun W => rbehind b hb W
  unfold WEnd at k1
  cases hq : whl b with
  | some n =>
    simp only [hq] at k1
    have hr : rg b < INF := by
      unfold whl at hq
      split at hq
      · rename_i hc; exact hc.1
      · cases hq
    have e : cls b = 0 := by
      unfold cls
      rw [if_neg (by omega), if_neg (by omega), hq]
      rfl
    rw [e]
    exact rcls_whole b _ _ _ _ _ w k1
  | none =>
    simp only [hq] at k1
    by_cases h : rg b < INF
    · have k2 := fun W => rparts_fin b hb h W
      have e : cls b = if beh b = 0 ∨ 64 < beh b then 2 else 1 := by
        unfold cls
        rw [if_neg (by omega), if_neg (by omega), hq]
        rfl
      rw [e]
      by_cases z : beh b = 0
      · rw [if_pos (.inl z)]
        exact rcls_big b _ _ _ _ _ _ _ _ _ (show ((beh b : Nat) : Int) < 1 by omega) w k1 k2 k3
      · by_cases z2 : 64 < beh b
        · rw [if_pos (.inr z2)]
          exact rcls_fine b _ _ _ _ _ _ _ _ _ (show (1 : Int) ≤ ((beh b : Nat) : Int) by omega) (by omega) w k1 k2 k3
        · rw [if_neg (fun hh => hh.elim z z2)]
          exact rcls_plain b _ _ _ _ _ _ _ _ _ (show (1 : Int) ≤ ((beh b : Nat) : Int) by omega) (by omega) w k1 k2 k3
    · have k2 := fun W => calls_below0 (rparts_inf b hb h W)
      by_cases hi : rg b = INF
      · have e : cls b = if sg b = 0 then 4 else 8 := by unfold cls; rw [if_neg (by omega), if_pos hi]
        rw [e]
        rcases h2 with h2 | h2
        · rw [if_pos h2]
          exact rcls_inf b _ _ _ _ _ _ (by rw [beq_iff_eq]; omega) w k1 k2
        · rw [if_neg (by omega)]
          exact rcls_neg b _ _ _ _ _ _ (by rw [beq_eq_false_iff_ne]; omega) (by rw [beq_iff_eq]; omega) w k1 k2
      · have e : cls b = 16 := by unfold cls; rw [if_pos (by omega)]
        rw [e]
        exact rcls_nan b _ _ _ _ _ _ (by rw [beq_eq_false_iff_ne]; intro h3; apply hi; unfold rg; omega) (by rw [beq_eq_false_iff_ne]; intro h3; apply hi; unfold rg; omega) w k1 k2
theorem rmay_zero (b : Int)  (w : World)
    (k1 : ∀ W, Calls Tryd.prog 41 #[.int .u64 b] W fun e w' => e = .returned (.int .i64 0) ∧ Below W.heap.size W w') :
    Calls Tryd.prog 17 #[.int .u64 b] w fun e w' => e = .returned (.bool false) ∧ Below w.heap.size w w' := by
  have K1 := Lib.hid k1; clear k1
  go_enter Tryd.func17, Tryd.ntmps17
  go_wp2_with fail
  refine (K1.out _).mono ?_
  rintro e w1 ⟨rfl, hb⟩
  have BW1 : Below w.heap.size w w1 := btr (by repeat (first | (with_reducible exact Below.refl _ _) | (with_reducible refine bal ?_ _) | (with_reducible refine Below.drew ?_) | (with_reducible refine bdn ?_ _))) hb
  clear hb
  go_wp2
  go_ret
  exact ⟨rfl, by repeat (first | (with_reducible exact BW1) | (with_reducible refine bal ?_ _) | (with_reducible refine Below.drew ?_) | (with_reducible refine bdn ?_ _))⟩

theorem rmay_nan (b : Int)  (w : World)
    (k1 : ∀ W, Calls Tryd.prog 41 #[.int .u64 b] W fun e w' => e = .returned (.int .i64 16) ∧ Below W.heap.size W w') :
    Calls Tryd.prog 17 #[.int .u64 b] w fun e w' => e = .returned (.bool (b == 9221120237041090560)) ∧ Below w.heap.size w w' := by
  have K1 := Lib.hid k1; clear k1
  go_enter Tryd.func17, Tryd.ntmps17
  go_wp2_with fail
  refine (K1.out _).mono ?_
  rintro e w1 ⟨rfl, hb⟩
  have BW1 : Below w.heap.size w w1 := btr (by repeat (first | (with_reducible exact Below.refl _ _) | (with_reducible refine bal ?_ _) | (with_reducible refine Below.drew ?_) | (with_reducible refine bdn ?_ _))) hb
  clear hb
  go_wp2
  go_ret
  exact ⟨rfl, by repeat (first | (with_reducible exact BW1) | (with_reducible refine bal ?_ _) | (with_reducible refine Below.drew ?_) | (with_reducible refine bdn ?_ _))⟩

theorem rmay_some (b : Int) (k : Int) (h0 : (k != 0) = true) (h1 : (k != 16) = true) (w : World)
    (k1 : ∀ W, Calls Tryd.prog 41 #[.int .u64 b] W fun e w' => e = .returned (.int .i64 k) ∧ Below W.heap.size W w') :
    Calls Tryd.prog 17 #[.int .u64 b] w fun e w' => e = .returned (.bool true) ∧ Below w.heap.size w w' := by
  have K1 := Lib.hid k1; clear k1
  go_enter Tryd.func17, Tryd.ntmps17
  go_wp2_with fail
  refine (K1.out _).mono ?_
  rintro e w1 ⟨rfl, hb⟩
  have BW1 : Below w.heap.size w w1 := btr (by repeat (first | (with_reducible exact Below.refl _ _) | (with_reducible refine bal ?_ _) | (with_reducible refine Below.drew ?_) | (with_reducible refine bdn ?_ _))) hb
  clear hb
  go_wp2
  go_ret
  exact ⟨rfl, by repeat (first | (with_reducible exact BW1) | (with_reducible refine bal ?_ _) | (with_reducible refine Below.drew ?_) | (with_reducible refine bdn ?_ _))⟩

theorem cls_nan {b : Nat} : cls b = 16 ↔ INF < rg b := by
  unfold cls
  constructor
  · intro h
    apply Decidable.byContradiction
    intro hn
    rw [if_neg hn] at h
    repeat (first | omega | split at h)
  · intro h; rw [if_pos h]
theorem rmayf (b : Nat) (hb : b < 18446744073709551616) (w : World) :
    Calls Tryd.prog 17 #[.int .u64 b] w fun e w' => e = .returned (.bool (mayF b)) ∧ Below w.heap.size w w' := by
  have k := fun W => rclass b hb W
  unfold mayF
  by_cases h0 : cls b = 0
  · rw [h0] at k ⊢
    exact rmay_zero b w k
  · by_cases h1 : cls b = 16
    · have hc := can_nan (cls_nan.1 h1)
      have e : (cls b != 0 && can b == b) = ((b : Int) == 9221120237041090560) := by
        rw [h1, hc, Bool.eq_iff_iff, Bool.and_eq_true, beq_iff_eq, beq_iff_eq]
        have : NANW = 9221120237041090560 := rfl
        constructor
        · rintro ⟨_, h⟩; omega
        · intro h; exact ⟨rfl, by omega⟩
      rw [e]
      rw [h1] at k
      exact rmay_nan b w k
    · have hc : can b = b := by unfold can; rw [if_neg (fun hh => h1 (cls_nan.2 hh))]
      have e : (cls b != 0 && can b == b) = true := by
        rw [hc, Bool.and_eq_true, bne_iff_ne, beq_iff_eq]
        exact ⟨h0, rfl⟩
      rw [e]
      exact rmay_some b _ (by rw [bne_iff_ne]; omega) (by rw [bne_iff_ne]; omega) w k
end Go.Proofs.YtgklokjilfeklaaDoor
