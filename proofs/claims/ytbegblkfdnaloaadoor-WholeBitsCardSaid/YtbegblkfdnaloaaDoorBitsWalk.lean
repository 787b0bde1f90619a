/-
  entrepotlaw2.WholeBits: the walk: it answers true for all numbers of 64 bits. The tables math/bits.deBruijn64tab, internal/strconv.uint64pow10 read as their initialisers lay them.
-/
import Derived.Test.YtbegblkfdnaloaaDoorWholeJ
namespace Go.Proofs.YtbegblkfdnaloaaDoor
open Go.RowKit Go.Shelf
attribute [local go_sem ↓] eql_nat neq_nat eql_int5 neq_int5

set_option maxHeartbeats 8000000 in
set_option maxRecDepth 100000 in
theorem bits_core (a b c d y z : Int) (ga gb gc gd : Bool) (a0 a1 a2 a3 b0 b1 b2 b3 c0 c1 c2 c3 d0 d1 d2 d3 : Int)
    (k1 : ∀ W, Calls Tryd.prog 48 #[.int .i64 a] W fun e w' => e = .returned (.agg #[.bool ga, .int .u64 a0, .int .u64 a1, .int .u64 a2, .int .u64 a3]) ∧ Below W.heap.size W w')
    (k2 : ∀ W, Calls Tryd.prog 48 #[.int .i64 b] W fun e w' => e = .returned (.agg #[.bool gb, .int .u64 b0, .int .u64 b1, .int .u64 b2, .int .u64 b3]) ∧ Below W.heap.size W w')
    (k3 : ∀ W, Calls Tryd.prog 50 #[.int .u64 c] W fun e w' => e = .returned (.agg #[.bool gc, .int .u64 c0, .int .u64 c1, .int .u64 c2, .int .u64 c3]) ∧ Below W.heap.size W w')
    (k4 : ∀ W, Calls Tryd.prog 50 #[.int .u64 d] W fun e w' => e = .returned (.agg #[.bool gd, .int .u64 d0, .int .u64 d1, .int .u64 d2, .int .u64 d3]) ∧ Below W.heap.size W w')
    (k5 : ∀ W, Calls Tryd.prog 52 #[.agg #[.bool ga, .int .u64 a0, .int .u64 a1, .int .u64 a2, .int .u64 a3]] W fun e w' => e = .returned (.tuple #[.int .i64 a, .bool true]) ∧ Below W.heap.size W w')
    (k6 : ∀ W, Calls Tryd.prog 54 #[.agg #[.bool gc, .int .u64 c0, .int .u64 c1, .int .u64 c2, .int .u64 c3]] W fun e w' => e = .returned (.tuple #[.int .u64 c, .bool true]) ∧ Below W.heap.size W w')
    (k7 : ∀ W, Calls Tryd.prog 54 #[.agg #[.bool ga, .int .u64 a0, .int .u64 a1, .int .u64 a2, .int .u64 a3]] W fun e w' => e = .returned (.tuple #[.int .u64 y, .bool (decide (0 ≤ a))]) ∧ Below W.heap.size W w')
    (k8 : ∀ W, Calls Tryd.prog 52 #[.agg #[.bool gc, .int .u64 c0, .int .u64 c1, .int .u64 c2, .int .u64 c3]] W fun e w' => e = .returned (.tuple #[.int .i64 z, .bool (decide (c ≤ 9223372036854775807))]) ∧ Below W.heap.size W w')
    (k9 : ∀ W, Calls Tryd.prog 61 #[.agg #[.bool ga, .int .u64 a0, .int .u64 a1, .int .u64 a2, .int .u64 a3], .agg #[.bool gb, .int .u64 b0, .int .u64 b1, .int .u64 b2, .int .u64 b3]] W fun e w' => e = .returned (.int .i64 (cmpv a b)) ∧ Below W.heap.size W w')
    (k10 : ∀ W, Calls Tryd.prog 61 #[.agg #[.bool gc, .int .u64 c0, .int .u64 c1, .int .u64 c2, .int .u64 c3], .agg #[.bool gd, .int .u64 d0, .int .u64 d1, .int .u64 d2, .int .u64 d3]] W fun e w' => e = .returned (.int .i64 (cmpv c d)) ∧ Below W.heap.size W w') (w : World) (hT : Tabs w) :
    Calls Tryd.prog 14 #[.int .i64 a, .int .i64 b, .int .u64 c, .int .u64 d] w fun e w' => e = .returned (.bool true) ∧ Below w.heap.size w w' := by
  have hab : (a < b ∧ cmpv a b = -1) ∨ (a = b ∧ cmpv a b = 0) ∨ (b < a ∧ cmpv a b = 1) := by unfold cmpv; split; omega; split <;> omega
  have hcd : (c < d ∧ cmpv c d = -1) ∨ (c = d ∧ cmpv c d = 0) ∨ (d < c ∧ cmpv c d = 1) := by unfold cmpv; split; omega; split <;> omega
  generalize cmpv a b = p at *
  generalize cmpv c d = q at *
  have HT := Lib.hid hT; clear hT
  have K1 := Lib.hid k1; clear k1
  have K2 := Lib.hid k2; clear k2
  have K3 := Lib.hid k3; clear k3
  have K4 := Lib.hid k4; clear k4
  have K5 := Lib.hid k5; clear k5
  have K6 := Lib.hid k6; clear k6
  have K7 := Lib.hid k7; clear k7
  have K8 := Lib.hid k8; clear k8
  have K9 := Lib.hid k9; clear k9
  have K10 := Lib.hid k10; clear k10
  rcases hab with ⟨hab, rfl⟩ | ⟨rfl, rfl⟩ | ⟨hab, rfl⟩ <;> rcases hcd with ⟨hcd, rfl⟩ | ⟨rfl, rfl⟩ | ⟨hcd, rfl⟩
  all_goals
    go_enter Tryd.func14, Tryd.ntmps14
    go_wp2_with fail
    refine (K1.out _).mono ?_
    rintro e w1 ⟨rfl, hb⟩
    have BW1 : Below w.heap.size w w1 := btr (by repeat (first | (with_reducible exact Below.refl _ _) | (with_reducible refine bal ?_ _) | (with_reducible refine Below.drew ?_) | (with_reducible refine bdn ?_ _))) hb
    clear hb
    go_wp2_with fail
    refine (K5.out _).mono ?_
    rintro e w2 ⟨rfl, hb⟩
    have BW2 : Below w.heap.size w w2 := btr (by repeat (first | (with_reducible exact BW1) | (with_reducible refine bal ?_ _) | (with_reducible refine Below.drew ?_) | (with_reducible refine bdn ?_ _))) hb
    clear BW1
    clear hb
    go_wp2_with fail
    refine (K3.out _).mono ?_
    rintro e w3 ⟨rfl, hb⟩
    have BW3 : Below w.heap.size w w3 := btr (by repeat (first | (with_reducible exact BW2) | (with_reducible refine bal ?_ _) | (with_reducible refine Below.drew ?_) | (with_reducible refine bdn ?_ _))) hb
    clear BW2
    clear hb
    go_wp2_with fail
    refine (K6.out _).mono ?_
    rintro e w4 ⟨rfl, hb⟩
    have BW4 : Below w.heap.size w w4 := btr (by repeat (first | (with_reducible exact BW3) | (with_reducible refine bal ?_ _) | (with_reducible refine Below.drew ?_) | (with_reducible refine bdn ?_ _))) hb
    clear BW3
    clear hb
    go_wp2_with fail
    refine (K1.out _).mono ?_
    rintro e w5 ⟨rfl, hb⟩
    have BW5 : Below w.heap.size w w5 := btr (by repeat (first | (with_reducible exact BW4) | (with_reducible refine bal ?_ _) | (with_reducible refine Below.drew ?_) | (with_reducible refine bdn ?_ _))) hb
    clear BW4
    clear hb
    go_wp2_with fail
    refine (K7.out _).mono ?_
    rintro e w6 ⟨rfl, hb⟩
    have BW6 : Below w.heap.size w w6 := btr (by repeat (first | (with_reducible exact BW5) | (with_reducible refine bal ?_ _) | (with_reducible refine Below.drew ?_) | (with_reducible refine bdn ?_ _))) hb
    clear BW5
    clear hb
    go_wp2_with fail
    refine (K3.out _).mono ?_
    rintro e w7 ⟨rfl, hb⟩
    have BW7 : Below w.heap.size w w7 := btr (by repeat (first | (with_reducible exact BW6) | (with_reducible refine bal ?_ _) | (with_reducible refine Below.drew ?_) | (with_reducible refine bdn ?_ _))) hb
    clear BW6
    clear hb
    go_wp2_with fail
    refine (K8.out _).mono ?_
    rintro e w8 ⟨rfl, hb⟩
    have BW8 : Below w.heap.size w w8 := btr (by repeat (first | (with_reducible exact BW7) | (with_reducible refine bal ?_ _) | (with_reducible refine Below.drew ?_) | (with_reducible refine bdn ?_ _))) hb
    clear BW7
    clear hb
    go_wp2_with fail
    refine (told2_true _ (tabs_on HT.out (by repeat (first | (with_reducible exact BW8) | (with_reducible refine bal ?_ _) | (with_reducible refine Below.drew ?_) | (with_reducible refine bdn ?_ _))))).mono ?_
    rintro e w9 ⟨rfl, hb⟩
    have BW9 : Below w.heap.size w w9 := btr (by repeat (first | (with_reducible exact BW8) | (with_reducible refine bal ?_ _) | (with_reducible refine Below.drew ?_) | (with_reducible refine bdn ?_ _))) hb
    clear BW8
    clear hb
    go_wp2_with fail
    refine (K1.out _).mono ?_
    rintro e w10 ⟨rfl, hb⟩
    have BW10 : Below w.heap.size w w10 := btr (by repeat (first | (with_reducible exact BW9) | (with_reducible refine bal ?_ _) | (with_reducible refine Below.drew ?_) | (with_reducible refine bdn ?_ _))) hb
    clear BW9
    clear hb
    go_wp2_with fail
    refine (K2.out _).mono ?_
    rintro e w11 ⟨rfl, hb⟩
    have BW11 : Below w.heap.size w w11 := btr (by repeat (first | (with_reducible exact BW10) | (with_reducible refine bal ?_ _) | (with_reducible refine Below.drew ?_) | (with_reducible refine bdn ?_ _))) hb
    clear BW10
    clear hb
    go_wp2_with fail
    refine (K9.out _).mono ?_
    rintro e w12 ⟨rfl, hb⟩
    have BW12 : Below w.heap.size w w12 := btr (by repeat (first | (with_reducible exact BW11) | (with_reducible refine bal ?_ _) | (with_reducible refine Below.drew ?_) | (with_reducible refine bdn ?_ _))) hb
    clear BW11
    clear hb
    go_wp2_with fail
    refine (K3.out _).mono ?_
    rintro e w13 ⟨rfl, hb⟩
    have BW13 : Below w.heap.size w w13 := btr (by repeat (first | (with_reducible exact BW12) | (with_reducible refine bal ?_ _) | (with_reducible refine Below.drew ?_) | (with_reducible refine bdn ?_ _))) hb
    clear BW12
    clear hb
    go_wp2_with fail
    refine (K4.out _).mono ?_
    rintro e w14 ⟨rfl, hb⟩
    have BW14 : Below w.heap.size w w14 := btr (by repeat (first | (with_reducible exact BW13) | (with_reducible refine bal ?_ _) | (with_reducible refine Below.drew ?_) | (with_reducible refine bdn ?_ _))) hb
    clear BW13
    clear hb
    go_wp2_with fail
    refine (K10.out _).mono ?_
    rintro e w15 ⟨rfl, hb⟩
    have BW15 : Below w.heap.size w w15 := btr (by repeat (first | (with_reducible exact BW14) | (with_reducible refine bal ?_ _) | (with_reducible refine Below.drew ?_) | (with_reducible refine bdn ?_ _))) hb
    clear BW14
    clear hb
    go_wp2
    go_ret
    exact ⟨rfl, BW15⟩

theorem bits_any (a b c d : Int) (ha0 : -9223372036854775808 ≤ a) (ha1 : a ≤ 9223372036854775807) (hb0 : -9223372036854775808 ≤ b) (hb1 : b ≤ 9223372036854775807)
    (hc0 : 0 ≤ c) (hc1 : c ≤ 18446744073709551615) (hd0 : 0 ≤ d) (hd1 : d ≤ 18446744073709551615) (w : World) (hT : Tabs w) :
    Calls Tryd.prog 14 #[.int .i64 a, .int .i64 b, .int .u64 c, .int .u64 d] w fun e w' => e = .returned (.bool true) ∧ Below w.heap.size w w' := by
  have t5 := fun W => toint_z a (by omega) W
  rw [decide_eq_true (by omega)] at t5
  have t6 := fun W => touint_z c (by omega) W
  rw [decide_eq_true (by omega)] at t6
  have t7 := fun W => touint_z a (by omega) W
  have e7 : Znt .u64 a (decide (0 ≤ a ∧ a < 18446744073709551616)) = .tuple #[.int .u64 (if 0 ≤ a then a else 0), .bool (decide (0 ≤ a))] := by
    by_cases h : 0 ≤ a
    · rw [decide_eq_true (by omega), if_pos h, decide_eq_true h]; rfl
    · rw [decide_eq_false (by omega), if_neg h, decide_eq_false h]; rfl
  simp only [e7] at t7
  have t8 := fun W => toint_z c (by omega) W
  have e8 : Znt .i64 c (decide (-9223372036854775808 ≤ c ∧ c < 9223372036854775808)) = .tuple #[.int .i64 (if c ≤ 9223372036854775807 then c else 0), .bool (decide (c ≤ 9223372036854775807))] := by
    by_cases h : c ≤ 9223372036854775807
    · rw [decide_eq_true (by omega), if_pos h, decide_eq_true h]; rfl
    · rw [decide_eq_false (by omega), if_neg h, decide_eq_false h]; rfl
  simp only [e8] at t8
  exact bits_core a b c d _ _ _ _ _ _ _ _ _ _ _ _ _ _ _ _ _ _ _ _ _ _ (fun W => of_z a (by omega) (by omega) W) (fun W => of_z b (by omega) (by omega) W) (fun W => ofUint_z c (by omega) (by omega) W) (fun W => ofUint_z d (by omega) (by omega) W)
    t5 t6 t7 t8 (fun W => cmp_z a b (by omega) (by omega) W) (fun W => cmp_z c d (by omega) (by omega) W) w hT

end Go.Proofs.YtbegblkfdnaloaaDoor
