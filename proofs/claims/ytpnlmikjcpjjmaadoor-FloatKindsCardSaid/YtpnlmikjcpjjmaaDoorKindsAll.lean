/-
  entrepotlaw3.told, the reference's Class, MayFloat, Canon, and entrepotlaw3.FloatKinds for all bits: three texts in one, since a claim holds at most 60 files (tools/mkkindsall.py writes it).
-/
import Derived.Test.YtpnlmikjcpjjmaaDoorRefFWhole
import Derived.Test.YtpnlmikjcpjjmaaDoorFltF
namespace Go.Proofs.YtpnlmikjcpjjmaaDoor
open Go.RowKit Go.Shelf Go.Sort
attribute [local go_sem ↓] eql_nat neq_nat eql_int5 neq_int5

theorem Iz_word (v : Nat) (h : v < 18446744073709551616) : Iz (v : Int) = .agg #[.bool false, .int .u64 (v : Int), .int .u64 0, .int .u64 0, .int .u64 0] := by
  rw [Iz_nat]
  unfold I5
  obtain ⟨l0, l1, l2, l3⟩ := lb_small (v := (v : Int)) (by omega) (by omega)
  rw [Int.natAbs_natCast] at l0 l1 l2 l3
  rw [l0, l1, l2, l3]
theorem told3_true (w : World) (hT : Tb w) : Calls Tryd.prog 76 #[] w fun e w' => e = .returned (.bool true) ∧ Below w.heap.size w w' := by
  have o1 := Iz_word 1 (by decide)
  refine told3_core w (fun W hW => ?_) (fun W => ?_) (fun W => ?_) (fun W => ?_) (fun W hW => ?_) (fun W hW => ?_) (fun W hW => ?_)
  · have := whole_any 4607182418800017408 (by decide) W (tb_on hT hW)
    have e : WEnd 4607182418800017408 = .tuple #[Iz ((1 : Nat) : Int), .bool true] := by
      unfold WEnd
      rw [show whl 4607182418800017408 = some 1 from by decide +kernel]
      simp only []
      rw [show sg 4607182418800017408 = 0 from by decide, if_neg (by decide)]
    rw [e, o1] at this
    exact this
  · have := tohalf_any 4607182418800017408 (by decide) W
    rw [show toh 4607182418800017408 = (15360, true) from by decide +kernel] at this
    exact calls_below this
  · have := of_z 1 (by decide) (by decide) W
    rw [show (1 : Int) = ((1 : Nat) : Int) from rfl, o1] at this
    exact this
  · have := half_any 15360 (by decide) W
    rw [show hlf 15360 = 4607182418800017408 from by decide +kernel] at this
    exact calls_below this
  · have := class_any 4602678819172646912 (by decide) W (tb_on hT hW)
    rw [show cls 4602678819172646912 = 1 from by decide +kernel] at this
    exact this
  · have := class_any 4607182418800017408 (by decide) W (tb_on hT hW)
    rw [show cls 4607182418800017408 = 0 from by decide +kernel] at this
    exact this
  · have := behind_any 4602678819172646912 (by decide) W (tb_on hT hW)
    rw [show beh 4602678819172646912 = 1 from by decide +kernel] at this
    exact calls_below this

end Go.Proofs.YtpnlmikjcpjjmaaDoor
namespace Go.Proofs.YtpnlmikjcpjjmaaDoor
open Go.RowKit Go.Shelf
attribute [local go_sem ↓] eql_nat neq_nat eql_int5 neq_int5

set_option maxHeartbeats 1000000 in
set_option maxRecDepth 100000 in
theorem rcls_whole (b : Int) (g : Bool) (x0 x1 x2 x3 : Int)  (w : World)
    (k1 : ∀ W, Calls Tryd.prog 75 #[.int .u64 b] W fun e w' => e = .returned (.tuple #[.agg #[.bool g, .int .u64 x0, .int .u64 x1, .int .u64 x2, .int .u64 x3], .bool true]) ∧ Below W.heap.size W w') :
    Calls Tryd.prog 78 #[.int .u64 b] w fun e w' => e = .returned (.int .i64 0) ∧ Below w.heap.size w w' := by
  have K1 := Lib.hid k1; clear k1
  go_enter Tryd.func78, Tryd.ntmps78
  go_wp2_with fail
  refine (K1.out _).mono ?_
  rintro e w1 ⟨rfl, hb⟩
  have BW1 : Below w.heap.size w w1 := btr (by repeat (first | (with_reducible exact Below.refl _ _) | (with_reducible refine bal ?_ _) | (with_reducible refine Below.drew ?_) | (with_reducible refine bdn ?_ _))) hb
  clear hb
  go_wp2
  go_ret
  exact ⟨rfl, by repeat (first | (with_reducible exact BW1) | (with_reducible refine bal ?_ _) | (with_reducible refine Below.drew ?_) | (with_reducible refine bdn ?_ _))⟩

set_option maxHeartbeats 1000000 in
set_option maxRecDepth 100000 in
theorem rcls_plain (b : Int) (g : Bool) (x0 x1 x2 x3 : Int) (sg : Bool) (E B : Int) (D : Nat) (h0 : 1 ≤ B) (h1 : B ≤ 64) (w : World)
    (k1 : ∀ W, Calls Tryd.prog 75 #[.int .u64 b] W fun e w' => e = .returned (.tuple #[.agg #[.bool g, .int .u64 x0, .int .u64 x1, .int .u64 x2, .int .u64 x3], .bool false]) ∧ Below W.heap.size W w')
    (k2 : ∀ W, Calls Tryd.prog 121 #[.int .u64 b] W fun e w' => ∃ s', e = .returned (.tuple #[.bool sg, s', .int .i64 E, .bool true]) ∧ DR w' s' D ∧ Below W.heap.size W w')
    (k3 : ∀ W, Calls Tryd.prog 84 #[.int .u64 b] W fun e w' => e = .returned (.int .i64 B) ∧ Below W.heap.size W w') :
    Calls Tryd.prog 78 #[.int .u64 b] w fun e w' => e = .returned (.int .i64 1) ∧ Below w.heap.size w w' := by
  have K1 := Lib.hid k1; clear k1
  have K2 := Lib.hid k2; clear k2
  have K3 := Lib.hid k3; clear k3
  go_enter Tryd.func78, Tryd.ntmps78
  go_wp2_with fail
  refine (K1.out _).mono ?_
  rintro e w1 ⟨rfl, hb⟩
  have BW1 : Below w.heap.size w w1 := btr (by repeat (first | (with_reducible exact Below.refl _ _) | (with_reducible refine bal ?_ _) | (with_reducible refine Below.drew ?_) | (with_reducible refine bdn ?_ _))) hb
  clear hb
  go_wp2_with fail
  refine (K2.out _).mono ?_
  rintro e w2 ⟨s1, rfl, hr, hb⟩
  have hbX : Below w1.heap.size w1 w2 := btr (by repeat (first | (with_reducible exact Below.refl _ _) | (with_reducible refine bal ?_ _) | (with_reducible refine Below.drew ?_) | (with_reducible refine bdn ?_ _))) hb
  clear hbX
  have DD2 : DR w2 s1 D := hr
  clear hr
  have BW2 : Below w.heap.size w w2 := btr (by repeat (first | (with_reducible exact BW1) | (with_reducible refine bal ?_ _) | (with_reducible refine Below.drew ?_) | (with_reducible refine bdn ?_ _))) hb
  clear BW1
  clear hb
  go_wp2_with fail
  refine (K3.out _).mono ?_
  rintro e w3 ⟨rfl, hb⟩
  have hbX : Below w2.heap.size w2 w3 := btr (by repeat (first | (with_reducible exact Below.refl _ _) | (with_reducible refine bal ?_ _) | (with_reducible refine Below.drew ?_) | (with_reducible refine bdn ?_ _))) hb
  have DD3 : DR w3 s1 D := DR.keep hbX DD2
  clear DD2
  clear hbX
  have BW3 : Below w.heap.size w w3 := btr (by repeat (first | (with_reducible exact BW2) | (with_reducible refine bal ?_ _) | (with_reducible refine Below.drew ?_) | (with_reducible refine bdn ?_ _))) hb
  clear BW2
  clear hb
  go_wp2_with fail
  refine (K3.out _).mono ?_
  rintro e w4 ⟨rfl, hb⟩
  have hbX : Below w3.heap.size w3 w4 := btr (by repeat (first | (with_reducible exact Below.refl _ _) | (with_reducible refine bal ?_ _) | (with_reducible refine Below.drew ?_) | (with_reducible refine bdn ?_ _))) hb
  have DD4 : DR w4 s1 D := DR.keep hbX DD3
  clear DD3
  clear hbX
  have BW4 : Below w.heap.size w w4 := btr (by repeat (first | (with_reducible exact BW3) | (with_reducible refine bal ?_ _) | (with_reducible refine Below.drew ?_) | (with_reducible refine bdn ?_ _))) hb
  clear BW3
  clear hb
  go_wp2
  go_ret
  exact ⟨rfl, by repeat (first | (with_reducible exact BW4) | (with_reducible refine bal ?_ _) | (with_reducible refine Below.drew ?_) | (with_reducible refine bdn ?_ _))⟩

set_option maxHeartbeats 1000000 in
set_option maxRecDepth 100000 in
theorem rcls_fine (b : Int) (g : Bool) (x0 x1 x2 x3 : Int) (sg : Bool) (E B : Int) (D : Nat) (h0 : 1 ≤ B) (h1 : 64 < B) (w : World)
    (k1 : ∀ W, Calls Tryd.prog 75 #[.int .u64 b] W fun e w' => e = .returned (.tuple #[.agg #[.bool g, .int .u64 x0, .int .u64 x1, .int .u64 x2, .int .u64 x3], .bool false]) ∧ Below W.heap.size W w')
    (k2 : ∀ W, Calls Tryd.prog 121 #[.int .u64 b] W fun e w' => ∃ s', e = .returned (.tuple #[.bool sg, s', .int .i64 E, .bool true]) ∧ DR w' s' D ∧ Below W.heap.size W w')
    (k3 : ∀ W, Calls Tryd.prog 84 #[.int .u64 b] W fun e w' => e = .returned (.int .i64 B) ∧ Below W.heap.size W w') :
    Calls Tryd.prog 78 #[.int .u64 b] w fun e w' => e = .returned (.int .i64 2) ∧ Below w.heap.size w w' := by
  have K1 := Lib.hid k1; clear k1
  have K2 := Lib.hid k2; clear k2
  have K3 := Lib.hid k3; clear k3
  go_enter Tryd.func78, Tryd.ntmps78
  go_wp2_with fail
  refine (K1.out _).mono ?_
  rintro e w1 ⟨rfl, hb⟩
  have BW1 : Below w.heap.size w w1 := btr (by repeat (first | (with_reducible exact Below.refl _ _) | (with_reducible refine bal ?_ _) | (with_reducible refine Below.drew ?_) | (with_reducible refine bdn ?_ _))) hb
  clear hb
  go_wp2_with fail
  refine (K2.out _).mono ?_
  rintro e w2 ⟨s1, rfl, hr, hb⟩
  have hbX : Below w1.heap.size w1 w2 := btr (by repeat (first | (with_reducible exact Below.refl _ _) | (with_reducible refine bal ?_ _) | (with_reducible refine Below.drew ?_) | (with_reducible refine bdn ?_ _))) hb
  clear hbX
  have DD2 : DR w2 s1 D := hr
  clear hr
  have BW2 : Below w.heap.size w w2 := btr (by repeat (first | (with_reducible exact BW1) | (with_reducible refine bal ?_ _) | (with_reducible refine Below.drew ?_) | (with_reducible refine bdn ?_ _))) hb
  clear BW1
  clear hb
  go_wp2_with fail
  refine (K3.out _).mono ?_
  rintro e w3 ⟨rfl, hb⟩
  have hbX : Below w2.heap.size w2 w3 := btr (by repeat (first | (with_reducible exact Below.refl _ _) | (with_reducible refine bal ?_ _) | (with_reducible refine Below.drew ?_) | (with_reducible refine bdn ?_ _))) hb
  have DD3 : DR w3 s1 D := DR.keep hbX DD2
  clear DD2
  clear hbX
  have BW3 : Below w.heap.size w w3 := btr (by repeat (first | (with_reducible exact BW2) | (with_reducible refine bal ?_ _) | (with_reducible refine Below.drew ?_) | (with_reducible refine bdn ?_ _))) hb
  clear BW2
  clear hb
  go_wp2_with fail
  refine (K3.out _).mono ?_
  rintro e w4 ⟨rfl, hb⟩
  have hbX : Below w3.heap.size w3 w4 := btr (by repeat (first | (with_reducible exact Below.refl _ _) | (with_reducible refine bal ?_ _) | (with_reducible refine Below.drew ?_) | (with_reducible refine bdn ?_ _))) hb
  have DD4 : DR w4 s1 D := DR.keep hbX DD3
  clear DD3
  clear hbX
  have BW4 : Below w.heap.size w w4 := btr (by repeat (first | (with_reducible exact BW3) | (with_reducible refine bal ?_ _) | (with_reducible refine Below.drew ?_) | (with_reducible refine bdn ?_ _))) hb
  clear BW3
  clear hb
  go_wp2
  go_ret
  exact ⟨rfl, by repeat (first | (with_reducible exact BW4) | (with_reducible refine bal ?_ _) | (with_reducible refine Below.drew ?_) | (with_reducible refine bdn ?_ _))⟩

set_option maxHeartbeats 1000000 in
set_option maxRecDepth 100000 in
theorem rcls_big (b : Int) (g : Bool) (x0 x1 x2 x3 : Int) (sg : Bool) (E B : Int) (D : Nat) (h0 : B < 1) (w : World)
    (k1 : ∀ W, Calls Tryd.prog 75 #[.int .u64 b] W fun e w' => e = .returned (.tuple #[.agg #[.bool g, .int .u64 x0, .int .u64 x1, .int .u64 x2, .int .u64 x3], .bool false]) ∧ Below W.heap.size W w')
    (k2 : ∀ W, Calls Tryd.prog 121 #[.int .u64 b] W fun e w' => ∃ s', e = .returned (.tuple #[.bool sg, s', .int .i64 E, .bool true]) ∧ DR w' s' D ∧ Below W.heap.size W w')
    (k3 : ∀ W, Calls Tryd.prog 84 #[.int .u64 b] W fun e w' => e = .returned (.int .i64 B) ∧ Below W.heap.size W w') :
    Calls Tryd.prog 78 #[.int .u64 b] w fun e w' => e = .returned (.int .i64 2) ∧ Below w.heap.size w w' := by
  have K1 := Lib.hid k1; clear k1
  have K2 := Lib.hid k2; clear k2
  have K3 := Lib.hid k3; clear k3
  go_enter Tryd.func78, Tryd.ntmps78
  go_wp2_with fail
  refine (K1.out _).mono ?_
  rintro e w1 ⟨rfl, hb⟩
  have BW1 : Below w.heap.size w w1 := btr (by repeat (first | (with_reducible exact Below.refl _ _) | (with_reducible refine bal ?_ _) | (with_reducible refine Below.drew ?_) | (with_reducible refine bdn ?_ _))) hb
  clear hb
  go_wp2_with fail
  refine (K2.out _).mono ?_
  rintro e w2 ⟨s1, rfl, hr, hb⟩
  have hbX : Below w1.heap.size w1 w2 := btr (by repeat (first | (with_reducible exact Below.refl _ _) | (with_reducible refine bal ?_ _) | (with_reducible refine Below.drew ?_) | (with_reducible refine bdn ?_ _))) hb
  clear hbX
  have DD2 : DR w2 s1 D := hr
  clear hr
  have BW2 : Below w.heap.size w w2 := btr (by repeat (first | (with_reducible exact BW1) | (with_reducible refine bal ?_ _) | (with_reducible refine Below.drew ?_) | (with_reducible refine bdn ?_ _))) hb
  clear BW1
  clear hb
  go_wp2_with fail
  refine (K3.out _).mono ?_
  rintro e w3 ⟨rfl, hb⟩
  have hbX : Below w2.heap.size w2 w3 := btr (by repeat (first | (with_reducible exact Below.refl _ _) | (with_reducible refine bal ?_ _) | (with_reducible refine Below.drew ?_) | (with_reducible refine bdn ?_ _))) hb
  have DD3 : DR w3 s1 D := DR.keep hbX DD2
  clear DD2
  clear hbX
  have BW3 : Below w.heap.size w w3 := btr (by repeat (first | (with_reducible exact BW2) | (with_reducible refine bal ?_ _) | (with_reducible refine Below.drew ?_) | (with_reducible refine bdn ?_ _))) hb
  clear BW2
  clear hb
  go_wp2
  go_ret
  exact ⟨rfl, by repeat (first | (with_reducible exact BW3) | (with_reducible refine bal ?_ _) | (with_reducible refine Below.drew ?_) | (with_reducible refine bdn ?_ _))⟩

set_option maxHeartbeats 1000000 in
set_option maxRecDepth 100000 in
theorem rcls_inf (b : Int) (g : Bool) (x0 x1 x2 x3 : Int) (sg : Bool) (hb : (b == 9218868437227405312) = true) (w : World)
    (k1 : ∀ W, Calls Tryd.prog 75 #[.int .u64 b] W fun e w' => e = .returned (.tuple #[.agg #[.bool g, .int .u64 x0, .int .u64 x1, .int .u64 x2, .int .u64 x3], .bool false]) ∧ Below W.heap.size W w')
    (k2 : ∀ W, Calls Tryd.prog 121 #[.int .u64 b] W fun e w' => e = .returned (.tuple #[.bool sg, .slice none 0 0, .int .i64 0, .bool false]) ∧ Below W.heap.size W w') :
    Calls Tryd.prog 78 #[.int .u64 b] w fun e w' => e = .returned (.int .i64 4) ∧ Below w.heap.size w w' := by
  have K1 := Lib.hid k1; clear k1
  have K2 := Lib.hid k2; clear k2
  go_enter Tryd.func78, Tryd.ntmps78
  go_wp2_with fail
  refine (K1.out _).mono ?_
  rintro e w1 ⟨rfl, hb⟩
  have BW1 : Below w.heap.size w w1 := btr (by repeat (first | (with_reducible exact Below.refl _ _) | (with_reducible refine bal ?_ _) | (with_reducible refine Below.drew ?_) | (with_reducible refine bdn ?_ _))) hb
  clear hb
  go_wp2_with fail
  refine (K2.out _).mono ?_
  rintro e w2 ⟨rfl, hb⟩
  have BW2 : Below w.heap.size w w2 := btr (by repeat (first | (with_reducible exact BW1) | (with_reducible refine bal ?_ _) | (with_reducible refine Below.drew ?_) | (with_reducible refine bdn ?_ _))) hb
  clear BW1
  clear hb
  go_wp2
  go_ret
  exact ⟨rfl, by repeat (first | (with_reducible exact BW2) | (with_reducible refine bal ?_ _) | (with_reducible refine Below.drew ?_) | (with_reducible refine bdn ?_ _))⟩

set_option maxHeartbeats 1000000 in
set_option maxRecDepth 100000 in
theorem rcls_neg (b : Int) (g : Bool) (x0 x1 x2 x3 : Int) (sg : Bool) (ha : (b == 9218868437227405312) = false) (hb : (b == 18442240474082181120) = true) (w : World)
    (k1 : ∀ W, Calls Tryd.prog 75 #[.int .u64 b] W fun e w' => e = .returned (.tuple #[.agg #[.bool g, .int .u64 x0, .int .u64 x1, .int .u64 x2, .int .u64 x3], .bool false]) ∧ Below W.heap.size W w')
    (k2 : ∀ W, Calls Tryd.prog 121 #[.int .u64 b] W fun e w' => e = .returned (.tuple #[.bool sg, .slice none 0 0, .int .i64 0, .bool false]) ∧ Below W.heap.size W w') :
    Calls Tryd.prog 78 #[.int .u64 b] w fun e w' => e = .returned (.int .i64 8) ∧ Below w.heap.size w w' := by
  have K1 := Lib.hid k1; clear k1
  have K2 := Lib.hid k2; clear k2
  go_enter Tryd.func78, Tryd.ntmps78
  go_wp2_with fail
  refine (K1.out _).mono ?_
  rintro e w1 ⟨rfl, hb⟩
  have BW1 : Below w.heap.size w w1 := btr (by repeat (first | (with_reducible exact Below.refl _ _) | (with_reducible refine bal ?_ _) | (with_reducible refine Below.drew ?_) | (with_reducible refine bdn ?_ _))) hb
  clear hb
  go_wp2_with fail
  refine (K2.out _).mono ?_
  rintro e w2 ⟨rfl, hb⟩
  have BW2 : Below w.heap.size w w2 := btr (by repeat (first | (with_reducible exact BW1) | (with_reducible refine bal ?_ _) | (with_reducible refine Below.drew ?_) | (with_reducible refine bdn ?_ _))) hb
  clear BW1
  clear hb
  go_wp2
  go_ret
  exact ⟨rfl, by repeat (first | (with_reducible exact BW2) | (with_reducible refine bal ?_ _) | (with_reducible refine Below.drew ?_) | (with_reducible refine bdn ?_ _))⟩

set_option maxHeartbeats 1000000 in
set_option maxRecDepth 100000 in
theorem rcls_nan (b : Int) (g : Bool) (x0 x1 x2 x3 : Int) (sg : Bool) (ha : (b == 9218868437227405312) = false) (hb : (b == 18442240474082181120) = false) (w : World)
    (k1 : ∀ W, Calls Tryd.prog 75 #[.int .u64 b] W fun e w' => e = .returned (.tuple #[.agg #[.bool g, .int .u64 x0, .int .u64 x1, .int .u64 x2, .int .u64 x3], .bool false]) ∧ Below W.heap.size W w')
    (k2 : ∀ W, Calls Tryd.prog 121 #[.int .u64 b] W fun e w' => e = .returned (.tuple #[.bool sg, .slice none 0 0, .int .i64 0, .bool false]) ∧ Below W.heap.size W w') :
    Calls Tryd.prog 78 #[.int .u64 b] w fun e w' => e = .returned (.int .i64 16) ∧ Below w.heap.size w w' := by
  have K1 := Lib.hid k1; clear k1
  have K2 := Lib.hid k2; clear k2
  go_enter Tryd.func78, Tryd.ntmps78
  go_wp2_with fail
  refine (K1.out _).mono ?_
  rintro e w1 ⟨rfl, hb⟩
  have BW1 : Below w.heap.size w w1 := btr (by repeat (first | (with_reducible exact Below.refl _ _) | (with_reducible refine bal ?_ _) | (with_reducible refine Below.drew ?_) | (with_reducible refine bdn ?_ _))) hb
  clear hb
  go_wp2_with fail
  refine (K2.out _).mono ?_
  rintro e w2 ⟨rfl, hb⟩
  have BW2 : Below w.heap.size w w2 := btr (by repeat (first | (with_reducible exact BW1) | (with_reducible refine bal ?_ _) | (with_reducible refine Below.drew ?_) | (with_reducible refine bdn ?_ _))) hb
  clear BW1
  clear hb
  go_wp2
  go_ret
  exact ⟨rfl, by repeat (first | (with_reducible exact BW2) | (with_reducible refine bal ?_ _) | (with_reducible refine Below.drew ?_) | (with_reducible refine bdn ?_ _))⟩

theorem rclass (b : Nat) (hb : b < 18446744073709551616) (w : World) :
    Calls Tryd.prog 78 #[.int .u64 b] w fun e w' => e = .returned (.int .i64 (cls b : Nat)) ∧ Below w.heap.size w w' := by
  have h5 : INF = 9218868437227405312 := rfl
  have hw := word_of b
  have h2 : sg b = 0 ∨ sg b = 1 := by unfold sg; omega
  have k1 := fun W => rfwhole b hb W
  have k3 := fun W => rbehind b hb W
  unfold WEnd at k1
  cases hq : whl b with
  | some n =>
    simp only [hq] at k1
    have hr : rg b < INF := by
      unfold whl at hq
      split at hq
      · rename_i hc; exact hc.1
      · cases hq
    have e : cls b = 0 := by
      unfold cls
      rw [if_neg (by omega), if_neg (by omega), hq]
      rfl
    rw [e]
    exact rcls_whole b _ _ _ _ _ w k1
  | none =>
    simp only [hq] at k1
    by_cases h : rg b < INF
    · have k2 := fun W => rparts_fin b hb h W
      have e : cls b = if beh b = 0 ∨ 64 < beh b then 2 else 1 := by
        unfold cls
        rw [if_neg (by omega), if_neg (by omega), hq]
        rfl
      rw [e]
      by_cases z : beh b = 0
      · rw [if_pos (.inl z)]
        exact rcls_big b _ _ _ _ _ _ _ _ _ (show ((beh b : Nat) : Int) < 1 by omega) w k1 k2 k3
      · by_cases z2 : 64 < beh b
        · rw [if_pos (.inr z2)]
          exact rcls_fine b _ _ _ _ _ _ _ _ _ (show (1 : Int) ≤ ((beh b : Nat) : Int) by omega) (by omega) w k1 k2 k3
        · rw [if_neg (fun hh => hh.elim z z2)]
          exact rcls_plain b _ _ _ _ _ _ _ _ _ (show (1 : Int) ≤ ((beh b : Nat) : Int) by omega) (by omega) w k1 k2 k3
    · have k2 := fun W => calls_below0 (rparts_inf b hb h W)
      by_cases hi : rg b = INF
      · have e : cls b = if sg b = 0 then 4 else 8 := by unfold cls; rw [if_neg (by omega), if_pos hi]
        rw [e]
        rcases h2 with h2 | h2
        · rw [if_pos h2]
          exact rcls_inf b _ _ _ _ _ _ (by rw [beq_iff_eq]; omega) w k1 k2
        · rw [if_neg (by omega)]
          exact rcls_neg b _ _ _ _ _ _ (by rw [beq_eq_false_iff_ne]; omega) (by rw [beq_iff_eq]; omega) w k1 k2
      · have e : cls b = 16 := by unfold cls; rw [if_pos (by omega)]
        rw [e]
        exact rcls_nan b _ _ _ _ _ _ (by rw [beq_eq_false_iff_ne]; intro h3; apply hi; unfold rg; omega) (by rw [beq_eq_false_iff_ne]; intro h3; apply hi; unfold rg; omega) w k1 k2
theorem rmay_zero (b : Int)  (w : World)
    (k1 : ∀ W, Calls Tryd.prog 78 #[.int .u64 b] W fun e w' => e = .returned (.int .i64 0) ∧ Below W.heap.size W w') :
    Calls Tryd.prog 80 #[.int .u64 b] w fun e w' => e = .returned (.bool false) ∧ Below w.heap.size w w' := by
  have K1 := Lib.hid k1; clear k1
  go_enter Tryd.func80, Tryd.ntmps80
  go_wp2_with fail
  refine (K1.out _).mono ?_
  rintro e w1 ⟨rfl, hb⟩
  have BW1 : Below w.heap.size w w1 := btr (by repeat (first | (with_reducible exact Below.refl _ _) | (with_reducible refine bal ?_ _) | (with_reducible refine Below.drew ?_) | (with_reducible refine bdn ?_ _))) hb
  clear hb
  go_wp2
  go_ret
  exact ⟨rfl, by repeat (first | (with_reducible exact BW1) | (with_reducible refine bal ?_ _) | (with_reducible refine Below.drew ?_) | (with_reducible refine bdn ?_ _))⟩

theorem rmay_nan (b : Int)  (w : World)
    (k1 : ∀ W, Calls Tryd.prog 78 #[.int .u64 b] W fun e w' => e = .returned (.int .i64 16) ∧ Below W.heap.size W w') :
    Calls Tryd.prog 80 #[.int .u64 b] w fun e w' => e = .returned (.bool (b == 9221120237041090560)) ∧ Below w.heap.size w w' := by
  have K1 := Lib.hid k1; clear k1
  go_enter Tryd.func80, Tryd.ntmps80
  go_wp2_with fail
  refine (K1.out _).mono ?_
  rintro e w1 ⟨rfl, hb⟩
  have BW1 : Below w.heap.size w w1 := btr (by repeat (first | (with_reducible exact Below.refl _ _) | (with_reducible refine bal ?_ _) | (with_reducible refine Below.drew ?_) | (with_reducible refine bdn ?_ _))) hb
  clear hb
  go_wp2
  go_ret
  exact ⟨rfl, by repeat (first | (with_reducible exact BW1) | (with_reducible refine bal ?_ _) | (with_reducible refine Below.drew ?_) | (with_reducible refine bdn ?_ _))⟩

theorem rmay_some (b : Int) (k : Int) (h0 : (k != 0) = true) (h1 : (k != 16) = true) (w : World)
    (k1 : ∀ W, Calls Tryd.prog 78 #[.int .u64 b] W fun e w' => e = .returned (.int .i64 k) ∧ Below W.heap.size W w') :
    Calls Tryd.prog 80 #[.int .u64 b] w fun e w' => e = .returned (.bool true) ∧ Below w.heap.size w w' := by
  have K1 := Lib.hid k1; clear k1
  go_enter Tryd.func80, Tryd.ntmps80
  go_wp2_with fail
  refine (K1.out _).mono ?_
  rintro e w1 ⟨rfl, hb⟩
  have BW1 : Below w.heap.size w w1 := btr (by repeat (first | (with_reducible exact Below.refl _ _) | (with_reducible refine bal ?_ _) | (with_reducible refine Below.drew ?_) | (with_reducible refine bdn ?_ _))) hb
  clear hb
  go_wp2
  go_ret
  exact ⟨rfl, by repeat (first | (with_reducible exact BW1) | (with_reducible refine bal ?_ _) | (with_reducible refine Below.drew ?_) | (with_reducible refine bdn ?_ _))⟩

theorem rcan_nan (b : Int)  (w : World)
    (k1 : ∀ W, Calls Tryd.prog 78 #[.int .u64 b] W fun e w' => e = .returned (.int .i64 16) ∧ Below W.heap.size W w') :
    Calls Tryd.prog 82 #[.int .u64 b] w fun e w' => e = .returned (.int .u64 9221120237041090560) ∧ Below w.heap.size w w' := by
  have K1 := Lib.hid k1; clear k1
  go_enter Tryd.func82, Tryd.ntmps82
  go_wp2_with fail
  refine (K1.out _).mono ?_
  rintro e w1 ⟨rfl, hb⟩
  have BW1 : Below w.heap.size w w1 := btr (by repeat (first | (with_reducible exact Below.refl _ _) | (with_reducible refine bal ?_ _) | (with_reducible refine Below.drew ?_) | (with_reducible refine bdn ?_ _))) hb
  clear hb
  go_wp2
  go_ret
  exact ⟨rfl, by repeat (first | (with_reducible exact BW1) | (with_reducible refine bal ?_ _) | (with_reducible refine Below.drew ?_) | (with_reducible refine bdn ?_ _))⟩

theorem rcan_id (b : Int) (k : Int) (h1 : (k == 16) = false) (w : World)
    (k1 : ∀ W, Calls Tryd.prog 78 #[.int .u64 b] W fun e w' => e = .returned (.int .i64 k) ∧ Below W.heap.size W w') :
    Calls Tryd.prog 82 #[.int .u64 b] w fun e w' => e = .returned (.int .u64 b) ∧ Below w.heap.size w w' := by
  have K1 := Lib.hid k1; clear k1
  go_enter Tryd.func82, Tryd.ntmps82
  go_wp2_with fail
  refine (K1.out _).mono ?_
  rintro e w1 ⟨rfl, hb⟩
  have BW1 : Below w.heap.size w w1 := btr (by repeat (first | (with_reducible exact Below.refl _ _) | (with_reducible refine bal ?_ _) | (with_reducible refine Below.drew ?_) | (with_reducible refine bdn ?_ _))) hb
  clear hb
  go_wp2
  go_ret
  exact ⟨rfl, by repeat (first | (with_reducible exact BW1) | (with_reducible refine bal ?_ _) | (with_reducible refine Below.drew ?_) | (with_reducible refine bdn ?_ _))⟩

theorem cls_nan {b : Nat} : cls b = 16 ↔ INF < rg b := by
  unfold cls
  constructor
  · intro h
    apply Decidable.byContradiction
    intro hn
    rw [if_neg hn] at h
    repeat (first | omega | split at h)
  · intro h; rw [if_pos h]
theorem rmayf (b : Nat) (hb : b < 18446744073709551616) (w : World) :
    Calls Tryd.prog 80 #[.int .u64 b] w fun e w' => e = .returned (.bool (mayF b)) ∧ Below w.heap.size w w' := by
  have k := fun W => rclass b hb W
  unfold mayF
  by_cases h0 : cls b = 0
  · rw [h0] at k ⊢
    exact rmay_zero b w k
  · by_cases h1 : cls b = 16
    · have hc := can_nan (cls_nan.1 h1)
      have e : (cls b != 0 && can b == b) = ((b : Int) == 9221120237041090560) := by
        rw [h1, hc, Bool.eq_iff_iff, Bool.and_eq_true, beq_iff_eq, beq_iff_eq]
        have : NANW = 9221120237041090560 := rfl
        constructor
        · rintro ⟨_, h⟩; omega
        · intro h; exact ⟨rfl, by omega⟩
      rw [e]
      rw [h1] at k
      exact rmay_nan b w k
    · have hc : can b = b := by unfold can; rw [if_neg (fun hh => h1 (cls_nan.2 hh))]
      have e : (cls b != 0 && can b == b) = true := by
        rw [hc, Bool.and_eq_true, bne_iff_ne, beq_iff_eq]
        exact ⟨h0, rfl⟩
      rw [e]
      exact rmay_some b _ (by rw [bne_iff_ne]; omega) (by rw [bne_iff_ne]; omega) w k
theorem rcanon (b : Nat) (hb : b < 18446744073709551616) (w : World) :
    Calls Tryd.prog 82 #[.int .u64 b] w fun e w' => e = .returned (.int .u64 (can b : Nat)) ∧ Below w.heap.size w w' := by
  have k := fun W => rclass b hb W
  by_cases h1 : cls b = 16
  · rw [can_nan (cls_nan.1 h1)]
    rw [h1] at k
    exact rcan_nan b w k
  · have hc : can b = b := by unfold can; rw [if_neg (fun hh => h1 (cls_nan.2 hh))]
    rw [hc]
    exact rcan_id b _ (by rw [beq_eq_false_iff_ne]; omega) w k
end Go.Proofs.YtpnlmikjcpjjmaaDoor
namespace Go.Proofs.YtpnlmikjcpjjmaaDoor
open Go.RowKit Go.Shelf
attribute [local go_sem ↓] eql_nat neq_nat eql_int5 neq_int5

set_option maxHeartbeats 1000000 in
set_option maxRecDepth 100000 in
theorem kinds_core (b : Int) (g q m : Bool) (x0 x1 x2 x3 c n h : Int) (hq : eq5 g x0 x1 x2 x3 g x0 x1 x2 x3 = true) (w : World) (hT : Tb w)
    (k1 : ∀ W, Tb W → Calls Tryd.prog 74 #[.int .u64 b] W fun e w' => e = .returned (.tuple #[.agg #[.bool g, .int .u64 x0, .int .u64 x1, .int .u64 x2, .int .u64 x3], .bool q]) ∧ Below W.heap.size W w')
    (k2 : ∀ W, Calls Tryd.prog 75 #[.int .u64 b] W fun e w' => e = .returned (.tuple #[.agg #[.bool g, .int .u64 x0, .int .u64 x1, .int .u64 x2, .int .u64 x3], .bool q]) ∧ Below W.heap.size W w')
    (kt : ∀ W, Tb W → Calls Tryd.prog 76 #[] W fun e w' => e = .returned (.bool true) ∧ Below W.heap.size W w')
    (k3 : ∀ W, Tb W → Calls Tryd.prog 77 #[.int .u64 b] W fun e w' => e = .returned (.int .i64 c) ∧ Below W.heap.size W w')
    (k4 : ∀ W, Calls Tryd.prog 78 #[.int .u64 b] W fun e w' => e = .returned (.int .i64 c) ∧ Below W.heap.size W w')
    (k5 : ∀ W, Tb W → Calls Tryd.prog 79 #[.int .u64 b] W fun e w' => e = .returned (.bool m) ∧ Below W.heap.size W w')
    (k6 : ∀ W, Calls Tryd.prog 80 #[.int .u64 b] W fun e w' => e = .returned (.bool m) ∧ Below W.heap.size W w')
    (k7 : ∀ W, Calls Tryd.prog 81 #[.int .u64 b] W fun e w' => e = .returned (.int .u64 n) ∧ Below W.heap.size W w')
    (k8 : ∀ W, Calls Tryd.prog 82 #[.int .u64 b] W fun e w' => e = .returned (.int .u64 n) ∧ Below W.heap.size W w')
    (k9 : ∀ W, Tb W → Calls Tryd.prog 83 #[.int .u64 b] W fun e w' => e = .returned (.int .i64 h) ∧ Below W.heap.size W w')
    (k10 : ∀ W, Calls Tryd.prog 84 #[.int .u64 b] W fun e w' => e = .returned (.int .i64 h) ∧ Below W.heap.size W w') :
    Calls Tryd.prog 10 #[.int .u64 b] w fun e w' => e = .returned (.bool true) ∧ Below w.heap.size w w' := by
  have K1 := Lib.hid k1; clear k1
  have K2 := Lib.hid k2; clear k2
  have KT := Lib.hid kt; clear kt
  have K3 := Lib.hid k3; clear k3
  have K4 := Lib.hid k4; clear k4
  have K5 := Lib.hid k5; clear k5
  have K6 := Lib.hid k6; clear k6
  have K7 := Lib.hid k7; clear k7
  have K8 := Lib.hid k8; clear k8
  have K9 := Lib.hid k9; clear k9
  have K10 := Lib.hid k10; clear k10
  have HT := Lib.hid hT; have HQ := Lib.hid hq; clear hT hq
  go_enter Tryd.func10, Tryd.ntmps10
  go_wp2_with fail
  refine (K1.out _ (tb_on HT.out (by repeat (first | (with_reducible exact Below.refl _ _) | (with_reducible refine bal ?_ _) | (with_reducible refine Below.drew ?_) | (with_reducible refine bdn ?_ _))))).mono ?_
  rintro e w1 ⟨rfl, hb⟩
  have BW1 : Below w.heap.size w w1 := btr (by repeat (first | (with_reducible exact Below.refl _ _) | (with_reducible refine bal ?_ _) | (with_reducible refine Below.drew ?_) | (with_reducible refine bdn ?_ _))) hb
  clear hb
  go_wp2_with fail
  refine (K2.out _).mono ?_
  rintro e w2 ⟨rfl, hb⟩
  have BW2 : Below w.heap.size w w2 := btr (by repeat (first | (with_reducible exact BW1) | (with_reducible refine bal ?_ _) | (with_reducible refine Below.drew ?_) | (with_reducible refine bdn ?_ _))) hb
  have A2 : Row5 w2 w1.heap.size (.bool g) (.int .u64 x0) (.int .u64 x1) (.int .u64 x2) (.int .u64 x3) := Row5.keep hb (by repeat (first | (with_reducible exact Row5.new _ _ _ _ _ _) | ((with_reducible refine Row5.new' _ ?_ _ _ _ _ _); (simp; done)) | (with_reducible refine Row5.alloc ?_ _) | (with_reducible refine Row5.drew ?_)))
  clear BW1
  clear hb
  go_wp2_with fail
  refine (KT.out _ (tb_on HT.out (by repeat (first | (with_reducible exact BW2) | (with_reducible refine bal ?_ _) | (with_reducible refine Below.drew ?_) | (with_reducible refine bdn ?_ _))))).mono ?_
  rintro e w3 ⟨rfl, hb⟩
  have BW3 : Below w.heap.size w w3 := btr (by repeat (first | (with_reducible exact BW2) | (with_reducible refine bal ?_ _) | (with_reducible refine Below.drew ?_) | (with_reducible refine bdn ?_ _))) hb
  have A3 : Row5 w3 w1.heap.size (.bool g) (.int .u64 x0) (.int .u64 x1) (.int .u64 x2) (.int .u64 x3) := Row5.keep hb (by repeat (first | (with_reducible exact A2) | (with_reducible refine Row5.alloc ?_ _) | (with_reducible refine Row5.drew ?_)))
  have apB_A := A2.lt
  have apB_0 := (BW2).size
  have B3 : Row5 w3 w2.heap.size (.bool g) (.int .u64 x0) (.int .u64 x1) (.int .u64 x2) (.int .u64 x3) := Row5.keep hb (by repeat (first | (with_reducible exact Row5.new _ _ _ _ _ _) | ((with_reducible refine Row5.new' _ ?_ _ _ _ _ _); (simp; done)) | (with_reducible refine Row5.alloc ?_ _) | (with_reducible refine Row5.drew ?_)))
  clear A2
  clear BW2
  clear hb
  obtain ⟨Ac0, Ac1, Ac2, Ac3, Ac4⟩ := A3.parts
  obtain ⟨Af0, Af1, Af2, Af3, Af4⟩ := A3.free
  obtain ⟨Bc0, Bc1, Bc2, Bc3, Bc4⟩ := B3.parts
  obtain ⟨Bf0, Bf1, Bf2, Bf3, Bf4⟩ := B3.free
  have hq := HQ.out
  go_wp2_with fail
  refine (K3.out _ (tb_on HT.out (by repeat (first | (with_reducible exact BW3) | (with_reducible refine bal ?_ _) | (with_reducible refine Below.drew ?_) | (with_reducible refine bdn ?_ _))))).mono ?_
  rintro e w4 ⟨rfl, hb⟩
  have BW4 : Below w.heap.size w w4 := btr (by repeat (first | (with_reducible exact BW3) | (with_reducible refine bal ?_ _) | (with_reducible refine Below.drew ?_) | (with_reducible refine bdn ?_ _))) hb
  have A4 : Row5 w4 w1.heap.size (.bool g) (.int .u64 x0) (.int .u64 x1) (.int .u64 x2) (.int .u64 x3) := Row5.keep hb (by repeat (first | (with_reducible exact A3) | (with_reducible refine Row5.alloc ?_ _) | (with_reducible refine Row5.drew ?_)))
  have B4 : Row5 w4 w2.heap.size (.bool g) (.int .u64 x0) (.int .u64 x1) (.int .u64 x2) (.int .u64 x3) := Row5.keep hb (by repeat (first | (with_reducible exact B3) | (with_reducible refine Row5.alloc ?_ _) | (with_reducible refine Row5.drew ?_)))
  clear A3 B3
  clear BW3
  clear hb
  go_wp2_with fail
  refine (K4.out _).mono ?_
  rintro e w5 ⟨rfl, hb⟩
  have BW5 : Below w.heap.size w w5 := btr (by repeat (first | (with_reducible exact BW4) | (with_reducible refine bal ?_ _) | (with_reducible refine Below.drew ?_) | (with_reducible refine bdn ?_ _))) hb
  have A5 : Row5 w5 w1.heap.size (.bool g) (.int .u64 x0) (.int .u64 x1) (.int .u64 x2) (.int .u64 x3) := Row5.keep hb (by repeat (first | (with_reducible exact A4) | (with_reducible refine Row5.alloc ?_ _) | (with_reducible refine Row5.drew ?_)))
  have B5 : Row5 w5 w2.heap.size (.bool g) (.int .u64 x0) (.int .u64 x1) (.int .u64 x2) (.int .u64 x3) := Row5.keep hb (by repeat (first | (with_reducible exact B4) | (with_reducible refine Row5.alloc ?_ _) | (with_reducible refine Row5.drew ?_)))
  clear A4 B4
  clear BW4
  clear hb
  go_wp2_with fail
  refine (K5.out _ (tb_on HT.out (by repeat (first | (with_reducible exact BW5) | (with_reducible refine bal ?_ _) | (with_reducible refine Below.drew ?_) | (with_reducible refine bdn ?_ _))))).mono ?_
  rintro e w6 ⟨rfl, hb⟩
  have BW6 : Below w.heap.size w w6 := btr (by repeat (first | (with_reducible exact BW5) | (with_reducible refine bal ?_ _) | (with_reducible refine Below.drew ?_) | (with_reducible refine bdn ?_ _))) hb
  have A6 : Row5 w6 w1.heap.size (.bool g) (.int .u64 x0) (.int .u64 x1) (.int .u64 x2) (.int .u64 x3) := Row5.keep hb (by repeat (first | (with_reducible exact A5) | (with_reducible refine Row5.alloc ?_ _) | (with_reducible refine Row5.drew ?_)))
  have B6 : Row5 w6 w2.heap.size (.bool g) (.int .u64 x0) (.int .u64 x1) (.int .u64 x2) (.int .u64 x3) := Row5.keep hb (by repeat (first | (with_reducible exact B5) | (with_reducible refine Row5.alloc ?_ _) | (with_reducible refine Row5.drew ?_)))
  clear A5 B5
  clear BW5
  clear hb
  go_wp2_with fail
  refine (K6.out _).mono ?_
  rintro e w7 ⟨rfl, hb⟩
  have BW7 : Below w.heap.size w w7 := btr (by repeat (first | (with_reducible exact BW6) | (with_reducible refine bal ?_ _) | (with_reducible refine Below.drew ?_) | (with_reducible refine bdn ?_ _))) hb
  have A7 : Row5 w7 w1.heap.size (.bool g) (.int .u64 x0) (.int .u64 x1) (.int .u64 x2) (.int .u64 x3) := Row5.keep hb (by repeat (first | (with_reducible exact A6) | (with_reducible refine Row5.alloc ?_ _) | (with_reducible refine Row5.drew ?_)))
  have B7 : Row5 w7 w2.heap.size (.bool g) (.int .u64 x0) (.int .u64 x1) (.int .u64 x2) (.int .u64 x3) := Row5.keep hb (by repeat (first | (with_reducible exact B6) | (with_reducible refine Row5.alloc ?_ _) | (with_reducible refine Row5.drew ?_)))
  clear A6 B6
  clear BW6
  clear hb
  go_wp2_with fail
  refine (K7.out _).mono ?_
  rintro e w8 ⟨rfl, hb⟩
  have BW8 : Below w.heap.size w w8 := btr (by repeat (first | (with_reducible exact BW7) | (with_reducible refine bal ?_ _) | (with_reducible refine Below.drew ?_) | (with_reducible refine bdn ?_ _))) hb
  have A8 : Row5 w8 w1.heap.size (.bool g) (.int .u64 x0) (.int .u64 x1) (.int .u64 x2) (.int .u64 x3) := Row5.keep hb (by repeat (first | (with_reducible exact A7) | (with_reducible refine Row5.alloc ?_ _) | (with_reducible refine Row5.drew ?_)))
  have B8 : Row5 w8 w2.heap.size (.bool g) (.int .u64 x0) (.int .u64 x1) (.int .u64 x2) (.int .u64 x3) := Row5.keep hb (by repeat (first | (with_reducible exact B7) | (with_reducible refine Row5.alloc ?_ _) | (with_reducible refine Row5.drew ?_)))
  clear A7 B7
  clear BW7
  clear hb
  go_wp2_with fail
  refine (K8.out _).mono ?_
  rintro e w9 ⟨rfl, hb⟩
  have BW9 : Below w.heap.size w w9 := btr (by repeat (first | (with_reducible exact BW8) | (with_reducible refine bal ?_ _) | (with_reducible refine Below.drew ?_) | (with_reducible refine bdn ?_ _))) hb
  have A9 : Row5 w9 w1.heap.size (.bool g) (.int .u64 x0) (.int .u64 x1) (.int .u64 x2) (.int .u64 x3) := Row5.keep hb (by repeat (first | (with_reducible exact A8) | (with_reducible refine Row5.alloc ?_ _) | (with_reducible refine Row5.drew ?_)))
  have B9 : Row5 w9 w2.heap.size (.bool g) (.int .u64 x0) (.int .u64 x1) (.int .u64 x2) (.int .u64 x3) := Row5.keep hb (by repeat (first | (with_reducible exact B8) | (with_reducible refine Row5.alloc ?_ _) | (with_reducible refine Row5.drew ?_)))
  clear A8 B8
  clear BW8
  clear hb
  go_wp2_with fail
  refine (K9.out _ (tb_on HT.out (by repeat (first | (with_reducible exact BW9) | (with_reducible refine bal ?_ _) | (with_reducible refine Below.drew ?_) | (with_reducible refine bdn ?_ _))))).mono ?_
  rintro e w10 ⟨rfl, hb⟩
  have BW10 : Below w.heap.size w w10 := btr (by repeat (first | (with_reducible exact BW9) | (with_reducible refine bal ?_ _) | (with_reducible refine Below.drew ?_) | (with_reducible refine bdn ?_ _))) hb
  have A10 : Row5 w10 w1.heap.size (.bool g) (.int .u64 x0) (.int .u64 x1) (.int .u64 x2) (.int .u64 x3) := Row5.keep hb (by repeat (first | (with_reducible exact A9) | (with_reducible refine Row5.alloc ?_ _) | (with_reducible refine Row5.drew ?_)))
  have B10 : Row5 w10 w2.heap.size (.bool g) (.int .u64 x0) (.int .u64 x1) (.int .u64 x2) (.int .u64 x3) := Row5.keep hb (by repeat (first | (with_reducible exact B9) | (with_reducible refine Row5.alloc ?_ _) | (with_reducible refine Row5.drew ?_)))
  clear A9 B9
  clear BW9
  clear hb
  go_wp2_with fail
  refine (K10.out _).mono ?_
  rintro e w11 ⟨rfl, hb⟩
  have BW11 : Below w.heap.size w w11 := btr (by repeat (first | (with_reducible exact BW10) | (with_reducible refine bal ?_ _) | (with_reducible refine Below.drew ?_) | (with_reducible refine bdn ?_ _))) hb
  have A11 : Row5 w11 w1.heap.size (.bool g) (.int .u64 x0) (.int .u64 x1) (.int .u64 x2) (.int .u64 x3) := Row5.keep hb (by repeat (first | (with_reducible exact A10) | (with_reducible refine Row5.alloc ?_ _) | (with_reducible refine Row5.drew ?_)))
  have B11 : Row5 w11 w2.heap.size (.bool g) (.int .u64 x0) (.int .u64 x1) (.int .u64 x2) (.int .u64 x3) := Row5.keep hb (by repeat (first | (with_reducible exact B10) | (with_reducible refine Row5.alloc ?_ _) | (with_reducible refine Row5.drew ?_)))
  clear A10 B10
  clear BW10
  clear hb
  go_wp2
  go_ret
  exact ⟨rfl, BW11⟩
theorem kinds_any (b : Int) (h0 : 0 ≤ b) (h1 : b ≤ 18446744073709551615) (w : World) (hT : Tb w) :
    Calls Tryd.prog 10 #[.int .u64 b] w fun e w' => e = .returned (.bool true) ∧ Below w.heap.size w w' := by
  obtain ⟨b, rfl⟩ := Int.eq_ofNat_of_zero_le h0
  have hb : b < 18446744073709551616 := by omega
  have k1 := fun W hW => whole_any b hb W hW
  have k2 := fun W => rfwhole b hb W
  have kt := fun W hW => told3_true W hW
  have k3 := fun W hW => class_any b hb W hW
  have k4 := fun W => rclass b hb W
  have k5 := fun W hW => fmay_any b hb W hW
  have k6 := fun W => rmayf b hb W
  have k7 := fun W => calls_below (canon_any b hb W)
  have k8 := fun W => rcanon b hb W
  have k9 := fun W hW => calls_below (behind_any b hb W hW)
  have k10 := fun W => rbehind b hb W
  have hz : ∀ (z : Int), z.natAbs < 2 ^ 256 → eq5 (decide (z < 0)) (lb 0 z.natAbs) (lb 1 z.natAbs) (lb 2 z.natAbs) (lb 3 z.natAbs) (decide (z < 0)) (lb 0 z.natAbs) (lb 1 z.natAbs) (lb 2 z.natAbs) (lb 3 z.natAbs) = true := fun z h => by
    rw [eq5_int _ _ _ _ h h]
    exact decide_eq_true ⟨rfl, rfl⟩
  unfold WEnd at k1 k2
  cases hw : whl b with
  | some n =>
    have hn : n < 2 ^ 256 := by
      unfold whl at hw
      split at hw
      · rename_i hc; cases hw; exact hc.2.2
      · cases hw
    simp only [hw] at k1 k2
    have ha : (if sg b = 1 then -(n : Int) else (n : Int)).natAbs < 2 ^ 256 := by split <;> omega
    generalize (if sg b = 1 then -(n : Int) else (n : Int)) = z at *
    exact kinds_core b _ _ _ _ _ _ _ _ _ _ (hz z ha) w hT k1 k2 kt k3 k4 k5 k6 k7 k8 k9 k10
  | none =>
    simp only [hw] at k1 k2
    exact kinds_core b _ _ _ _ _ _ _ _ _ _ (show eq5 false 0 0 0 0 false 0 0 0 0 = true by decide) w hT k1 k2 kt k3 k4 k5 k6 k7 k8 k9 k10
end Go.Proofs.YtpnlmikjcpjjmaaDoor
