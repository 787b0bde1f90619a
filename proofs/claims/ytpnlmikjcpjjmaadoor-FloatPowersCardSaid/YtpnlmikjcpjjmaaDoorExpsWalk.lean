/-
  entrepotlaw3.FloatPowers: the walk. The table math/bits.deBruijn64tab reads as its initialiser lays it.
-/
import Derived.Test.YtpnlmikjcpjjmaaDoorFltF
namespace Go.Proofs.YtpnlmikjcpjjmaaDoor
open Go.RowKit Go.Shelf Go.Sort
attribute [local go_sem ↓] eql_nat neq_nat eql_int5 neq_int5

set_option maxHeartbeats 1000000 in
set_option maxRecDepth 100000 in
theorem powers_0 (k j B s h : Int) (hj : wrap64 ((IntKind.u64.wrap k).tmod 2098) = j) (h0 : 0 ≤ j) (h1 : j ≤ 51) (hB : IntKind.u64.wrap (2 ^ (-1074 + j + 1074).toNat) = B)
    (k1 : ∀ W, Tb W → Calls Tryd.prog 74 #[.int .u64 B] W fun e w' => e = .returned (.tuple #[.agg #[.bool false, .int .u64 0, .int .u64 0, .int .u64 0, .int .u64 0], .bool false]) ∧ Below W.heap.size W w')
    (k2 : ∀ W, Calls Tryd.prog 85 #[.int .u64 B] W fun e w' => e = .returned (.tuple #[.int .u32 s, .bool false]) ∧ Below W.heap.size W w')
    (k3 : ∀ W, Calls Tryd.prog 87 #[.int .u64 B] W fun e w' => e = .returned (.tuple #[.int .u16 h, .bool false]) ∧ Below W.heap.size W w')
    (k4 : ∀ W, Tb W → Calls Tryd.prog 77 #[.int .u64 B] W fun e w' => e = .returned (.int .i64 2) ∧ Below W.heap.size W w')
    (k5 : ∀ W, Tb W → Calls Tryd.prog 83 #[.int .u64 B] W fun e w' => e = .returned (.int .i64 (1074 - j)) ∧ Below W.heap.size W w')
    (kt : ∀ W, Tb W → Calls Tryd.prog 76 #[] W fun e w' => e = .returned (.bool true) ∧ Below W.heap.size W w') (w : World) (hT : Tb w) :
    Calls Tryd.prog 15 #[.int .i64 k] w fun e w' => e = .returned (.bool true) ∧ Below w.heap.size w w' := by
  have K1 := Lib.hid k1; clear k1
  have K2 := Lib.hid k2; clear k2
  have K3 := Lib.hid k3; clear k3
  have K4 := Lib.hid k4; clear k4
  have K5 := Lib.hid k5; clear k5
  have KT := Lib.hid kt; clear kt
  have HT := Lib.hid hT; clear hT
  have HBX := Lib.hid hB; clear hB
  have HM := Lib.hid (show max 0 (-(-1074 + j)) = 1074 - j by omega)
  go_enter Tryd.func15, Tryd.ntmps15
  go_wp2_with fail
  rw [HBX.out]
  refine (K1.out _ (tb_on HT.out (by repeat (first | (with_reducible exact Below.refl _ _) | (with_reducible refine bal ?_ _) | (with_reducible refine Below.drew ?_) | (with_reducible refine bdn ?_ _))))).mono ?_
  rintro e w1 ⟨rfl, hb⟩
  have BW1 : Below w.heap.size w w1 := btr (by repeat (first | (with_reducible exact Below.refl _ _) | (with_reducible refine bal ?_ _) | (with_reducible refine Below.drew ?_) | (with_reducible refine bdn ?_ _))) hb
  clear hb
  go_wp2_with fail
  (with_reducible refine (K2.out _).mono ?_)
  rintro e w2 ⟨rfl, hb⟩
  have BW2 : Below w.heap.size w w2 := btr (by repeat (first | (with_reducible exact BW1) | (with_reducible refine bal ?_ _) | (with_reducible refine Below.drew ?_) | (with_reducible refine bdn ?_ _))) hb
  have A2 : Row5 w2 w1.heap.size (.bool false) (.int .u64 0) (.int .u64 0) (.int .u64 0) (.int .u64 0) := Row5.keep hb (by repeat (first | (with_reducible exact Row5.new _ _ _ _ _ _) | ((with_reducible refine Row5.new' _ ?_ _ _ _ _ _); (simp; done)) | (with_reducible refine Row5.alloc ?_ _) | (with_reducible refine Row5.drew ?_)))
  clear BW1
  clear hb
  go_wp2_with fail
  (with_reducible refine (K3.out _).mono ?_)
  rintro e w3 ⟨rfl, hb⟩
  have BW3 : Below w.heap.size w w3 := btr (by repeat (first | (with_reducible exact BW2) | (with_reducible refine bal ?_ _) | (with_reducible refine Below.drew ?_) | (with_reducible refine bdn ?_ _))) hb
  have A3 : Row5 w3 w1.heap.size (.bool false) (.int .u64 0) (.int .u64 0) (.int .u64 0) (.int .u64 0) := Row5.keep hb (by repeat (first | (with_reducible exact A2) | (with_reducible refine Row5.alloc ?_ _) | (with_reducible refine Row5.drew ?_)))
  clear A2
  clear BW2
  clear hb
  go_wp2_with fail
  refine (K4.out _ (tb_on HT.out (by repeat (first | (with_reducible exact BW3) | (with_reducible refine bal ?_ _) | (with_reducible refine Below.drew ?_) | (with_reducible refine bdn ?_ _))))).mono ?_
  rintro e w4 ⟨rfl, hb⟩
  have BW4 : Below w.heap.size w w4 := btr (by repeat (first | (with_reducible exact BW3) | (with_reducible refine bal ?_ _) | (with_reducible refine Below.drew ?_) | (with_reducible refine bdn ?_ _))) hb
  have A4 : Row5 w4 w1.heap.size (.bool false) (.int .u64 0) (.int .u64 0) (.int .u64 0) (.int .u64 0) := Row5.keep hb (by repeat (first | (with_reducible exact A3) | (with_reducible refine Row5.alloc ?_ _) | (with_reducible refine Row5.drew ?_)))
  clear A3
  clear BW3
  clear hb
  go_wp2_with fail
  refine (K5.out _ (tb_on HT.out (by repeat (first | (with_reducible exact BW4) | (with_reducible refine bal ?_ _) | (with_reducible refine Below.drew ?_) | (with_reducible refine bdn ?_ _))))).mono ?_
  rintro e w5 ⟨rfl, hb⟩
  have BW5 : Below w.heap.size w w5 := btr (by repeat (first | (with_reducible exact BW4) | (with_reducible refine bal ?_ _) | (with_reducible refine Below.drew ?_) | (with_reducible refine bdn ?_ _))) hb
  have A5 : Row5 w5 w1.heap.size (.bool false) (.int .u64 0) (.int .u64 0) (.int .u64 0) (.int .u64 0) := Row5.keep hb (by repeat (first | (with_reducible exact A4) | (with_reducible refine Row5.alloc ?_ _) | (with_reducible refine Row5.drew ?_)))
  clear A4
  clear BW4
  clear hb
  have hm := HM.out
  go_wp2_with fail
  refine (KT.out _ (tb_on HT.out (by repeat (first | (with_reducible exact BW5) | (with_reducible refine bal ?_ _) | (with_reducible refine Below.drew ?_) | (with_reducible refine bdn ?_ _))))).mono ?_
  rintro e w6 ⟨rfl, hb⟩
  have BW6 : Below w.heap.size w w6 := btr (by repeat (first | (with_reducible exact BW5) | (with_reducible refine bal ?_ _) | (with_reducible refine Below.drew ?_) | (with_reducible refine bdn ?_ _))) hb
  have A6 : Row5 w6 w1.heap.size (.bool false) (.int .u64 0) (.int .u64 0) (.int .u64 0) (.int .u64 0) := Row5.keep hb (by repeat (first | (with_reducible exact A5) | (with_reducible refine Row5.alloc ?_ _) | (with_reducible refine Row5.drew ?_)))
  clear A5
  clear BW5
  clear hb
  go_wp2
  go_ret
  exact ⟨rfl, BW6⟩

set_option maxHeartbeats 1000000 in
set_option maxRecDepth 100000 in
theorem powers_1 (k j B s h : Int) (hj : wrap64 ((IntKind.u64.wrap k).tmod 2098) = j) (h0 : 52 ≤ j) (h1 : j ≤ 924) (hB : (-1074 + j + 1023) * 4503599627370496 = B)
    (k1 : ∀ W, Tb W → Calls Tryd.prog 74 #[.int .u64 B] W fun e w' => e = .returned (.tuple #[.agg #[.bool false, .int .u64 0, .int .u64 0, .int .u64 0, .int .u64 0], .bool false]) ∧ Below W.heap.size W w')
    (k2 : ∀ W, Calls Tryd.prog 85 #[.int .u64 B] W fun e w' => e = .returned (.tuple #[.int .u32 s, .bool false]) ∧ Below W.heap.size W w')
    (k3 : ∀ W, Calls Tryd.prog 87 #[.int .u64 B] W fun e w' => e = .returned (.tuple #[.int .u16 h, .bool false]) ∧ Below W.heap.size W w')
    (k4 : ∀ W, Tb W → Calls Tryd.prog 77 #[.int .u64 B] W fun e w' => e = .returned (.int .i64 2) ∧ Below W.heap.size W w')
    (k5 : ∀ W, Tb W → Calls Tryd.prog 83 #[.int .u64 B] W fun e w' => e = .returned (.int .i64 (1074 - j)) ∧ Below W.heap.size W w')
    (kt : ∀ W, Tb W → Calls Tryd.prog 76 #[] W fun e w' => e = .returned (.bool true) ∧ Below W.heap.size W w') (w : World) (hT : Tb w) :
    Calls Tryd.prog 15 #[.int .i64 k] w fun e w' => e = .returned (.bool true) ∧ Below w.heap.size w w' := by
  have K1 := Lib.hid k1; clear k1
  have K2 := Lib.hid k2; clear k2
  have K3 := Lib.hid k3; clear k3
  have K4 := Lib.hid k4; clear k4
  have K5 := Lib.hid k5; clear k5
  have KT := Lib.hid kt; clear kt
  have HT := Lib.hid hT; clear hT
  have HBX := Lib.hid hB; clear hB
  have HM := Lib.hid (show max 0 (-(-1074 + j)) = 1074 - j by omega)
  go_enter Tryd.func15, Tryd.ntmps15
  go_wp2_with fail
  rw [HBX.out]
  refine (K1.out _ (tb_on HT.out (by repeat (first | (with_reducible exact Below.refl _ _) | (with_reducible refine bal ?_ _) | (with_reducible refine Below.drew ?_) | (with_reducible refine bdn ?_ _))))).mono ?_
  rintro e w1 ⟨rfl, hb⟩
  have BW1 : Below w.heap.size w w1 := btr (by repeat (first | (with_reducible exact Below.refl _ _) | (with_reducible refine bal ?_ _) | (with_reducible refine Below.drew ?_) | (with_reducible refine bdn ?_ _))) hb
  clear hb
  go_wp2_with fail
  (with_reducible refine (K2.out _).mono ?_)
  rintro e w2 ⟨rfl, hb⟩
  have BW2 : Below w.heap.size w w2 := btr (by repeat (first | (with_reducible exact BW1) | (with_reducible refine bal ?_ _) | (with_reducible refine Below.drew ?_) | (with_reducible refine bdn ?_ _))) hb
  have A2 : Row5 w2 w1.heap.size (.bool false) (.int .u64 0) (.int .u64 0) (.int .u64 0) (.int .u64 0) := Row5.keep hb (by repeat (first | (with_reducible exact Row5.new _ _ _ _ _ _) | ((with_reducible refine Row5.new' _ ?_ _ _ _ _ _); (simp; done)) | (with_reducible refine Row5.alloc ?_ _) | (with_reducible refine Row5.drew ?_)))
  clear BW1
  clear hb
  go_wp2_with fail
  (with_reducible refine (K3.out _).mono ?_)
  rintro e w3 ⟨rfl, hb⟩
  have BW3 : Below w.heap.size w w3 := btr (by repeat (first | (with_reducible exact BW2) | (with_reducible refine bal ?_ _) | (with_reducible refine Below.drew ?_) | (with_reducible refine bdn ?_ _))) hb
  have A3 : Row5 w3 w1.heap.size (.bool false) (.int .u64 0) (.int .u64 0) (.int .u64 0) (.int .u64 0) := Row5.keep hb (by repeat (first | (with_reducible exact A2) | (with_reducible refine Row5.alloc ?_ _) | (with_reducible refine Row5.drew ?_)))
  clear A2
  clear BW2
  clear hb
  go_wp2_with fail
  refine (K4.out _ (tb_on HT.out (by repeat (first | (with_reducible exact BW3) | (with_reducible refine bal ?_ _) | (with_reducible refine Below.drew ?_) | (with_reducible refine bdn ?_ _))))).mono ?_
  rintro e w4 ⟨rfl, hb⟩
  have BW4 : Below w.heap.size w w4 := btr (by repeat (first | (with_reducible exact BW3) | (with_reducible refine bal ?_ _) | (with_reducible refine Below.drew ?_) | (with_reducible refine bdn ?_ _))) hb
  have A4 : Row5 w4 w1.heap.size (.bool false) (.int .u64 0) (.int .u64 0) (.int .u64 0) (.int .u64 0) := Row5.keep hb (by repeat (first | (with_reducible exact A3) | (with_reducible refine Row5.alloc ?_ _) | (with_reducible refine Row5.drew ?_)))
  clear A3
  clear BW3
  clear hb
  go_wp2_with fail
  refine (K5.out _ (tb_on HT.out (by repeat (first | (with_reducible exact BW4) | (with_reducible refine bal ?_ _) | (with_reducible refine Below.drew ?_) | (with_reducible refine bdn ?_ _))))).mono ?_
  rintro e w5 ⟨rfl, hb⟩
  have BW5 : Below w.heap.size w w5 := btr (by repeat (first | (with_reducible exact BW4) | (with_reducible refine bal ?_ _) | (with_reducible refine Below.drew ?_) | (with_reducible refine bdn ?_ _))) hb
  have A5 : Row5 w5 w1.heap.size (.bool false) (.int .u64 0) (.int .u64 0) (.int .u64 0) (.int .u64 0) := Row5.keep hb (by repeat (first | (with_reducible exact A4) | (with_reducible refine Row5.alloc ?_ _) | (with_reducible refine Row5.drew ?_)))
  clear A4
  clear BW4
  clear hb
  have hm := HM.out
  go_wp2_with fail
  refine (KT.out _ (tb_on HT.out (by repeat (first | (with_reducible exact BW5) | (with_reducible refine bal ?_ _) | (with_reducible refine Below.drew ?_) | (with_reducible refine bdn ?_ _))))).mono ?_
  rintro e w6 ⟨rfl, hb⟩
  have BW6 : Below w.heap.size w w6 := btr (by repeat (first | (with_reducible exact BW5) | (with_reducible refine bal ?_ _) | (with_reducible refine Below.drew ?_) | (with_reducible refine bdn ?_ _))) hb
  have A6 : Row5 w6 w1.heap.size (.bool false) (.int .u64 0) (.int .u64 0) (.int .u64 0) (.int .u64 0) := Row5.keep hb (by repeat (first | (with_reducible exact A5) | (with_reducible refine Row5.alloc ?_ _) | (with_reducible refine Row5.drew ?_)))
  clear A5
  clear BW5
  clear hb
  go_wp2
  go_ret
  exact ⟨rfl, BW6⟩

set_option maxHeartbeats 1000000 in
set_option maxRecDepth 100000 in
theorem powers_2 (k j B s h : Int) (hj : wrap64 ((IntKind.u64.wrap k).tmod 2098) = j) (h0 : 925 ≤ j) (h1 : j ≤ 1009) (hB : (-1074 + j + 1023) * 4503599627370496 = B)
    (k1 : ∀ W, Tb W → Calls Tryd.prog 74 #[.int .u64 B] W fun e w' => e = .returned (.tuple #[.agg #[.bool false, .int .u64 0, .int .u64 0, .int .u64 0, .int .u64 0], .bool false]) ∧ Below W.heap.size W w')
    (k2 : ∀ W, Calls Tryd.prog 85 #[.int .u64 B] W fun e w' => e = .returned (.tuple #[.int .u32 s, .bool true]) ∧ Below W.heap.size W w')
    (k3 : ∀ W, Calls Tryd.prog 87 #[.int .u64 B] W fun e w' => e = .returned (.tuple #[.int .u16 h, .bool false]) ∧ Below W.heap.size W w')
    (k4 : ∀ W, Tb W → Calls Tryd.prog 77 #[.int .u64 B] W fun e w' => e = .returned (.int .i64 2) ∧ Below W.heap.size W w')
    (k5 : ∀ W, Tb W → Calls Tryd.prog 83 #[.int .u64 B] W fun e w' => e = .returned (.int .i64 (1074 - j)) ∧ Below W.heap.size W w')
    (kt : ∀ W, Tb W → Calls Tryd.prog 76 #[] W fun e w' => e = .returned (.bool true) ∧ Below W.heap.size W w') (w : World) (hT : Tb w) :
    Calls Tryd.prog 15 #[.int .i64 k] w fun e w' => e = .returned (.bool true) ∧ Below w.heap.size w w' := by
  have K1 := Lib.hid k1; clear k1
  have K2 := Lib.hid k2; clear k2
  have K3 := Lib.hid k3; clear k3
  have K4 := Lib.hid k4; clear k4
  have K5 := Lib.hid k5; clear k5
  have KT := Lib.hid kt; clear kt
  have HT := Lib.hid hT; clear hT
  have HBX := Lib.hid hB; clear hB
  have HM := Lib.hid (show max 0 (-(-1074 + j)) = 1074 - j by omega)
  go_enter Tryd.func15, Tryd.ntmps15
  go_wp2_with fail
  rw [HBX.out]
  refine (K1.out _ (tb_on HT.out (by repeat (first | (with_reducible exact Below.refl _ _) | (with_reducible refine bal ?_ _) | (with_reducible refine Below.drew ?_) | (with_reducible refine bdn ?_ _))))).mono ?_
  rintro e w1 ⟨rfl, hb⟩
  have BW1 : Below w.heap.size w w1 := btr (by repeat (first | (with_reducible exact Below.refl _ _) | (with_reducible refine bal ?_ _) | (with_reducible refine Below.drew ?_) | (with_reducible refine bdn ?_ _))) hb
  clear hb
  go_wp2_with fail
  (with_reducible refine (K2.out _).mono ?_)
  rintro e w2 ⟨rfl, hb⟩
  have BW2 : Below w.heap.size w w2 := btr (by repeat (first | (with_reducible exact BW1) | (with_reducible refine bal ?_ _) | (with_reducible refine Below.drew ?_) | (with_reducible refine bdn ?_ _))) hb
  have A2 : Row5 w2 w1.heap.size (.bool false) (.int .u64 0) (.int .u64 0) (.int .u64 0) (.int .u64 0) := Row5.keep hb (by repeat (first | (with_reducible exact Row5.new _ _ _ _ _ _) | ((with_reducible refine Row5.new' _ ?_ _ _ _ _ _); (simp; done)) | (with_reducible refine Row5.alloc ?_ _) | (with_reducible refine Row5.drew ?_)))
  clear BW1
  clear hb
  go_wp2_with fail
  (with_reducible refine (K3.out _).mono ?_)
  rintro e w3 ⟨rfl, hb⟩
  have BW3 : Below w.heap.size w w3 := btr (by repeat (first | (with_reducible exact BW2) | (with_reducible refine bal ?_ _) | (with_reducible refine Below.drew ?_) | (with_reducible refine bdn ?_ _))) hb
  have A3 : Row5 w3 w1.heap.size (.bool false) (.int .u64 0) (.int .u64 0) (.int .u64 0) (.int .u64 0) := Row5.keep hb (by repeat (first | (with_reducible exact A2) | (with_reducible refine Row5.alloc ?_ _) | (with_reducible refine Row5.drew ?_)))
  clear A2
  clear BW2
  clear hb
  go_wp2_with fail
  refine (K4.out _ (tb_on HT.out (by repeat (first | (with_reducible exact BW3) | (with_reducible refine bal ?_ _) | (with_reducible refine Below.drew ?_) | (with_reducible refine bdn ?_ _))))).mono ?_
  rintro e w4 ⟨rfl, hb⟩
  have BW4 : Below w.heap.size w w4 := btr (by repeat (first | (with_reducible exact BW3) | (with_reducible refine bal ?_ _) | (with_reducible refine Below.drew ?_) | (with_reducible refine bdn ?_ _))) hb
  have A4 : Row5 w4 w1.heap.size (.bool false) (.int .u64 0) (.int .u64 0) (.int .u64 0) (.int .u64 0) := Row5.keep hb (by repeat (first | (with_reducible exact A3) | (with_reducible refine Row5.alloc ?_ _) | (with_reducible refine Row5.drew ?_)))
  clear A3
  clear BW3
  clear hb
  go_wp2_with fail
  refine (K5.out _ (tb_on HT.out (by repeat (first | (with_reducible exact BW4) | (with_reducible refine bal ?_ _) | (with_reducible refine Below.drew ?_) | (with_reducible refine bdn ?_ _))))).mono ?_
  rintro e w5 ⟨rfl, hb⟩
  have BW5 : Below w.heap.size w w5 := btr (by repeat (first | (with_reducible exact BW4) | (with_reducible refine bal ?_ _) | (with_reducible refine Below.drew ?_) | (with_reducible refine bdn ?_ _))) hb
  have A5 : Row5 w5 w1.heap.size (.bool false) (.int .u64 0) (.int .u64 0) (.int .u64 0) (.int .u64 0) := Row5.keep hb (by repeat (first | (with_reducible exact A4) | (with_reducible refine Row5.alloc ?_ _) | (with_reducible refine Row5.drew ?_)))
  clear A4
  clear BW4
  clear hb
  have hm := HM.out
  go_wp2_with fail
  refine (KT.out _ (tb_on HT.out (by repeat (first | (with_reducible exact BW5) | (with_reducible refine bal ?_ _) | (with_reducible refine Below.drew ?_) | (with_reducible refine bdn ?_ _))))).mono ?_
  rintro e w6 ⟨rfl, hb⟩
  have BW6 : Below w.heap.size w w6 := btr (by repeat (first | (with_reducible exact BW5) | (with_reducible refine bal ?_ _) | (with_reducible refine Below.drew ?_) | (with_reducible refine bdn ?_ _))) hb
  have A6 : Row5 w6 w1.heap.size (.bool false) (.int .u64 0) (.int .u64 0) (.int .u64 0) (.int .u64 0) := Row5.keep hb (by repeat (first | (with_reducible exact A5) | (with_reducible refine Row5.alloc ?_ _) | (with_reducible refine Row5.drew ?_)))
  clear A5
  clear BW5
  clear hb
  go_wp2
  go_ret
  exact ⟨rfl, BW6⟩

set_option maxHeartbeats 1000000 in
set_option maxRecDepth 100000 in
theorem powers_3 (k j B s h : Int) (hj : wrap64 ((IntKind.u64.wrap k).tmod 2098) = j) (h0 : 1010 ≤ j) (h1 : j ≤ 1049) (hB : (-1074 + j + 1023) * 4503599627370496 = B)
    (k1 : ∀ W, Tb W → Calls Tryd.prog 74 #[.int .u64 B] W fun e w' => e = .returned (.tuple #[.agg #[.bool false, .int .u64 0, .int .u64 0, .int .u64 0, .int .u64 0], .bool false]) ∧ Below W.heap.size W w')
    (k2 : ∀ W, Calls Tryd.prog 85 #[.int .u64 B] W fun e w' => e = .returned (.tuple #[.int .u32 s, .bool true]) ∧ Below W.heap.size W w')
    (k3 : ∀ W, Calls Tryd.prog 87 #[.int .u64 B] W fun e w' => e = .returned (.tuple #[.int .u16 h, .bool false]) ∧ Below W.heap.size W w')
    (k4 : ∀ W, Tb W → Calls Tryd.prog 77 #[.int .u64 B] W fun e w' => e = .returned (.int .i64 1) ∧ Below W.heap.size W w')
    (k5 : ∀ W, Tb W → Calls Tryd.prog 83 #[.int .u64 B] W fun e w' => e = .returned (.int .i64 (1074 - j)) ∧ Below W.heap.size W w')
    (kt : ∀ W, Tb W → Calls Tryd.prog 76 #[] W fun e w' => e = .returned (.bool true) ∧ Below W.heap.size W w') (w : World) (hT : Tb w) :
    Calls Tryd.prog 15 #[.int .i64 k] w fun e w' => e = .returned (.bool true) ∧ Below w.heap.size w w' := by
  have K1 := Lib.hid k1; clear k1
  have K2 := Lib.hid k2; clear k2
  have K3 := Lib.hid k3; clear k3
  have K4 := Lib.hid k4; clear k4
  have K5 := Lib.hid k5; clear k5
  have KT := Lib.hid kt; clear kt
  have HT := Lib.hid hT; clear hT
  have HBX := Lib.hid hB; clear hB
  have HM := Lib.hid (show max 0 (-(-1074 + j)) = 1074 - j by omega)
  go_enter Tryd.func15, Tryd.ntmps15
  go_wp2_with fail
  rw [HBX.out]
  refine (K1.out _ (tb_on HT.out (by repeat (first | (with_reducible exact Below.refl _ _) | (with_reducible refine bal ?_ _) | (with_reducible refine Below.drew ?_) | (with_reducible refine bdn ?_ _))))).mono ?_
  rintro e w1 ⟨rfl, hb⟩
  have BW1 : Below w.heap.size w w1 := btr (by repeat (first | (with_reducible exact Below.refl _ _) | (with_reducible refine bal ?_ _) | (with_reducible refine Below.drew ?_) | (with_reducible refine bdn ?_ _))) hb
  clear hb
  go_wp2_with fail
  (with_reducible refine (K2.out _).mono ?_)
  rintro e w2 ⟨rfl, hb⟩
  have BW2 : Below w.heap.size w w2 := btr (by repeat (first | (with_reducible exact BW1) | (with_reducible refine bal ?_ _) | (with_reducible refine Below.drew ?_) | (with_reducible refine bdn ?_ _))) hb
  have A2 : Row5 w2 w1.heap.size (.bool false) (.int .u64 0) (.int .u64 0) (.int .u64 0) (.int .u64 0) := Row5.keep hb (by repeat (first | (with_reducible exact Row5.new _ _ _ _ _ _) | ((with_reducible refine Row5.new' _ ?_ _ _ _ _ _); (simp; done)) | (with_reducible refine Row5.alloc ?_ _) | (with_reducible refine Row5.drew ?_)))
  clear BW1
  clear hb
  go_wp2_with fail
  (with_reducible refine (K3.out _).mono ?_)
  rintro e w3 ⟨rfl, hb⟩
  have BW3 : Below w.heap.size w w3 := btr (by repeat (first | (with_reducible exact BW2) | (with_reducible refine bal ?_ _) | (with_reducible refine Below.drew ?_) | (with_reducible refine bdn ?_ _))) hb
  have A3 : Row5 w3 w1.heap.size (.bool false) (.int .u64 0) (.int .u64 0) (.int .u64 0) (.int .u64 0) := Row5.keep hb (by repeat (first | (with_reducible exact A2) | (with_reducible refine Row5.alloc ?_ _) | (with_reducible refine Row5.drew ?_)))
  clear A2
  clear BW2
  clear hb
  go_wp2_with fail
  refine (K4.out _ (tb_on HT.out (by repeat (first | (with_reducible exact BW3) | (with_reducible refine bal ?_ _) | (with_reducible refine Below.drew ?_) | (with_reducible refine bdn ?_ _))))).mono ?_
  rintro e w4 ⟨rfl, hb⟩
  have BW4 : Below w.heap.size w w4 := btr (by repeat (first | (with_reducible exact BW3) | (with_reducible refine bal ?_ _) | (with_reducible refine Below.drew ?_) | (with_reducible refine bdn ?_ _))) hb
  have A4 : Row5 w4 w1.heap.size (.bool false) (.int .u64 0) (.int .u64 0) (.int .u64 0) (.int .u64 0) := Row5.keep hb (by repeat (first | (with_reducible exact A3) | (with_reducible refine Row5.alloc ?_ _) | (with_reducible refine Row5.drew ?_)))
  clear A3
  clear BW3
  clear hb
  go_wp2_with fail
  refine (K5.out _ (tb_on HT.out (by repeat (first | (with_reducible exact BW4) | (with_reducible refine bal ?_ _) | (with_reducible refine Below.drew ?_) | (with_reducible refine bdn ?_ _))))).mono ?_
  rintro e w5 ⟨rfl, hb⟩
  have BW5 : Below w.heap.size w w5 := btr (by repeat (first | (with_reducible exact BW4) | (with_reducible refine bal ?_ _) | (with_reducible refine Below.drew ?_) | (with_reducible refine bdn ?_ _))) hb
  have A5 : Row5 w5 w1.heap.size (.bool false) (.int .u64 0) (.int .u64 0) (.int .u64 0) (.int .u64 0) := Row5.keep hb (by repeat (first | (with_reducible exact A4) | (with_reducible refine Row5.alloc ?_ _) | (with_reducible refine Row5.drew ?_)))
  clear A4
  clear BW4
  clear hb
  have hm := HM.out
  go_wp2_with fail
  refine (KT.out _ (tb_on HT.out (by repeat (first | (with_reducible exact BW5) | (with_reducible refine bal ?_ _) | (with_reducible refine Below.drew ?_) | (with_reducible refine bdn ?_ _))))).mono ?_
  rintro e w6 ⟨rfl, hb⟩
  have BW6 : Below w.heap.size w w6 := btr (by repeat (first | (with_reducible exact BW5) | (with_reducible refine bal ?_ _) | (with_reducible refine Below.drew ?_) | (with_reducible refine bdn ?_ _))) hb
  have A6 : Row5 w6 w1.heap.size (.bool false) (.int .u64 0) (.int .u64 0) (.int .u64 0) (.int .u64 0) := Row5.keep hb (by repeat (first | (with_reducible exact A5) | (with_reducible refine Row5.alloc ?_ _) | (with_reducible refine Row5.drew ?_)))
  clear A5
  clear BW5
  clear hb
  go_wp2
  go_ret
  exact ⟨rfl, BW6⟩

set_option maxHeartbeats 1000000 in
set_option maxRecDepth 100000 in
theorem powers_4 (k j B s h : Int) (hj : wrap64 ((IntKind.u64.wrap k).tmod 2098) = j) (h0 : 1050 ≤ j) (h1 : j ≤ 1073) (hB : (-1074 + j + 1023) * 4503599627370496 = B)
    (k1 : ∀ W, Tb W → Calls Tryd.prog 74 #[.int .u64 B] W fun e w' => e = .returned (.tuple #[.agg #[.bool false, .int .u64 0, .int .u64 0, .int .u64 0, .int .u64 0], .bool false]) ∧ Below W.heap.size W w')
    (k2 : ∀ W, Calls Tryd.prog 85 #[.int .u64 B] W fun e w' => e = .returned (.tuple #[.int .u32 s, .bool true]) ∧ Below W.heap.size W w')
    (k3 : ∀ W, Calls Tryd.prog 87 #[.int .u64 B] W fun e w' => e = .returned (.tuple #[.int .u16 h, .bool true]) ∧ Below W.heap.size W w')
    (k4 : ∀ W, Tb W → Calls Tryd.prog 77 #[.int .u64 B] W fun e w' => e = .returned (.int .i64 1) ∧ Below W.heap.size W w')
    (k5 : ∀ W, Tb W → Calls Tryd.prog 83 #[.int .u64 B] W fun e w' => e = .returned (.int .i64 (1074 - j)) ∧ Below W.heap.size W w')
    (kt : ∀ W, Tb W → Calls Tryd.prog 76 #[] W fun e w' => e = .returned (.bool true) ∧ Below W.heap.size W w') (w : World) (hT : Tb w) :
    Calls Tryd.prog 15 #[.int .i64 k] w fun e w' => e = .returned (.bool true) ∧ Below w.heap.size w w' := by
  have K1 := Lib.hid k1; clear k1
  have K2 := Lib.hid k2; clear k2
  have K3 := Lib.hid k3; clear k3
  have K4 := Lib.hid k4; clear k4
  have K5 := Lib.hid k5; clear k5
  have KT := Lib.hid kt; clear kt
  have HT := Lib.hid hT; clear hT
  have HBX := Lib.hid hB; clear hB
  have HM := Lib.hid (show max 0 (-(-1074 + j)) = 1074 - j by omega)
  have HD := Lib.hid (show decide (-1074 + j ≤ 15) = true from decide_eq_true (by omega))
  go_enter Tryd.func15, Tryd.ntmps15
  go_wp2_with fail
  rw [HBX.out]
  refine (K1.out _ (tb_on HT.out (by repeat (first | (with_reducible exact Below.refl _ _) | (with_reducible refine bal ?_ _) | (with_reducible refine Below.drew ?_) | (with_reducible refine bdn ?_ _))))).mono ?_
  rintro e w1 ⟨rfl, hb⟩
  have BW1 : Below w.heap.size w w1 := btr (by repeat (first | (with_reducible exact Below.refl _ _) | (with_reducible refine bal ?_ _) | (with_reducible refine Below.drew ?_) | (with_reducible refine bdn ?_ _))) hb
  clear hb
  go_wp2_with fail
  (with_reducible refine (K2.out _).mono ?_)
  rintro e w2 ⟨rfl, hb⟩
  have BW2 : Below w.heap.size w w2 := btr (by repeat (first | (with_reducible exact BW1) | (with_reducible refine bal ?_ _) | (with_reducible refine Below.drew ?_) | (with_reducible refine bdn ?_ _))) hb
  have A2 : Row5 w2 w1.heap.size (.bool false) (.int .u64 0) (.int .u64 0) (.int .u64 0) (.int .u64 0) := Row5.keep hb (by repeat (first | (with_reducible exact Row5.new _ _ _ _ _ _) | ((with_reducible refine Row5.new' _ ?_ _ _ _ _ _); (simp; done)) | (with_reducible refine Row5.alloc ?_ _) | (with_reducible refine Row5.drew ?_)))
  clear BW1
  clear hb
  go_wp2_with fail
  (with_reducible refine (K3.out _).mono ?_)
  rintro e w3 ⟨rfl, hb⟩
  have BW3 : Below w.heap.size w w3 := btr (by repeat (first | (with_reducible exact BW2) | (with_reducible refine bal ?_ _) | (with_reducible refine Below.drew ?_) | (with_reducible refine bdn ?_ _))) hb
  have A3 : Row5 w3 w1.heap.size (.bool false) (.int .u64 0) (.int .u64 0) (.int .u64 0) (.int .u64 0) := Row5.keep hb (by repeat (first | (with_reducible exact A2) | (with_reducible refine Row5.alloc ?_ _) | (with_reducible refine Row5.drew ?_)))
  clear A2
  clear BW2
  clear hb
  go_wp2_with fail
  refine (K4.out _ (tb_on HT.out (by repeat (first | (with_reducible exact BW3) | (with_reducible refine bal ?_ _) | (with_reducible refine Below.drew ?_) | (with_reducible refine bdn ?_ _))))).mono ?_
  rintro e w4 ⟨rfl, hb⟩
  have BW4 : Below w.heap.size w w4 := btr (by repeat (first | (with_reducible exact BW3) | (with_reducible refine bal ?_ _) | (with_reducible refine Below.drew ?_) | (with_reducible refine bdn ?_ _))) hb
  have A4 : Row5 w4 w1.heap.size (.bool false) (.int .u64 0) (.int .u64 0) (.int .u64 0) (.int .u64 0) := Row5.keep hb (by repeat (first | (with_reducible exact A3) | (with_reducible refine Row5.alloc ?_ _) | (with_reducible refine Row5.drew ?_)))
  clear A3
  clear BW3
  clear hb
  go_wp2_with fail
  refine (K5.out _ (tb_on HT.out (by repeat (first | (with_reducible exact BW4) | (with_reducible refine bal ?_ _) | (with_reducible refine Below.drew ?_) | (with_reducible refine bdn ?_ _))))).mono ?_
  rintro e w5 ⟨rfl, hb⟩
  have BW5 : Below w.heap.size w w5 := btr (by repeat (first | (with_reducible exact BW4) | (with_reducible refine bal ?_ _) | (with_reducible refine Below.drew ?_) | (with_reducible refine bdn ?_ _))) hb
  have A5 : Row5 w5 w1.heap.size (.bool false) (.int .u64 0) (.int .u64 0) (.int .u64 0) (.int .u64 0) := Row5.keep hb (by repeat (first | (with_reducible exact A4) | (with_reducible refine Row5.alloc ?_ _) | (with_reducible refine Row5.drew ?_)))
  clear A4
  clear BW4
  clear hb
  have hm := HM.out
  go_wp2_with fail
  refine (KT.out _ (tb_on HT.out (by repeat (first | (with_reducible exact BW5) | (with_reducible refine bal ?_ _) | (with_reducible refine Below.drew ?_) | (with_reducible refine bdn ?_ _))))).mono ?_
  rintro e w6 ⟨rfl, hb⟩
  have BW6 : Below w.heap.size w w6 := btr (by repeat (first | (with_reducible exact BW5) | (with_reducible refine bal ?_ _) | (with_reducible refine Below.drew ?_) | (with_reducible refine bdn ?_ _))) hb
  have A6 : Row5 w6 w1.heap.size (.bool false) (.int .u64 0) (.int .u64 0) (.int .u64 0) (.int .u64 0) := Row5.keep hb (by repeat (first | (with_reducible exact A5) | (with_reducible refine Row5.alloc ?_ _) | (with_reducible refine Row5.drew ?_)))
  clear A5
  clear BW5
  clear hb
  have hd := HD.out
  go_wp2
  go_ret
  exact ⟨rfl, BW6⟩

set_option maxHeartbeats 1000000 in
set_option maxRecDepth 100000 in
theorem powers_5 (k j B s h P : Int) (hj : wrap64 ((IntKind.u64.wrap k).tmod 2098) = j) (h0 : 1074 ≤ j) (h1 : j ≤ 1089) (hB : (-1074 + j + 1023) * 4503599627370496 = B) (hq : (-1074 + j) / 64 = 0) (hP : IntKind.u64.wrap (2 ^ ((-1074 + j) % 64).toNat) = P)
    (k1 : ∀ W, Tb W → Calls Tryd.prog 74 #[.int .u64 B] W fun e w' => e = .returned (.tuple #[.agg #[.bool false, .int .u64 P, .int .u64 0, .int .u64 0, .int .u64 0], .bool true]) ∧ Below W.heap.size W w')
    (k2 : ∀ W, Calls Tryd.prog 85 #[.int .u64 B] W fun e w' => e = .returned (.tuple #[.int .u32 s, .bool true]) ∧ Below W.heap.size W w')
    (k3 : ∀ W, Calls Tryd.prog 87 #[.int .u64 B] W fun e w' => e = .returned (.tuple #[.int .u16 h, .bool true]) ∧ Below W.heap.size W w')
    (k4 : ∀ W, Tb W → Calls Tryd.prog 77 #[.int .u64 B] W fun e w' => e = .returned (.int .i64 0) ∧ Below W.heap.size W w')
    (k5 : ∀ W, Tb W → Calls Tryd.prog 83 #[.int .u64 B] W fun e w' => e = .returned (.int .i64 0) ∧ Below W.heap.size W w')
    (kt : ∀ W, Tb W → Calls Tryd.prog 76 #[] W fun e w' => e = .returned (.bool true) ∧ Below W.heap.size W w') (w : World) (hT : Tb w) :
    Calls Tryd.prog 15 #[.int .i64 k] w fun e w' => e = .returned (.bool true) ∧ Below w.heap.size w w' := by
  have K1 := Lib.hid k1; clear k1
  have K2 := Lib.hid k2; clear k2
  have K3 := Lib.hid k3; clear k3
  have K4 := Lib.hid k4; clear k4
  have K5 := Lib.hid k5; clear k5
  have KT := Lib.hid kt; clear kt
  have HT := Lib.hid hT; clear hT
  have HP := Lib.hid hP; clear hP
  have hr0 : 0 ≤ (-1074 + j) % 64 := by omega
  have hr1 : (-1074 + j) % 64 < 64 := by omega
  have HBX := Lib.hid hB; clear hB
  have HM := Lib.hid (show max 0 (-(-1074 + j)) = 0 by omega)
  have HD := Lib.hid (show decide (-1074 + j ≤ 15) = true from decide_eq_true (by omega))
  go_enter Tryd.func15, Tryd.ntmps15
  go_wp2_with fail
  rw [HBX.out]
  refine (K1.out _ (tb_on HT.out (by repeat (first | (with_reducible exact Below.refl _ _) | (with_reducible refine bal ?_ _) | (with_reducible refine Below.drew ?_) | (with_reducible refine bdn ?_ _))))).mono ?_
  rintro e w1 ⟨rfl, hb⟩
  have BW1 : Below w.heap.size w w1 := btr (by repeat (first | (with_reducible exact Below.refl _ _) | (with_reducible refine bal ?_ _) | (with_reducible refine Below.drew ?_) | (with_reducible refine bdn ?_ _))) hb
  clear hb
  go_wp2_with fail
  (with_reducible refine (K2.out _).mono ?_)
  rintro e w2 ⟨rfl, hb⟩
  have BW2 : Below w.heap.size w w2 := btr (by repeat (first | (with_reducible exact BW1) | (with_reducible refine bal ?_ _) | (with_reducible refine Below.drew ?_) | (with_reducible refine bdn ?_ _))) hb
  have A2 : Row5 w2 w1.heap.size (.bool false) (.int .u64 P) (.int .u64 0) (.int .u64 0) (.int .u64 0) := Row5.keep hb (by repeat (first | (with_reducible exact Row5.new _ _ _ _ _ _) | ((with_reducible refine Row5.new' _ ?_ _ _ _ _ _); (simp; done)) | (with_reducible refine Row5.alloc ?_ _) | (with_reducible refine Row5.drew ?_)))
  clear BW1
  clear hb
  go_wp2_with fail
  (with_reducible refine (K3.out _).mono ?_)
  rintro e w3 ⟨rfl, hb⟩
  have BW3 : Below w.heap.size w w3 := btr (by repeat (first | (with_reducible exact BW2) | (with_reducible refine bal ?_ _) | (with_reducible refine Below.drew ?_) | (with_reducible refine bdn ?_ _))) hb
  have A3 : Row5 w3 w1.heap.size (.bool false) (.int .u64 P) (.int .u64 0) (.int .u64 0) (.int .u64 0) := Row5.keep hb (by repeat (first | (with_reducible exact A2) | (with_reducible refine Row5.alloc ?_ _) | (with_reducible refine Row5.drew ?_)))
  clear A2
  clear BW2
  clear hb
  go_wp2_with fail
  refine (K4.out _ (tb_on HT.out (by repeat (first | (with_reducible exact BW3) | (with_reducible refine bal ?_ _) | (with_reducible refine Below.drew ?_) | (with_reducible refine bdn ?_ _))))).mono ?_
  rintro e w4 ⟨rfl, hb⟩
  have BW4 : Below w.heap.size w w4 := btr (by repeat (first | (with_reducible exact BW3) | (with_reducible refine bal ?_ _) | (with_reducible refine Below.drew ?_) | (with_reducible refine bdn ?_ _))) hb
  have A4 : Row5 w4 w1.heap.size (.bool false) (.int .u64 P) (.int .u64 0) (.int .u64 0) (.int .u64 0) := Row5.keep hb (by repeat (first | (with_reducible exact A3) | (with_reducible refine Row5.alloc ?_ _) | (with_reducible refine Row5.drew ?_)))
  clear A3
  clear BW3
  clear hb
  go_wp2_with fail
  refine (K5.out _ (tb_on HT.out (by repeat (first | (with_reducible exact BW4) | (with_reducible refine bal ?_ _) | (with_reducible refine Below.drew ?_) | (with_reducible refine bdn ?_ _))))).mono ?_
  rintro e w5 ⟨rfl, hb⟩
  have BW5 : Below w.heap.size w w5 := btr (by repeat (first | (with_reducible exact BW4) | (with_reducible refine bal ?_ _) | (with_reducible refine Below.drew ?_) | (with_reducible refine bdn ?_ _))) hb
  have A5 : Row5 w5 w1.heap.size (.bool false) (.int .u64 P) (.int .u64 0) (.int .u64 0) (.int .u64 0) := Row5.keep hb (by repeat (first | (with_reducible exact A4) | (with_reducible refine Row5.alloc ?_ _) | (with_reducible refine Row5.drew ?_)))
  clear A4
  clear BW4
  clear hb
  have hm := HM.out
  obtain ⟨Ac0, Ac1, Ac2, Ac3, Ac4⟩ := A5.parts
  obtain ⟨Af0, Af1, Af2, Af3, Af4⟩ := A5.free
  have hP := HP.out
  go_wp2_with fail
  refine (KT.out _ (tb_on HT.out (by repeat (first | (with_reducible exact BW5) | (with_reducible refine bal ?_ _) | (with_reducible refine Below.drew ?_) | (with_reducible refine bdn ?_ _))))).mono ?_
  rintro e w6 ⟨rfl, hb⟩
  have BW6 : Below w.heap.size w w6 := btr (by repeat (first | (with_reducible exact BW5) | (with_reducible refine bal ?_ _) | (with_reducible refine Below.drew ?_) | (with_reducible refine bdn ?_ _))) hb
  have A6 : Row5 w6 w1.heap.size (.bool false) (.int .u64 P) (.int .u64 0) (.int .u64 0) (.int .u64 0) := Row5.keep hb (by repeat (first | (with_reducible exact A5) | (with_reducible refine Row5.alloc ?_ _) | (with_reducible refine Row5.drew ?_)))
  clear A5
  clear BW5
  clear hb
  have hd := HD.out
  go_wp2
  go_ret
  exact ⟨rfl, BW6⟩

set_option maxHeartbeats 1000000 in
set_option maxRecDepth 100000 in
theorem powers_6 (k j B s h P : Int) (hj : wrap64 ((IntKind.u64.wrap k).tmod 2098) = j) (h0 : 1090 ≤ j) (h1 : j ≤ 1137) (hB : (-1074 + j + 1023) * 4503599627370496 = B) (hq : (-1074 + j) / 64 = 0) (hP : IntKind.u64.wrap (2 ^ ((-1074 + j) % 64).toNat) = P)
    (k1 : ∀ W, Tb W → Calls Tryd.prog 74 #[.int .u64 B] W fun e w' => e = .returned (.tuple #[.agg #[.bool false, .int .u64 P, .int .u64 0, .int .u64 0, .int .u64 0], .bool true]) ∧ Below W.heap.size W w')
    (k2 : ∀ W, Calls Tryd.prog 85 #[.int .u64 B] W fun e w' => e = .returned (.tuple #[.int .u32 s, .bool true]) ∧ Below W.heap.size W w')
    (k3 : ∀ W, Calls Tryd.prog 87 #[.int .u64 B] W fun e w' => e = .returned (.tuple #[.int .u16 h, .bool false]) ∧ Below W.heap.size W w')
    (k4 : ∀ W, Tb W → Calls Tryd.prog 77 #[.int .u64 B] W fun e w' => e = .returned (.int .i64 0) ∧ Below W.heap.size W w')
    (k5 : ∀ W, Tb W → Calls Tryd.prog 83 #[.int .u64 B] W fun e w' => e = .returned (.int .i64 0) ∧ Below W.heap.size W w')
    (kt : ∀ W, Tb W → Calls Tryd.prog 76 #[] W fun e w' => e = .returned (.bool true) ∧ Below W.heap.size W w') (w : World) (hT : Tb w) :
    Calls Tryd.prog 15 #[.int .i64 k] w fun e w' => e = .returned (.bool true) ∧ Below w.heap.size w w' := by
  have K1 := Lib.hid k1; clear k1
  have K2 := Lib.hid k2; clear k2
  have K3 := Lib.hid k3; clear k3
  have K4 := Lib.hid k4; clear k4
  have K5 := Lib.hid k5; clear k5
  have KT := Lib.hid kt; clear kt
  have HT := Lib.hid hT; clear hT
  have HP := Lib.hid hP; clear hP
  have hr0 : 0 ≤ (-1074 + j) % 64 := by omega
  have hr1 : (-1074 + j) % 64 < 64 := by omega
  have HBX := Lib.hid hB; clear hB
  have HM := Lib.hid (show max 0 (-(-1074 + j)) = 0 by omega)
  have HD := Lib.hid (show decide (-1074 + j ≤ 15) = false from decide_eq_false (by omega))
  go_enter Tryd.func15, Tryd.ntmps15
  go_wp2_with fail
  rw [HBX.out]
  refine (K1.out _ (tb_on HT.out (by repeat (first | (with_reducible exact Below.refl _ _) | (with_reducible refine bal ?_ _) | (with_reducible refine Below.drew ?_) | (with_reducible refine bdn ?_ _))))).mono ?_
  rintro e w1 ⟨rfl, hb⟩
  have BW1 : Below w.heap.size w w1 := btr (by repeat (first | (with_reducible exact Below.refl _ _) | (with_reducible refine bal ?_ _) | (with_reducible refine Below.drew ?_) | (with_reducible refine bdn ?_ _))) hb
  clear hb
  go_wp2_with fail
  (with_reducible refine (K2.out _).mono ?_)
  rintro e w2 ⟨rfl, hb⟩
  have BW2 : Below w.heap.size w w2 := btr (by repeat (first | (with_reducible exact BW1) | (with_reducible refine bal ?_ _) | (with_reducible refine Below.drew ?_) | (with_reducible refine bdn ?_ _))) hb
  have A2 : Row5 w2 w1.heap.size (.bool false) (.int .u64 P) (.int .u64 0) (.int .u64 0) (.int .u64 0) := Row5.keep hb (by repeat (first | (with_reducible exact Row5.new _ _ _ _ _ _) | ((with_reducible refine Row5.new' _ ?_ _ _ _ _ _); (simp; done)) | (with_reducible refine Row5.alloc ?_ _) | (with_reducible refine Row5.drew ?_)))
  clear BW1
  clear hb
  go_wp2_with fail
  (with_reducible refine (K3.out _).mono ?_)
  rintro e w3 ⟨rfl, hb⟩
  have BW3 : Below w.heap.size w w3 := btr (by repeat (first | (with_reducible exact BW2) | (with_reducible refine bal ?_ _) | (with_reducible refine Below.drew ?_) | (with_reducible refine bdn ?_ _))) hb
  have A3 : Row5 w3 w1.heap.size (.bool false) (.int .u64 P) (.int .u64 0) (.int .u64 0) (.int .u64 0) := Row5.keep hb (by repeat (first | (with_reducible exact A2) | (with_reducible refine Row5.alloc ?_ _) | (with_reducible refine Row5.drew ?_)))
  clear A2
  clear BW2
  clear hb
  go_wp2_with fail
  refine (K4.out _ (tb_on HT.out (by repeat (first | (with_reducible exact BW3) | (with_reducible refine bal ?_ _) | (with_reducible refine Below.drew ?_) | (with_reducible refine bdn ?_ _))))).mono ?_
  rintro e w4 ⟨rfl, hb⟩
  have BW4 : Below w.heap.size w w4 := btr (by repeat (first | (with_reducible exact BW3) | (with_reducible refine bal ?_ _) | (with_reducible refine Below.drew ?_) | (with_reducible refine bdn ?_ _))) hb
  have A4 : Row5 w4 w1.heap.size (.bool false) (.int .u64 P) (.int .u64 0) (.int .u64 0) (.int .u64 0) := Row5.keep hb (by repeat (first | (with_reducible exact A3) | (with_reducible refine Row5.alloc ?_ _) | (with_reducible refine Row5.drew ?_)))
  clear A3
  clear BW3
  clear hb
  go_wp2_with fail
  refine (K5.out _ (tb_on HT.out (by repeat (first | (with_reducible exact BW4) | (with_reducible refine bal ?_ _) | (with_reducible refine Below.drew ?_) | (with_reducible refine bdn ?_ _))))).mono ?_
  rintro e w5 ⟨rfl, hb⟩
  have BW5 : Below w.heap.size w w5 := btr (by repeat (first | (with_reducible exact BW4) | (with_reducible refine bal ?_ _) | (with_reducible refine Below.drew ?_) | (with_reducible refine bdn ?_ _))) hb
  have A5 : Row5 w5 w1.heap.size (.bool false) (.int .u64 P) (.int .u64 0) (.int .u64 0) (.int .u64 0) := Row5.keep hb (by repeat (first | (with_reducible exact A4) | (with_reducible refine Row5.alloc ?_ _) | (with_reducible refine Row5.drew ?_)))
  clear A4
  clear BW4
  clear hb
  have hm := HM.out
  obtain ⟨Ac0, Ac1, Ac2, Ac3, Ac4⟩ := A5.parts
  obtain ⟨Af0, Af1, Af2, Af3, Af4⟩ := A5.free
  have hP := HP.out
  go_wp2_with fail
  refine (KT.out _ (tb_on HT.out (by repeat (first | (with_reducible exact BW5) | (with_reducible refine bal ?_ _) | (with_reducible refine Below.drew ?_) | (with_reducible refine bdn ?_ _))))).mono ?_
  rintro e w6 ⟨rfl, hb⟩
  have BW6 : Below w.heap.size w w6 := btr (by repeat (first | (with_reducible exact BW5) | (with_reducible refine bal ?_ _) | (with_reducible refine Below.drew ?_) | (with_reducible refine bdn ?_ _))) hb
  have A6 : Row5 w6 w1.heap.size (.bool false) (.int .u64 P) (.int .u64 0) (.int .u64 0) (.int .u64 0) := Row5.keep hb (by repeat (first | (with_reducible exact A5) | (with_reducible refine Row5.alloc ?_ _) | (with_reducible refine Row5.drew ?_)))
  clear A5
  clear BW5
  clear hb
  have hd := HD.out
  go_wp2
  go_ret
  exact ⟨rfl, BW6⟩

set_option maxHeartbeats 1000000 in
set_option maxRecDepth 100000 in
theorem powers_7 (k j B s h P : Int) (hj : wrap64 ((IntKind.u64.wrap k).tmod 2098) = j) (h0 : 1138 ≤ j) (h1 : j ≤ 1201) (hB : (-1074 + j + 1023) * 4503599627370496 = B) (hq : (-1074 + j) / 64 = 1) (hP : IntKind.u64.wrap (2 ^ ((-1074 + j) % 64).toNat) = P)
    (k1 : ∀ W, Tb W → Calls Tryd.prog 74 #[.int .u64 B] W fun e w' => e = .returned (.tuple #[.agg #[.bool false, .int .u64 0, .int .u64 P, .int .u64 0, .int .u64 0], .bool true]) ∧ Below W.heap.size W w')
    (k2 : ∀ W, Calls Tryd.prog 85 #[.int .u64 B] W fun e w' => e = .returned (.tuple #[.int .u32 s, .bool true]) ∧ Below W.heap.size W w')
    (k3 : ∀ W, Calls Tryd.prog 87 #[.int .u64 B] W fun e w' => e = .returned (.tuple #[.int .u16 h, .bool false]) ∧ Below W.heap.size W w')
    (k4 : ∀ W, Tb W → Calls Tryd.prog 77 #[.int .u64 B] W fun e w' => e = .returned (.int .i64 0) ∧ Below W.heap.size W w')
    (k5 : ∀ W, Tb W → Calls Tryd.prog 83 #[.int .u64 B] W fun e w' => e = .returned (.int .i64 0) ∧ Below W.heap.size W w')
    (kt : ∀ W, Tb W → Calls Tryd.prog 76 #[] W fun e w' => e = .returned (.bool true) ∧ Below W.heap.size W w') (w : World) (hT : Tb w) :
    Calls Tryd.prog 15 #[.int .i64 k] w fun e w' => e = .returned (.bool true) ∧ Below w.heap.size w w' := by
  have K1 := Lib.hid k1; clear k1
  have K2 := Lib.hid k2; clear k2
  have K3 := Lib.hid k3; clear k3
  have K4 := Lib.hid k4; clear k4
  have K5 := Lib.hid k5; clear k5
  have KT := Lib.hid kt; clear kt
  have HT := Lib.hid hT; clear hT
  have HP := Lib.hid hP; clear hP
  have hr0 : 0 ≤ (-1074 + j) % 64 := by omega
  have hr1 : (-1074 + j) % 64 < 64 := by omega
  have HBX := Lib.hid hB; clear hB
  have HM := Lib.hid (show max 0 (-(-1074 + j)) = 0 by omega)
  have HD := Lib.hid (show decide (-1074 + j ≤ 15) = false from decide_eq_false (by omega))
  go_enter Tryd.func15, Tryd.ntmps15
  go_wp2_with fail
  rw [HBX.out]
  refine (K1.out _ (tb_on HT.out (by repeat (first | (with_reducible exact Below.refl _ _) | (with_reducible refine bal ?_ _) | (with_reducible refine Below.drew ?_) | (with_reducible refine bdn ?_ _))))).mono ?_
  rintro e w1 ⟨rfl, hb⟩
  have BW1 : Below w.heap.size w w1 := btr (by repeat (first | (with_reducible exact Below.refl _ _) | (with_reducible refine bal ?_ _) | (with_reducible refine Below.drew ?_) | (with_reducible refine bdn ?_ _))) hb
  clear hb
  go_wp2_with fail
  (with_reducible refine (K2.out _).mono ?_)
  rintro e w2 ⟨rfl, hb⟩
  have BW2 : Below w.heap.size w w2 := btr (by repeat (first | (with_reducible exact BW1) | (with_reducible refine bal ?_ _) | (with_reducible refine Below.drew ?_) | (with_reducible refine bdn ?_ _))) hb
  have A2 : Row5 w2 w1.heap.size (.bool false) (.int .u64 0) (.int .u64 P) (.int .u64 0) (.int .u64 0) := Row5.keep hb (by repeat (first | (with_reducible exact Row5.new _ _ _ _ _ _) | ((with_reducible refine Row5.new' _ ?_ _ _ _ _ _); (simp; done)) | (with_reducible refine Row5.alloc ?_ _) | (with_reducible refine Row5.drew ?_)))
  clear BW1
  clear hb
  go_wp2_with fail
  (with_reducible refine (K3.out _).mono ?_)
  rintro e w3 ⟨rfl, hb⟩
  have BW3 : Below w.heap.size w w3 := btr (by repeat (first | (with_reducible exact BW2) | (with_reducible refine bal ?_ _) | (with_reducible refine Below.drew ?_) | (with_reducible refine bdn ?_ _))) hb
  have A3 : Row5 w3 w1.heap.size (.bool false) (.int .u64 0) (.int .u64 P) (.int .u64 0) (.int .u64 0) := Row5.keep hb (by repeat (first | (with_reducible exact A2) | (with_reducible refine Row5.alloc ?_ _) | (with_reducible refine Row5.drew ?_)))
  clear A2
  clear BW2
  clear hb
  go_wp2_with fail
  refine (K4.out _ (tb_on HT.out (by repeat (first | (with_reducible exact BW3) | (with_reducible refine bal ?_ _) | (with_reducible refine Below.drew ?_) | (with_reducible refine bdn ?_ _))))).mono ?_
  rintro e w4 ⟨rfl, hb⟩
  have BW4 : Below w.heap.size w w4 := btr (by repeat (first | (with_reducible exact BW3) | (with_reducible refine bal ?_ _) | (with_reducible refine Below.drew ?_) | (with_reducible refine bdn ?_ _))) hb
  have A4 : Row5 w4 w1.heap.size (.bool false) (.int .u64 0) (.int .u64 P) (.int .u64 0) (.int .u64 0) := Row5.keep hb (by repeat (first | (with_reducible exact A3) | (with_reducible refine Row5.alloc ?_ _) | (with_reducible refine Row5.drew ?_)))
  clear A3
  clear BW3
  clear hb
  go_wp2_with fail
  refine (K5.out _ (tb_on HT.out (by repeat (first | (with_reducible exact BW4) | (with_reducible refine bal ?_ _) | (with_reducible refine Below.drew ?_) | (with_reducible refine bdn ?_ _))))).mono ?_
  rintro e w5 ⟨rfl, hb⟩
  have BW5 : Below w.heap.size w w5 := btr (by repeat (first | (with_reducible exact BW4) | (with_reducible refine bal ?_ _) | (with_reducible refine Below.drew ?_) | (with_reducible refine bdn ?_ _))) hb
  have A5 : Row5 w5 w1.heap.size (.bool false) (.int .u64 0) (.int .u64 P) (.int .u64 0) (.int .u64 0) := Row5.keep hb (by repeat (first | (with_reducible exact A4) | (with_reducible refine Row5.alloc ?_ _) | (with_reducible refine Row5.drew ?_)))
  clear A4
  clear BW4
  clear hb
  have hm := HM.out
  obtain ⟨Ac0, Ac1, Ac2, Ac3, Ac4⟩ := A5.parts
  obtain ⟨Af0, Af1, Af2, Af3, Af4⟩ := A5.free
  have hP := HP.out
  go_wp2_with fail
  refine (KT.out _ (tb_on HT.out (by repeat (first | (with_reducible exact BW5) | (with_reducible refine bal ?_ _) | (with_reducible refine Below.drew ?_) | (with_reducible refine bdn ?_ _))))).mono ?_
  rintro e w6 ⟨rfl, hb⟩
  have BW6 : Below w.heap.size w w6 := btr (by repeat (first | (with_reducible exact BW5) | (with_reducible refine bal ?_ _) | (with_reducible refine Below.drew ?_) | (with_reducible refine bdn ?_ _))) hb
  have A6 : Row5 w6 w1.heap.size (.bool false) (.int .u64 0) (.int .u64 P) (.int .u64 0) (.int .u64 0) := Row5.keep hb (by repeat (first | (with_reducible exact A5) | (with_reducible refine Row5.alloc ?_ _) | (with_reducible refine Row5.drew ?_)))
  clear A5
  clear BW5
  clear hb
  have hd := HD.out
  go_wp2
  go_ret
  exact ⟨rfl, BW6⟩

set_option maxHeartbeats 1000000 in
set_option maxRecDepth 100000 in
theorem powers_8 (k j B s h P : Int) (hj : wrap64 ((IntKind.u64.wrap k).tmod 2098) = j) (h0 : 1202 ≤ j) (h1 : j ≤ 1265) (hB : (-1074 + j + 1023) * 4503599627370496 = B) (hq : (-1074 + j) / 64 = 2) (hP : IntKind.u64.wrap (2 ^ ((-1074 + j) % 64).toNat) = P)
    (k1 : ∀ W, Tb W → Calls Tryd.prog 74 #[.int .u64 B] W fun e w' => e = .returned (.tuple #[.agg #[.bool false, .int .u64 0, .int .u64 0, .int .u64 P, .int .u64 0], .bool true]) ∧ Below W.heap.size W w')
    (k2 : ∀ W, Calls Tryd.prog 85 #[.int .u64 B] W fun e w' => e = .returned (.tuple #[.int .u32 s, .bool false]) ∧ Below W.heap.size W w')
    (k3 : ∀ W, Calls Tryd.prog 87 #[.int .u64 B] W fun e w' => e = .returned (.tuple #[.int .u16 h, .bool false]) ∧ Below W.heap.size W w')
    (k4 : ∀ W, Tb W → Calls Tryd.prog 77 #[.int .u64 B] W fun e w' => e = .returned (.int .i64 0) ∧ Below W.heap.size W w')
    (k5 : ∀ W, Tb W → Calls Tryd.prog 83 #[.int .u64 B] W fun e w' => e = .returned (.int .i64 0) ∧ Below W.heap.size W w')
    (kt : ∀ W, Tb W → Calls Tryd.prog 76 #[] W fun e w' => e = .returned (.bool true) ∧ Below W.heap.size W w') (w : World) (hT : Tb w) :
    Calls Tryd.prog 15 #[.int .i64 k] w fun e w' => e = .returned (.bool true) ∧ Below w.heap.size w w' := by
  have K1 := Lib.hid k1; clear k1
  have K2 := Lib.hid k2; clear k2
  have K3 := Lib.hid k3; clear k3
  have K4 := Lib.hid k4; clear k4
  have K5 := Lib.hid k5; clear k5
  have KT := Lib.hid kt; clear kt
  have HT := Lib.hid hT; clear hT
  have HP := Lib.hid hP; clear hP
  have hr0 : 0 ≤ (-1074 + j) % 64 := by omega
  have hr1 : (-1074 + j) % 64 < 64 := by omega
  have HBX := Lib.hid hB; clear hB
  have HM := Lib.hid (show max 0 (-(-1074 + j)) = 0 by omega)
  have HD := Lib.hid (show decide (-1074 + j ≤ 15) = false from decide_eq_false (by omega))
  have HD2 := Lib.hid (show decide (-1074 + j ≤ 127) = false from decide_eq_false (by omega))
  go_enter Tryd.func15, Tryd.ntmps15
  go_wp2_with fail
  rw [HBX.out]
  refine (K1.out _ (tb_on HT.out (by repeat (first | (with_reducible exact Below.refl _ _) | (with_reducible refine bal ?_ _) | (with_reducible refine Below.drew ?_) | (with_reducible refine bdn ?_ _))))).mono ?_
  rintro e w1 ⟨rfl, hb⟩
  have BW1 : Below w.heap.size w w1 := btr (by repeat (first | (with_reducible exact Below.refl _ _) | (with_reducible refine bal ?_ _) | (with_reducible refine Below.drew ?_) | (with_reducible refine bdn ?_ _))) hb
  clear hb
  go_wp2_with fail
  (with_reducible refine (K2.out _).mono ?_)
  rintro e w2 ⟨rfl, hb⟩
  have BW2 : Below w.heap.size w w2 := btr (by repeat (first | (with_reducible exact BW1) | (with_reducible refine bal ?_ _) | (with_reducible refine Below.drew ?_) | (with_reducible refine bdn ?_ _))) hb
  have A2 : Row5 w2 w1.heap.size (.bool false) (.int .u64 0) (.int .u64 0) (.int .u64 P) (.int .u64 0) := Row5.keep hb (by repeat (first | (with_reducible exact Row5.new _ _ _ _ _ _) | ((with_reducible refine Row5.new' _ ?_ _ _ _ _ _); (simp; done)) | (with_reducible refine Row5.alloc ?_ _) | (with_reducible refine Row5.drew ?_)))
  clear BW1
  clear hb
  go_wp2_with fail
  (with_reducible refine (K3.out _).mono ?_)
  rintro e w3 ⟨rfl, hb⟩
  have BW3 : Below w.heap.size w w3 := btr (by repeat (first | (with_reducible exact BW2) | (with_reducible refine bal ?_ _) | (with_reducible refine Below.drew ?_) | (with_reducible refine bdn ?_ _))) hb
  have A3 : Row5 w3 w1.heap.size (.bool false) (.int .u64 0) (.int .u64 0) (.int .u64 P) (.int .u64 0) := Row5.keep hb (by repeat (first | (with_reducible exact A2) | (with_reducible refine Row5.alloc ?_ _) | (with_reducible refine Row5.drew ?_)))
  clear A2
  clear BW2
  clear hb
  go_wp2_with fail
  refine (K4.out _ (tb_on HT.out (by repeat (first | (with_reducible exact BW3) | (with_reducible refine bal ?_ _) | (with_reducible refine Below.drew ?_) | (with_reducible refine bdn ?_ _))))).mono ?_
  rintro e w4 ⟨rfl, hb⟩
  have BW4 : Below w.heap.size w w4 := btr (by repeat (first | (with_reducible exact BW3) | (with_reducible refine bal ?_ _) | (with_reducible refine Below.drew ?_) | (with_reducible refine bdn ?_ _))) hb
  have A4 : Row5 w4 w1.heap.size (.bool false) (.int .u64 0) (.int .u64 0) (.int .u64 P) (.int .u64 0) := Row5.keep hb (by repeat (first | (with_reducible exact A3) | (with_reducible refine Row5.alloc ?_ _) | (with_reducible refine Row5.drew ?_)))
  clear A3
  clear BW3
  clear hb
  go_wp2_with fail
  refine (K5.out _ (tb_on HT.out (by repeat (first | (with_reducible exact BW4) | (with_reducible refine bal ?_ _) | (with_reducible refine Below.drew ?_) | (with_reducible refine bdn ?_ _))))).mono ?_
  rintro e w5 ⟨rfl, hb⟩
  have BW5 : Below w.heap.size w w5 := btr (by repeat (first | (with_reducible exact BW4) | (with_reducible refine bal ?_ _) | (with_reducible refine Below.drew ?_) | (with_reducible refine bdn ?_ _))) hb
  have A5 : Row5 w5 w1.heap.size (.bool false) (.int .u64 0) (.int .u64 0) (.int .u64 P) (.int .u64 0) := Row5.keep hb (by repeat (first | (with_reducible exact A4) | (with_reducible refine Row5.alloc ?_ _) | (with_reducible refine Row5.drew ?_)))
  clear A4
  clear BW4
  clear hb
  have hm := HM.out
  obtain ⟨Ac0, Ac1, Ac2, Ac3, Ac4⟩ := A5.parts
  obtain ⟨Af0, Af1, Af2, Af3, Af4⟩ := A5.free
  have hP := HP.out
  go_wp2_with fail
  refine (KT.out _ (tb_on HT.out (by repeat (first | (with_reducible exact BW5) | (with_reducible refine bal ?_ _) | (with_reducible refine Below.drew ?_) | (with_reducible refine bdn ?_ _))))).mono ?_
  rintro e w6 ⟨rfl, hb⟩
  have BW6 : Below w.heap.size w w6 := btr (by repeat (first | (with_reducible exact BW5) | (with_reducible refine bal ?_ _) | (with_reducible refine Below.drew ?_) | (with_reducible refine bdn ?_ _))) hb
  have A6 : Row5 w6 w1.heap.size (.bool false) (.int .u64 0) (.int .u64 0) (.int .u64 P) (.int .u64 0) := Row5.keep hb (by repeat (first | (with_reducible exact A5) | (with_reducible refine Row5.alloc ?_ _) | (with_reducible refine Row5.drew ?_)))
  clear A5
  clear BW5
  clear hb
  have hd := HD.out
  have hd2 := HD2.out
  go_wp2
  go_ret
  exact ⟨rfl, BW6⟩

set_option maxHeartbeats 1000000 in
set_option maxRecDepth 100000 in
theorem powers_9 (k j B s h P : Int) (hj : wrap64 ((IntKind.u64.wrap k).tmod 2098) = j) (h0 : 1266 ≤ j) (h1 : j ≤ 1329) (hB : (-1074 + j + 1023) * 4503599627370496 = B) (hq : (-1074 + j) / 64 = 3) (hP : IntKind.u64.wrap (2 ^ ((-1074 + j) % 64).toNat) = P)
    (k1 : ∀ W, Tb W → Calls Tryd.prog 74 #[.int .u64 B] W fun e w' => e = .returned (.tuple #[.agg #[.bool false, .int .u64 0, .int .u64 0, .int .u64 0, .int .u64 P], .bool true]) ∧ Below W.heap.size W w')
    (k2 : ∀ W, Calls Tryd.prog 85 #[.int .u64 B] W fun e w' => e = .returned (.tuple #[.int .u32 s, .bool false]) ∧ Below W.heap.size W w')
    (k3 : ∀ W, Calls Tryd.prog 87 #[.int .u64 B] W fun e w' => e = .returned (.tuple #[.int .u16 h, .bool false]) ∧ Below W.heap.size W w')
    (k4 : ∀ W, Tb W → Calls Tryd.prog 77 #[.int .u64 B] W fun e w' => e = .returned (.int .i64 0) ∧ Below W.heap.size W w')
    (k5 : ∀ W, Tb W → Calls Tryd.prog 83 #[.int .u64 B] W fun e w' => e = .returned (.int .i64 0) ∧ Below W.heap.size W w')
    (kt : ∀ W, Tb W → Calls Tryd.prog 76 #[] W fun e w' => e = .returned (.bool true) ∧ Below W.heap.size W w') (w : World) (hT : Tb w) :
    Calls Tryd.prog 15 #[.int .i64 k] w fun e w' => e = .returned (.bool true) ∧ Below w.heap.size w w' := by
  have K1 := Lib.hid k1; clear k1
  have K2 := Lib.hid k2; clear k2
  have K3 := Lib.hid k3; clear k3
  have K4 := Lib.hid k4; clear k4
  have K5 := Lib.hid k5; clear k5
  have KT := Lib.hid kt; clear kt
  have HT := Lib.hid hT; clear hT
  have HP := Lib.hid hP; clear hP
  have hr0 : 0 ≤ (-1074 + j) % 64 := by omega
  have hr1 : (-1074 + j) % 64 < 64 := by omega
  have HBX := Lib.hid hB; clear hB
  have HM := Lib.hid (show max 0 (-(-1074 + j)) = 0 by omega)
  have HD := Lib.hid (show decide (-1074 + j ≤ 15) = false from decide_eq_false (by omega))
  have HD2 := Lib.hid (show decide (-1074 + j ≤ 127) = false from decide_eq_false (by omega))
  go_enter Tryd.func15, Tryd.ntmps15
  go_wp2_with fail
  rw [HBX.out]
  refine (K1.out _ (tb_on HT.out (by repeat (first | (with_reducible exact Below.refl _ _) | (with_reducible refine bal ?_ _) | (with_reducible refine Below.drew ?_) | (with_reducible refine bdn ?_ _))))).mono ?_
  rintro e w1 ⟨rfl, hb⟩
  have BW1 : Below w.heap.size w w1 := btr (by repeat (first | (with_reducible exact Below.refl _ _) | (with_reducible refine bal ?_ _) | (with_reducible refine Below.drew ?_) | (with_reducible refine bdn ?_ _))) hb
  clear hb
  go_wp2_with fail
  (with_reducible refine (K2.out _).mono ?_)
  rintro e w2 ⟨rfl, hb⟩
  have BW2 : Below w.heap.size w w2 := btr (by repeat (first | (with_reducible exact BW1) | (with_reducible refine bal ?_ _) | (with_reducible refine Below.drew ?_) | (with_reducible refine bdn ?_ _))) hb
  have A2 : Row5 w2 w1.heap.size (.bool false) (.int .u64 0) (.int .u64 0) (.int .u64 0) (.int .u64 P) := Row5.keep hb (by repeat (first | (with_reducible exact Row5.new _ _ _ _ _ _) | ((with_reducible refine Row5.new' _ ?_ _ _ _ _ _); (simp; done)) | (with_reducible refine Row5.alloc ?_ _) | (with_reducible refine Row5.drew ?_)))
  clear BW1
  clear hb
  go_wp2_with fail
  (with_reducible refine (K3.out _).mono ?_)
  rintro e w3 ⟨rfl, hb⟩
  have BW3 : Below w.heap.size w w3 := btr (by repeat (first | (with_reducible exact BW2) | (with_reducible refine bal ?_ _) | (with_reducible refine Below.drew ?_) | (with_reducible refine bdn ?_ _))) hb
  have A3 : Row5 w3 w1.heap.size (.bool false) (.int .u64 0) (.int .u64 0) (.int .u64 0) (.int .u64 P) := Row5.keep hb (by repeat (first | (with_reducible exact A2) | (with_reducible refine Row5.alloc ?_ _) | (with_reducible refine Row5.drew ?_)))
  clear A2
  clear BW2
  clear hb
  go_wp2_with fail
  refine (K4.out _ (tb_on HT.out (by repeat (first | (with_reducible exact BW3) | (with_reducible refine bal ?_ _) | (with_reducible refine Below.drew ?_) | (with_reducible refine bdn ?_ _))))).mono ?_
  rintro e w4 ⟨rfl, hb⟩
  have BW4 : Below w.heap.size w w4 := btr (by repeat (first | (with_reducible exact BW3) | (with_reducible refine bal ?_ _) | (with_reducible refine Below.drew ?_) | (with_reducible refine bdn ?_ _))) hb
  have A4 : Row5 w4 w1.heap.size (.bool false) (.int .u64 0) (.int .u64 0) (.int .u64 0) (.int .u64 P) := Row5.keep hb (by repeat (first | (with_reducible exact A3) | (with_reducible refine Row5.alloc ?_ _) | (with_reducible refine Row5.drew ?_)))
  clear A3
  clear BW3
  clear hb
  go_wp2_with fail
  refine (K5.out _ (tb_on HT.out (by repeat (first | (with_reducible exact BW4) | (with_reducible refine bal ?_ _) | (with_reducible refine Below.drew ?_) | (with_reducible refine bdn ?_ _))))).mono ?_
  rintro e w5 ⟨rfl, hb⟩
  have BW5 : Below w.heap.size w w5 := btr (by repeat (first | (with_reducible exact BW4) | (with_reducible refine bal ?_ _) | (with_reducible refine Below.drew ?_) | (with_reducible refine bdn ?_ _))) hb
  have A5 : Row5 w5 w1.heap.size (.bool false) (.int .u64 0) (.int .u64 0) (.int .u64 0) (.int .u64 P) := Row5.keep hb (by repeat (first | (with_reducible exact A4) | (with_reducible refine Row5.alloc ?_ _) | (with_reducible refine Row5.drew ?_)))
  clear A4
  clear BW4
  clear hb
  have hm := HM.out
  obtain ⟨Ac0, Ac1, Ac2, Ac3, Ac4⟩ := A5.parts
  obtain ⟨Af0, Af1, Af2, Af3, Af4⟩ := A5.free
  have hP := HP.out
  go_wp2_with fail
  refine (KT.out _ (tb_on HT.out (by repeat (first | (with_reducible exact BW5) | (with_reducible refine bal ?_ _) | (with_reducible refine Below.drew ?_) | (with_reducible refine bdn ?_ _))))).mono ?_
  rintro e w6 ⟨rfl, hb⟩
  have BW6 : Below w.heap.size w w6 := btr (by repeat (first | (with_reducible exact BW5) | (with_reducible refine bal ?_ _) | (with_reducible refine Below.drew ?_) | (with_reducible refine bdn ?_ _))) hb
  have A6 : Row5 w6 w1.heap.size (.bool false) (.int .u64 0) (.int .u64 0) (.int .u64 0) (.int .u64 P) := Row5.keep hb (by repeat (first | (with_reducible exact A5) | (with_reducible refine Row5.alloc ?_ _) | (with_reducible refine Row5.drew ?_)))
  clear A5
  clear BW5
  clear hb
  have hd := HD.out
  have hd2 := HD2.out
  go_wp2
  go_ret
  exact ⟨rfl, BW6⟩

set_option maxHeartbeats 1000000 in
set_option maxRecDepth 100000 in
theorem powers_10 (k j B s h : Int) (hj : wrap64 ((IntKind.u64.wrap k).tmod 2098) = j) (h0 : 1330 ≤ j) (h1 : j ≤ 2097) (hB : (-1074 + j + 1023) * 4503599627370496 = B)
    (k1 : ∀ W, Tb W → Calls Tryd.prog 74 #[.int .u64 B] W fun e w' => e = .returned (.tuple #[.agg #[.bool false, .int .u64 0, .int .u64 0, .int .u64 0, .int .u64 0], .bool false]) ∧ Below W.heap.size W w')
    (k2 : ∀ W, Calls Tryd.prog 85 #[.int .u64 B] W fun e w' => e = .returned (.tuple #[.int .u32 s, .bool false]) ∧ Below W.heap.size W w')
    (k3 : ∀ W, Calls Tryd.prog 87 #[.int .u64 B] W fun e w' => e = .returned (.tuple #[.int .u16 h, .bool false]) ∧ Below W.heap.size W w')
    (k4 : ∀ W, Tb W → Calls Tryd.prog 77 #[.int .u64 B] W fun e w' => e = .returned (.int .i64 2) ∧ Below W.heap.size W w')
    (k5 : ∀ W, Tb W → Calls Tryd.prog 83 #[.int .u64 B] W fun e w' => e = .returned (.int .i64 0) ∧ Below W.heap.size W w')
    (kt : ∀ W, Tb W → Calls Tryd.prog 76 #[] W fun e w' => e = .returned (.bool true) ∧ Below W.heap.size W w') (w : World) (hT : Tb w) :
    Calls Tryd.prog 15 #[.int .i64 k] w fun e w' => e = .returned (.bool true) ∧ Below w.heap.size w w' := by
  have K1 := Lib.hid k1; clear k1
  have K2 := Lib.hid k2; clear k2
  have K3 := Lib.hid k3; clear k3
  have K4 := Lib.hid k4; clear k4
  have K5 := Lib.hid k5; clear k5
  have KT := Lib.hid kt; clear kt
  have HT := Lib.hid hT; clear hT
  have HBX := Lib.hid hB; clear hB
  have HM := Lib.hid (show max 0 (-(-1074 + j)) = 0 by omega)
  have HD := Lib.hid (show decide (-1074 + j ≤ 15) = false from decide_eq_false (by omega))
  have HD2 := Lib.hid (show decide (-1074 + j ≤ 127) = false from decide_eq_false (by omega))
  go_enter Tryd.func15, Tryd.ntmps15
  go_wp2_with fail
  rw [HBX.out]
  refine (K1.out _ (tb_on HT.out (by repeat (first | (with_reducible exact Below.refl _ _) | (with_reducible refine bal ?_ _) | (with_reducible refine Below.drew ?_) | (with_reducible refine bdn ?_ _))))).mono ?_
  rintro e w1 ⟨rfl, hb⟩
  have BW1 : Below w.heap.size w w1 := btr (by repeat (first | (with_reducible exact Below.refl _ _) | (with_reducible refine bal ?_ _) | (with_reducible refine Below.drew ?_) | (with_reducible refine bdn ?_ _))) hb
  clear hb
  go_wp2_with fail
  (with_reducible refine (K2.out _).mono ?_)
  rintro e w2 ⟨rfl, hb⟩
  have BW2 : Below w.heap.size w w2 := btr (by repeat (first | (with_reducible exact BW1) | (with_reducible refine bal ?_ _) | (with_reducible refine Below.drew ?_) | (with_reducible refine bdn ?_ _))) hb
  have A2 : Row5 w2 w1.heap.size (.bool false) (.int .u64 0) (.int .u64 0) (.int .u64 0) (.int .u64 0) := Row5.keep hb (by repeat (first | (with_reducible exact Row5.new _ _ _ _ _ _) | ((with_reducible refine Row5.new' _ ?_ _ _ _ _ _); (simp; done)) | (with_reducible refine Row5.alloc ?_ _) | (with_reducible refine Row5.drew ?_)))
  clear BW1
  clear hb
  go_wp2_with fail
  (with_reducible refine (K3.out _).mono ?_)
  rintro e w3 ⟨rfl, hb⟩
  have BW3 : Below w.heap.size w w3 := btr (by repeat (first | (with_reducible exact BW2) | (with_reducible refine bal ?_ _) | (with_reducible refine Below.drew ?_) | (with_reducible refine bdn ?_ _))) hb
  have A3 : Row5 w3 w1.heap.size (.bool false) (.int .u64 0) (.int .u64 0) (.int .u64 0) (.int .u64 0) := Row5.keep hb (by repeat (first | (with_reducible exact A2) | (with_reducible refine Row5.alloc ?_ _) | (with_reducible refine Row5.drew ?_)))
  clear A2
  clear BW2
  clear hb
  go_wp2_with fail
  refine (K4.out _ (tb_on HT.out (by repeat (first | (with_reducible exact BW3) | (with_reducible refine bal ?_ _) | (with_reducible refine Below.drew ?_) | (with_reducible refine bdn ?_ _))))).mono ?_
  rintro e w4 ⟨rfl, hb⟩
  have BW4 : Below w.heap.size w w4 := btr (by repeat (first | (with_reducible exact BW3) | (with_reducible refine bal ?_ _) | (with_reducible refine Below.drew ?_) | (with_reducible refine bdn ?_ _))) hb
  have A4 : Row5 w4 w1.heap.size (.bool false) (.int .u64 0) (.int .u64 0) (.int .u64 0) (.int .u64 0) := Row5.keep hb (by repeat (first | (with_reducible exact A3) | (with_reducible refine Row5.alloc ?_ _) | (with_reducible refine Row5.drew ?_)))
  clear A3
  clear BW3
  clear hb
  go_wp2_with fail
  refine (K5.out _ (tb_on HT.out (by repeat (first | (with_reducible exact BW4) | (with_reducible refine bal ?_ _) | (with_reducible refine Below.drew ?_) | (with_reducible refine bdn ?_ _))))).mono ?_
  rintro e w5 ⟨rfl, hb⟩
  have BW5 : Below w.heap.size w w5 := btr (by repeat (first | (with_reducible exact BW4) | (with_reducible refine bal ?_ _) | (with_reducible refine Below.drew ?_) | (with_reducible refine bdn ?_ _))) hb
  have A5 : Row5 w5 w1.heap.size (.bool false) (.int .u64 0) (.int .u64 0) (.int .u64 0) (.int .u64 0) := Row5.keep hb (by repeat (first | (with_reducible exact A4) | (with_reducible refine Row5.alloc ?_ _) | (with_reducible refine Row5.drew ?_)))
  clear A4
  clear BW4
  clear hb
  have hm := HM.out
  go_wp2_with fail
  refine (KT.out _ (tb_on HT.out (by repeat (first | (with_reducible exact BW5) | (with_reducible refine bal ?_ _) | (with_reducible refine Below.drew ?_) | (with_reducible refine bdn ?_ _))))).mono ?_
  rintro e w6 ⟨rfl, hb⟩
  have BW6 : Below w.heap.size w w6 := btr (by repeat (first | (with_reducible exact BW5) | (with_reducible refine bal ?_ _) | (with_reducible refine Below.drew ?_) | (with_reducible refine bdn ?_ _))) hb
  have A6 : Row5 w6 w1.heap.size (.bool false) (.int .u64 0) (.int .u64 0) (.int .u64 0) (.int .u64 0) := Row5.keep hb (by repeat (first | (with_reducible exact A5) | (with_reducible refine Row5.alloc ?_ _) | (with_reducible refine Row5.drew ?_)))
  clear A5
  clear BW5
  clear hb
  have hd := HD.out
  have hd2 := HD2.out
  go_wp2
  go_ret
  exact ⟨rfl, BW6⟩

end Go.Proofs.YtpnlmikjcpjjmaaDoor
