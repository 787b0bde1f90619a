/-
  entrepotlaw3.FloatBack: the walk. The table math/bits.deBruijn64tab reads as its initialiser lays it.
-/
import Derived.Test.YtpnlmikjcpjjmaaDoorFltF
namespace Go.Proofs.YtpnlmikjcpjjmaaDoor
open Go.RowKit Go.Shelf Go.Sort
attribute [local go_sem ↓] eql_nat neq_nat eql_int5 neq_int5

set_option maxHeartbeats 1000000 in
set_option maxRecDepth 100000 in
theorem back_nan_nan (h s H S c : Int) (h1 : (bits .and .u16 h 31744 == 31744) = true) (h2 : (bits .and .u16 h 1023 != 0) = true) (s1 : (bits .and .u32 s 2139095040 == 2139095040) = true) (s2 : (bits .and .u32 s 8388607 != 0) = true)
    (k1 : ∀ W, Calls Tryd.prog 89 #[.int .u16 h] W fun e w' => e = .returned (.int .u64 H) ∧ Below W.heap.size W w')
    (k2 : ∀ W, Calls Tryd.prog 87 #[.int .u64 H] W fun e w' => e = .returned (.tuple #[.int .u16 32256, .bool true]) ∧ Below W.heap.size W w')
    (k3 : ∀ W, Calls Tryd.prog 91 #[.int .u32 s] W fun e w' => e = .returned (.int .u64 S) ∧ Below W.heap.size W w')
    (k4 : ∀ W, Calls Tryd.prog 85 #[.int .u64 S] W fun e w' => e = .returned (.tuple #[.int .u32 2143289344, .bool true]) ∧ Below W.heap.size W w')
    (k5 : ∀ W, Calls Tryd.prog 85 #[.int .u64 H] W fun e w' => e = .returned (.tuple #[.int .u32 c, .bool true]) ∧ Below W.heap.size W w')
    (kt : ∀ W, Tb W → Calls Tryd.prog 76 #[] W fun e w' => e = .returned (.bool true) ∧ Below W.heap.size W w')
    (k6 : ∀ W, Calls Tryd.prog 91 #[.int .u32 c] W fun e w' => e = .returned (.int .u64 H) ∧ Below W.heap.size W w')
    (k7 : ∀ W, Calls Tryd.prog 89 #[.int .u16 32256] W fun e w' => e = .returned (.int .u64 H) ∧ Below W.heap.size W w') (w : World) (hT : Tb w) :
    Calls Tryd.prog 12 #[.int .u16 h, .int .u32 s] w fun e w' => e = .returned (.bool true) ∧ Below w.heap.size w w' := by
  have K1 := Lib.hid k1; clear k1
  have K2 := Lib.hid k2; clear k2
  have K3 := Lib.hid k3; clear k3
  have K4 := Lib.hid k4; clear k4
  have K5 := Lib.hid k5; clear k5
  have KT := Lib.hid kt; clear kt
  have K6 := Lib.hid k6; clear k6
  have K7 := Lib.hid k7; clear k7
  have HT := Lib.hid hT; clear hT
  go_enter Tryd.func12, Tryd.ntmps12
  go_wp2_with fail
  (with_reducible refine (K1.out _).mono ?_)
  rintro e w1 ⟨rfl, hb⟩
  have BW1 : Below w.heap.size w w1 := btr (by repeat (first | (with_reducible exact Below.refl _ _) | (with_reducible refine bal ?_ _) | (with_reducible refine Below.drew ?_) | (with_reducible refine bdn ?_ _))) hb
  clear hb
  go_wp2_with fail
  (with_reducible refine (K2.out _).mono ?_)
  rintro e w2 ⟨rfl, hb⟩
  have BW2 : Below w.heap.size w w2 := btr (by repeat (first | (with_reducible exact BW1) | (with_reducible refine bal ?_ _) | (with_reducible refine Below.drew ?_) | (with_reducible refine bdn ?_ _))) hb
  clear BW1
  clear hb
  go_wp2_with fail
  (with_reducible refine (K3.out _).mono ?_)
  rintro e w3 ⟨rfl, hb⟩
  have BW3 : Below w.heap.size w w3 := btr (by repeat (first | (with_reducible exact BW2) | (with_reducible refine bal ?_ _) | (with_reducible refine Below.drew ?_) | (with_reducible refine bdn ?_ _))) hb
  clear BW2
  clear hb
  go_wp2_with fail
  (with_reducible refine (K4.out _).mono ?_)
  rintro e w4 ⟨rfl, hb⟩
  have BW4 : Below w.heap.size w w4 := btr (by repeat (first | (with_reducible exact BW3) | (with_reducible refine bal ?_ _) | (with_reducible refine Below.drew ?_) | (with_reducible refine bdn ?_ _))) hb
  clear BW3
  clear hb
  go_wp2_with fail
  (with_reducible refine (K1.out _).mono ?_)
  rintro e w5 ⟨rfl, hb⟩
  have BW5 : Below w.heap.size w w5 := btr (by repeat (first | (with_reducible exact BW4) | (with_reducible refine bal ?_ _) | (with_reducible refine Below.drew ?_) | (with_reducible refine bdn ?_ _))) hb
  clear BW4
  clear hb
  go_wp2_with fail
  (with_reducible refine (K5.out _).mono ?_)
  rintro e w6 ⟨rfl, hb⟩
  have BW6 : Below w.heap.size w w6 := btr (by repeat (first | (with_reducible exact BW5) | (with_reducible refine bal ?_ _) | (with_reducible refine Below.drew ?_) | (with_reducible refine bdn ?_ _))) hb
  clear BW5
  clear hb
  go_wp2_with fail
  refine (KT.out _ (tb_on HT.out (by repeat (first | (with_reducible exact BW6) | (with_reducible refine bal ?_ _) | (with_reducible refine Below.drew ?_) | (with_reducible refine bdn ?_ _))))).mono ?_
  rintro e w7 ⟨rfl, hb⟩
  have BW7 : Below w.heap.size w w7 := btr (by repeat (first | (with_reducible exact BW6) | (with_reducible refine bal ?_ _) | (with_reducible refine Below.drew ?_) | (with_reducible refine bdn ?_ _))) hb
  clear BW6
  clear hb
  go_wp2_with fail
  (with_reducible refine (K6.out _).mono ?_)
  rintro e w8 ⟨rfl, hb⟩
  have BW8 : Below w.heap.size w w8 := btr (by repeat (first | (with_reducible exact BW7) | (with_reducible refine bal ?_ _) | (with_reducible refine Below.drew ?_) | (with_reducible refine bdn ?_ _))) hb
  clear BW7
  clear hb
  go_wp2_with fail
  (with_reducible refine (K7.out _).mono ?_)
  rintro e w9 ⟨rfl, hb⟩
  have BW9 : Below w.heap.size w w9 := btr (by repeat (first | (with_reducible exact BW8) | (with_reducible refine bal ?_ _) | (with_reducible refine Below.drew ?_) | (with_reducible refine bdn ?_ _))) hb
  clear BW8
  clear hb
  go_wp2
  go_ret
  exact ⟨rfl, BW9⟩

set_option maxHeartbeats 1000000 in
set_option maxRecDepth 100000 in
theorem back_nan_fin (h s H S c : Int) (h1 : (bits .and .u16 h 31744 == 31744) = true) (h2 : (bits .and .u16 h 1023 != 0) = true) (s1 : (bits .and .u32 s 2139095040 == 2139095040) = false)
    (k1 : ∀ W, Calls Tryd.prog 89 #[.int .u16 h] W fun e w' => e = .returned (.int .u64 H) ∧ Below W.heap.size W w')
    (k2 : ∀ W, Calls Tryd.prog 87 #[.int .u64 H] W fun e w' => e = .returned (.tuple #[.int .u16 32256, .bool true]) ∧ Below W.heap.size W w')
    (k3 : ∀ W, Calls Tryd.prog 91 #[.int .u32 s] W fun e w' => e = .returned (.int .u64 S) ∧ Below W.heap.size W w')
    (k4 : ∀ W, Calls Tryd.prog 85 #[.int .u64 S] W fun e w' => e = .returned (.tuple #[.int .u32 s, .bool true]) ∧ Below W.heap.size W w')
    (k5 : ∀ W, Calls Tryd.prog 85 #[.int .u64 H] W fun e w' => e = .returned (.tuple #[.int .u32 c, .bool true]) ∧ Below W.heap.size W w')
    (kt : ∀ W, Tb W → Calls Tryd.prog 76 #[] W fun e w' => e = .returned (.bool true) ∧ Below W.heap.size W w')
    (k6 : ∀ W, Calls Tryd.prog 91 #[.int .u32 c] W fun e w' => e = .returned (.int .u64 H) ∧ Below W.heap.size W w')
    (k7 : ∀ W, Calls Tryd.prog 89 #[.int .u16 32256] W fun e w' => e = .returned (.int .u64 H) ∧ Below W.heap.size W w') (w : World) (hT : Tb w) :
    Calls Tryd.prog 12 #[.int .u16 h, .int .u32 s] w fun e w' => e = .returned (.bool true) ∧ Below w.heap.size w w' := by
  have K1 := Lib.hid k1; clear k1
  have K2 := Lib.hid k2; clear k2
  have K3 := Lib.hid k3; clear k3
  have K4 := Lib.hid k4; clear k4
  have K5 := Lib.hid k5; clear k5
  have KT := Lib.hid kt; clear kt
  have K6 := Lib.hid k6; clear k6
  have K7 := Lib.hid k7; clear k7
  have HT := Lib.hid hT; clear hT
  go_enter Tryd.func12, Tryd.ntmps12
  go_wp2_with fail
  (with_reducible refine (K1.out _).mono ?_)
  rintro e w1 ⟨rfl, hb⟩
  have BW1 : Below w.heap.size w w1 := btr (by repeat (first | (with_reducible exact Below.refl _ _) | (with_reducible refine bal ?_ _) | (with_reducible refine Below.drew ?_) | (with_reducible refine bdn ?_ _))) hb
  clear hb
  go_wp2_with fail
  (with_reducible refine (K2.out _).mono ?_)
  rintro e w2 ⟨rfl, hb⟩
  have BW2 : Below w.heap.size w w2 := btr (by repeat (first | (with_reducible exact BW1) | (with_reducible refine bal ?_ _) | (with_reducible refine Below.drew ?_) | (with_reducible refine bdn ?_ _))) hb
  clear BW1
  clear hb
  go_wp2_with fail
  (with_reducible refine (K3.out _).mono ?_)
  rintro e w3 ⟨rfl, hb⟩
  have BW3 : Below w.heap.size w w3 := btr (by repeat (first | (with_reducible exact BW2) | (with_reducible refine bal ?_ _) | (with_reducible refine Below.drew ?_) | (with_reducible refine bdn ?_ _))) hb
  clear BW2
  clear hb
  go_wp2_with fail
  (with_reducible refine (K4.out _).mono ?_)
  rintro e w4 ⟨rfl, hb⟩
  have BW4 : Below w.heap.size w w4 := btr (by repeat (first | (with_reducible exact BW3) | (with_reducible refine bal ?_ _) | (with_reducible refine Below.drew ?_) | (with_reducible refine bdn ?_ _))) hb
  clear BW3
  clear hb
  go_wp2_with fail
  (with_reducible refine (K1.out _).mono ?_)
  rintro e w5 ⟨rfl, hb⟩
  have BW5 : Below w.heap.size w w5 := btr (by repeat (first | (with_reducible exact BW4) | (with_reducible refine bal ?_ _) | (with_reducible refine Below.drew ?_) | (with_reducible refine bdn ?_ _))) hb
  clear BW4
  clear hb
  go_wp2_with fail
  (with_reducible refine (K5.out _).mono ?_)
  rintro e w6 ⟨rfl, hb⟩
  have BW6 : Below w.heap.size w w6 := btr (by repeat (first | (with_reducible exact BW5) | (with_reducible refine bal ?_ _) | (with_reducible refine Below.drew ?_) | (with_reducible refine bdn ?_ _))) hb
  clear BW5
  clear hb
  go_wp2_with fail
  refine (KT.out _ (tb_on HT.out (by repeat (first | (with_reducible exact BW6) | (with_reducible refine bal ?_ _) | (with_reducible refine Below.drew ?_) | (with_reducible refine bdn ?_ _))))).mono ?_
  rintro e w7 ⟨rfl, hb⟩
  have BW7 : Below w.heap.size w w7 := btr (by repeat (first | (with_reducible exact BW6) | (with_reducible refine bal ?_ _) | (with_reducible refine Below.drew ?_) | (with_reducible refine bdn ?_ _))) hb
  clear BW6
  clear hb
  go_wp2_with fail
  (with_reducible refine (K6.out _).mono ?_)
  rintro e w8 ⟨rfl, hb⟩
  have BW8 : Below w.heap.size w w8 := btr (by repeat (first | (with_reducible exact BW7) | (with_reducible refine bal ?_ _) | (with_reducible refine Below.drew ?_) | (with_reducible refine bdn ?_ _))) hb
  clear BW7
  clear hb
  go_wp2_with fail
  (with_reducible refine (K7.out _).mono ?_)
  rintro e w9 ⟨rfl, hb⟩
  have BW9 : Below w.heap.size w w9 := btr (by repeat (first | (with_reducible exact BW8) | (with_reducible refine bal ?_ _) | (with_reducible refine Below.drew ?_) | (with_reducible refine bdn ?_ _))) hb
  clear BW8
  clear hb
  go_wp2
  go_ret
  exact ⟨rfl, BW9⟩

set_option maxHeartbeats 1000000 in
set_option maxRecDepth 100000 in
theorem back_nan_inf (h s H S c : Int) (h1 : (bits .and .u16 h 31744 == 31744) = true) (h2 : (bits .and .u16 h 1023 != 0) = true) (s1 : (bits .and .u32 s 2139095040 == 2139095040) = true) (s2 : (bits .and .u32 s 8388607 != 0) = false)
    (k1 : ∀ W, Calls Tryd.prog 89 #[.int .u16 h] W fun e w' => e = .returned (.int .u64 H) ∧ Below W.heap.size W w')
    (k2 : ∀ W, Calls Tryd.prog 87 #[.int .u64 H] W fun e w' => e = .returned (.tuple #[.int .u16 32256, .bool true]) ∧ Below W.heap.size W w')
    (k3 : ∀ W, Calls Tryd.prog 91 #[.int .u32 s] W fun e w' => e = .returned (.int .u64 S) ∧ Below W.heap.size W w')
    (k4 : ∀ W, Calls Tryd.prog 85 #[.int .u64 S] W fun e w' => e = .returned (.tuple #[.int .u32 s, .bool true]) ∧ Below W.heap.size W w')
    (k5 : ∀ W, Calls Tryd.prog 85 #[.int .u64 H] W fun e w' => e = .returned (.tuple #[.int .u32 c, .bool true]) ∧ Below W.heap.size W w')
    (kt : ∀ W, Tb W → Calls Tryd.prog 76 #[] W fun e w' => e = .returned (.bool true) ∧ Below W.heap.size W w')
    (k6 : ∀ W, Calls Tryd.prog 91 #[.int .u32 c] W fun e w' => e = .returned (.int .u64 H) ∧ Below W.heap.size W w')
    (k7 : ∀ W, Calls Tryd.prog 89 #[.int .u16 32256] W fun e w' => e = .returned (.int .u64 H) ∧ Below W.heap.size W w') (w : World) (hT : Tb w) :
    Calls Tryd.prog 12 #[.int .u16 h, .int .u32 s] w fun e w' => e = .returned (.bool true) ∧ Below w.heap.size w w' := by
  have K1 := Lib.hid k1; clear k1
  have K2 := Lib.hid k2; clear k2
  have K3 := Lib.hid k3; clear k3
  have K4 := Lib.hid k4; clear k4
  have K5 := Lib.hid k5; clear k5
  have KT := Lib.hid kt; clear kt
  have K6 := Lib.hid k6; clear k6
  have K7 := Lib.hid k7; clear k7
  have HT := Lib.hid hT; clear hT
  go_enter Tryd.func12, Tryd.ntmps12
  go_wp2_with fail
  (with_reducible refine (K1.out _).mono ?_)
  rintro e w1 ⟨rfl, hb⟩
  have BW1 : Below w.heap.size w w1 := btr (by repeat (first | (with_reducible exact Below.refl _ _) | (with_reducible refine bal ?_ _) | (with_reducible refine Below.drew ?_) | (with_reducible refine bdn ?_ _))) hb
  clear hb
  go_wp2_with fail
  (with_reducible refine (K2.out _).mono ?_)
  rintro e w2 ⟨rfl, hb⟩
  have BW2 : Below w.heap.size w w2 := btr (by repeat (first | (with_reducible exact BW1) | (with_reducible refine bal ?_ _) | (with_reducible refine Below.drew ?_) | (with_reducible refine bdn ?_ _))) hb
  clear BW1
  clear hb
  go_wp2_with fail
  (with_reducible refine (K3.out _).mono ?_)
  rintro e w3 ⟨rfl, hb⟩
  have BW3 : Below w.heap.size w w3 := btr (by repeat (first | (with_reducible exact BW2) | (with_reducible refine bal ?_ _) | (with_reducible refine Below.drew ?_) | (with_reducible refine bdn ?_ _))) hb
  clear BW2
  clear hb
  go_wp2_with fail
  (with_reducible refine (K4.out _).mono ?_)
  rintro e w4 ⟨rfl, hb⟩
  have BW4 : Below w.heap.size w w4 := btr (by repeat (first | (with_reducible exact BW3) | (with_reducible refine bal ?_ _) | (with_reducible refine Below.drew ?_) | (with_reducible refine bdn ?_ _))) hb
  clear BW3
  clear hb
  go_wp2_with fail
  (with_reducible refine (K1.out _).mono ?_)
  rintro e w5 ⟨rfl, hb⟩
  have BW5 : Below w.heap.size w w5 := btr (by repeat (first | (with_reducible exact BW4) | (with_reducible refine bal ?_ _) | (with_reducible refine Below.drew ?_) | (with_reducible refine bdn ?_ _))) hb
  clear BW4
  clear hb
  go_wp2_with fail
  (with_reducible refine (K5.out _).mono ?_)
  rintro e w6 ⟨rfl, hb⟩
  have BW6 : Below w.heap.size w w6 := btr (by repeat (first | (with_reducible exact BW5) | (with_reducible refine bal ?_ _) | (with_reducible refine Below.drew ?_) | (with_reducible refine bdn ?_ _))) hb
  clear BW5
  clear hb
  go_wp2_with fail
  refine (KT.out _ (tb_on HT.out (by repeat (first | (with_reducible exact BW6) | (with_reducible refine bal ?_ _) | (with_reducible refine Below.drew ?_) | (with_reducible refine bdn ?_ _))))).mono ?_
  rintro e w7 ⟨rfl, hb⟩
  have BW7 : Below w.heap.size w w7 := btr (by repeat (first | (with_reducible exact BW6) | (with_reducible refine bal ?_ _) | (with_reducible refine Below.drew ?_) | (with_reducible refine bdn ?_ _))) hb
  clear BW6
  clear hb
  go_wp2_with fail
  (with_reducible refine (K6.out _).mono ?_)
  rintro e w8 ⟨rfl, hb⟩
  have BW8 : Below w.heap.size w w8 := btr (by repeat (first | (with_reducible exact BW7) | (with_reducible refine bal ?_ _) | (with_reducible refine Below.drew ?_) | (with_reducible refine bdn ?_ _))) hb
  clear BW7
  clear hb
  go_wp2_with fail
  (with_reducible refine (K7.out _).mono ?_)
  rintro e w9 ⟨rfl, hb⟩
  have BW9 : Below w.heap.size w w9 := btr (by repeat (first | (with_reducible exact BW8) | (with_reducible refine bal ?_ _) | (with_reducible refine Below.drew ?_) | (with_reducible refine bdn ?_ _))) hb
  clear BW8
  clear hb
  go_wp2
  go_ret
  exact ⟨rfl, BW9⟩

set_option maxHeartbeats 1000000 in
set_option maxRecDepth 100000 in
theorem back_fin_nan (h s H S c : Int) (h1 : (bits .and .u16 h 31744 == 31744) = false) (s1 : (bits .and .u32 s 2139095040 == 2139095040) = true) (s2 : (bits .and .u32 s 8388607 != 0) = true)
    (k1 : ∀ W, Calls Tryd.prog 89 #[.int .u16 h] W fun e w' => e = .returned (.int .u64 H) ∧ Below W.heap.size W w')
    (k2 : ∀ W, Calls Tryd.prog 87 #[.int .u64 H] W fun e w' => e = .returned (.tuple #[.int .u16 h, .bool true]) ∧ Below W.heap.size W w')
    (k3 : ∀ W, Calls Tryd.prog 91 #[.int .u32 s] W fun e w' => e = .returned (.int .u64 S) ∧ Below W.heap.size W w')
    (k4 : ∀ W, Calls Tryd.prog 85 #[.int .u64 S] W fun e w' => e = .returned (.tuple #[.int .u32 2143289344, .bool true]) ∧ Below W.heap.size W w')
    (k5 : ∀ W, Calls Tryd.prog 85 #[.int .u64 H] W fun e w' => e = .returned (.tuple #[.int .u32 c, .bool true]) ∧ Below W.heap.size W w')
    (kt : ∀ W, Tb W → Calls Tryd.prog 76 #[] W fun e w' => e = .returned (.bool true) ∧ Below W.heap.size W w')
    (k6 : ∀ W, Calls Tryd.prog 91 #[.int .u32 c] W fun e w' => e = .returned (.int .u64 H) ∧ Below W.heap.size W w') (w : World) (hT : Tb w) :
    Calls Tryd.prog 12 #[.int .u16 h, .int .u32 s] w fun e w' => e = .returned (.bool true) ∧ Below w.heap.size w w' := by
  have K1 := Lib.hid k1; clear k1
  have K2 := Lib.hid k2; clear k2
  have K3 := Lib.hid k3; clear k3
  have K4 := Lib.hid k4; clear k4
  have K5 := Lib.hid k5; clear k5
  have KT := Lib.hid kt; clear kt
  have K6 := Lib.hid k6; clear k6
  have HT := Lib.hid hT; clear hT
  go_enter Tryd.func12, Tryd.ntmps12
  go_wp2_with fail
  (with_reducible refine (K1.out _).mono ?_)
  rintro e w1 ⟨rfl, hb⟩
  have BW1 : Below w.heap.size w w1 := btr (by repeat (first | (with_reducible exact Below.refl _ _) | (with_reducible refine bal ?_ _) | (with_reducible refine Below.drew ?_) | (with_reducible refine bdn ?_ _))) hb
  clear hb
  go_wp2_with fail
  (with_reducible refine (K2.out _).mono ?_)
  rintro e w2 ⟨rfl, hb⟩
  have BW2 : Below w.heap.size w w2 := btr (by repeat (first | (with_reducible exact BW1) | (with_reducible refine bal ?_ _) | (with_reducible refine Below.drew ?_) | (with_reducible refine bdn ?_ _))) hb
  clear BW1
  clear hb
  go_wp2_with fail
  (with_reducible refine (K3.out _).mono ?_)
  rintro e w3 ⟨rfl, hb⟩
  have BW3 : Below w.heap.size w w3 := btr (by repeat (first | (with_reducible exact BW2) | (with_reducible refine bal ?_ _) | (with_reducible refine Below.drew ?_) | (with_reducible refine bdn ?_ _))) hb
  clear BW2
  clear hb
  go_wp2_with fail
  (with_reducible refine (K4.out _).mono ?_)
  rintro e w4 ⟨rfl, hb⟩
  have BW4 : Below w.heap.size w w4 := btr (by repeat (first | (with_reducible exact BW3) | (with_reducible refine bal ?_ _) | (with_reducible refine Below.drew ?_) | (with_reducible refine bdn ?_ _))) hb
  clear BW3
  clear hb
  go_wp2_with fail
  (with_reducible refine (K1.out _).mono ?_)
  rintro e w5 ⟨rfl, hb⟩
  have BW5 : Below w.heap.size w w5 := btr (by repeat (first | (with_reducible exact BW4) | (with_reducible refine bal ?_ _) | (with_reducible refine Below.drew ?_) | (with_reducible refine bdn ?_ _))) hb
  clear BW4
  clear hb
  go_wp2_with fail
  (with_reducible refine (K5.out _).mono ?_)
  rintro e w6 ⟨rfl, hb⟩
  have BW6 : Below w.heap.size w w6 := btr (by repeat (first | (with_reducible exact BW5) | (with_reducible refine bal ?_ _) | (with_reducible refine Below.drew ?_) | (with_reducible refine bdn ?_ _))) hb
  clear BW5
  clear hb
  go_wp2_with fail
  refine (KT.out _ (tb_on HT.out (by repeat (first | (with_reducible exact BW6) | (with_reducible refine bal ?_ _) | (with_reducible refine Below.drew ?_) | (with_reducible refine bdn ?_ _))))).mono ?_
  rintro e w7 ⟨rfl, hb⟩
  have BW7 : Below w.heap.size w w7 := btr (by repeat (first | (with_reducible exact BW6) | (with_reducible refine bal ?_ _) | (with_reducible refine Below.drew ?_) | (with_reducible refine bdn ?_ _))) hb
  clear BW6
  clear hb
  go_wp2_with fail
  (with_reducible refine (K6.out _).mono ?_)
  rintro e w8 ⟨rfl, hb⟩
  have BW8 : Below w.heap.size w w8 := btr (by repeat (first | (with_reducible exact BW7) | (with_reducible refine bal ?_ _) | (with_reducible refine Below.drew ?_) | (with_reducible refine bdn ?_ _))) hb
  clear BW7
  clear hb
  go_wp2_with fail
  (with_reducible refine (K1.out _).mono ?_)
  rintro e w9 ⟨rfl, hb⟩
  have BW9 : Below w.heap.size w w9 := btr (by repeat (first | (with_reducible exact BW8) | (with_reducible refine bal ?_ _) | (with_reducible refine Below.drew ?_) | (with_reducible refine bdn ?_ _))) hb
  clear BW8
  clear hb
  go_wp2
  go_ret
  exact ⟨rfl, BW9⟩

set_option maxHeartbeats 1000000 in
set_option maxRecDepth 100000 in
theorem back_fin_fin (h s H S c : Int) (h1 : (bits .and .u16 h 31744 == 31744) = false) (s1 : (bits .and .u32 s 2139095040 == 2139095040) = false)
    (k1 : ∀ W, Calls Tryd.prog 89 #[.int .u16 h] W fun e w' => e = .returned (.int .u64 H) ∧ Below W.heap.size W w')
    (k2 : ∀ W, Calls Tryd.prog 87 #[.int .u64 H] W fun e w' => e = .returned (.tuple #[.int .u16 h, .bool true]) ∧ Below W.heap.size W w')
    (k3 : ∀ W, Calls Tryd.prog 91 #[.int .u32 s] W fun e w' => e = .returned (.int .u64 S) ∧ Below W.heap.size W w')
    (k4 : ∀ W, Calls Tryd.prog 85 #[.int .u64 S] W fun e w' => e = .returned (.tuple #[.int .u32 s, .bool true]) ∧ Below W.heap.size W w')
    (k5 : ∀ W, Calls Tryd.prog 85 #[.int .u64 H] W fun e w' => e = .returned (.tuple #[.int .u32 c, .bool true]) ∧ Below W.heap.size W w')
    (kt : ∀ W, Tb W → Calls Tryd.prog 76 #[] W fun e w' => e = .returned (.bool true) ∧ Below W.heap.size W w')
    (k6 : ∀ W, Calls Tryd.prog 91 #[.int .u32 c] W fun e w' => e = .returned (.int .u64 H) ∧ Below W.heap.size W w') (w : World) (hT : Tb w) :
    Calls Tryd.prog 12 #[.int .u16 h, .int .u32 s] w fun e w' => e = .returned (.bool true) ∧ Below w.heap.size w w' := by
  have K1 := Lib.hid k1; clear k1
  have K2 := Lib.hid k2; clear k2
  have K3 := Lib.hid k3; clear k3
  have K4 := Lib.hid k4; clear k4
  have K5 := Lib.hid k5; clear k5
  have KT := Lib.hid kt; clear kt
  have K6 := Lib.hid k6; clear k6
  have HT := Lib.hid hT; clear hT
  go_enter Tryd.func12, Tryd.ntmps12
  go_wp2_with fail
  (with_reducible refine (K1.out _).mono ?_)
  rintro e w1 ⟨rfl, hb⟩
  have BW1 : Below w.heap.size w w1 := btr (by repeat (first | (with_reducible exact Below.refl _ _) | (with_reducible refine bal ?_ _) | (with_reducible refine Below.drew ?_) | (with_reducible refine bdn ?_ _))) hb
  clear hb
  go_wp2_with fail
  (with_reducible refine (K2.out _).mono ?_)
  rintro e w2 ⟨rfl, hb⟩
  have BW2 : Below w.heap.size w w2 := btr (by repeat (first | (with_reducible exact BW1) | (with_reducible refine bal ?_ _) | (with_reducible refine Below.drew ?_) | (with_reducible refine bdn ?_ _))) hb
  clear BW1
  clear hb
  go_wp2_with fail
  (with_reducible refine (K3.out _).mono ?_)
  rintro e w3 ⟨rfl, hb⟩
  have BW3 : Below w.heap.size w w3 := btr (by repeat (first | (with_reducible exact BW2) | (with_reducible refine bal ?_ _) | (with_reducible refine Below.drew ?_) | (with_reducible refine bdn ?_ _))) hb
  clear BW2
  clear hb
  go_wp2_with fail
  (with_reducible refine (K4.out _).mono ?_)
  rintro e w4 ⟨rfl, hb⟩
  have BW4 : Below w.heap.size w w4 := btr (by repeat (first | (with_reducible exact BW3) | (with_reducible refine bal ?_ _) | (with_reducible refine Below.drew ?_) | (with_reducible refine bdn ?_ _))) hb
  clear BW3
  clear hb
  go_wp2_with fail
  (with_reducible refine (K1.out _).mono ?_)
  rintro e w5 ⟨rfl, hb⟩
  have BW5 : Below w.heap.size w w5 := btr (by repeat (first | (with_reducible exact BW4) | (with_reducible refine bal ?_ _) | (with_reducible refine Below.drew ?_) | (with_reducible refine bdn ?_ _))) hb
  clear BW4
  clear hb
  go_wp2_with fail
  (with_reducible refine (K5.out _).mono ?_)
  rintro e w6 ⟨rfl, hb⟩
  have BW6 : Below w.heap.size w w6 := btr (by repeat (first | (with_reducible exact BW5) | (with_reducible refine bal ?_ _) | (with_reducible refine Below.drew ?_) | (with_reducible refine bdn ?_ _))) hb
  clear BW5
  clear hb
  go_wp2_with fail
  refine (KT.out _ (tb_on HT.out (by repeat (first | (with_reducible exact BW6) | (with_reducible refine bal ?_ _) | (with_reducible refine Below.drew ?_) | (with_reducible refine bdn ?_ _))))).mono ?_
  rintro e w7 ⟨rfl, hb⟩
  have BW7 : Below w.heap.size w w7 := btr (by repeat (first | (with_reducible exact BW6) | (with_reducible refine bal ?_ _) | (with_reducible refine Below.drew ?_) | (with_reducible refine bdn ?_ _))) hb
  clear BW6
  clear hb
  go_wp2_with fail
  (with_reducible refine (K6.out _).mono ?_)
  rintro e w8 ⟨rfl, hb⟩
  have BW8 : Below w.heap.size w w8 := btr (by repeat (first | (with_reducible exact BW7) | (with_reducible refine bal ?_ _) | (with_reducible refine Below.drew ?_) | (with_reducible refine bdn ?_ _))) hb
  clear BW7
  clear hb
  go_wp2_with fail
  (with_reducible refine (K1.out _).mono ?_)
  rintro e w9 ⟨rfl, hb⟩
  have BW9 : Below w.heap.size w w9 := btr (by repeat (first | (with_reducible exact BW8) | (with_reducible refine bal ?_ _) | (with_reducible refine Below.drew ?_) | (with_reducible refine bdn ?_ _))) hb
  clear BW8
  clear hb
  go_wp2
  go_ret
  exact ⟨rfl, BW9⟩

set_option maxHeartbeats 1000000 in
set_option maxRecDepth 100000 in
theorem back_fin_inf (h s H S c : Int) (h1 : (bits .and .u16 h 31744 == 31744) = false) (s1 : (bits .and .u32 s 2139095040 == 2139095040) = true) (s2 : (bits .and .u32 s 8388607 != 0) = false)
    (k1 : ∀ W, Calls Tryd.prog 89 #[.int .u16 h] W fun e w' => e = .returned (.int .u64 H) ∧ Below W.heap.size W w')
    (k2 : ∀ W, Calls Tryd.prog 87 #[.int .u64 H] W fun e w' => e = .returned (.tuple #[.int .u16 h, .bool true]) ∧ Below W.heap.size W w')
    (k3 : ∀ W, Calls Tryd.prog 91 #[.int .u32 s] W fun e w' => e = .returned (.int .u64 S) ∧ Below W.heap.size W w')
    (k4 : ∀ W, Calls Tryd.prog 85 #[.int .u64 S] W fun e w' => e = .returned (.tuple #[.int .u32 s, .bool true]) ∧ Below W.heap.size W w')
    (k5 : ∀ W, Calls Tryd.prog 85 #[.int .u64 H] W fun e w' => e = .returned (.tuple #[.int .u32 c, .bool true]) ∧ Below W.heap.size W w')
    (kt : ∀ W, Tb W → Calls Tryd.prog 76 #[] W fun e w' => e = .returned (.bool true) ∧ Below W.heap.size W w')
    (k6 : ∀ W, Calls Tryd.prog 91 #[.int .u32 c] W fun e w' => e = .returned (.int .u64 H) ∧ Below W.heap.size W w') (w : World) (hT : Tb w) :
    Calls Tryd.prog 12 #[.int .u16 h, .int .u32 s] w fun e w' => e = .returned (.bool true) ∧ Below w.heap.size w w' := by
  have K1 := Lib.hid k1; clear k1
  have K2 := Lib.hid k2; clear k2
  have K3 := Lib.hid k3; clear k3
  have K4 := Lib.hid k4; clear k4
  have K5 := Lib.hid k5; clear k5
  have KT := Lib.hid kt; clear kt
  have K6 := Lib.hid k6; clear k6
  have HT := Lib.hid hT; clear hT
  go_enter Tryd.func12, Tryd.ntmps12
  go_wp2_with fail
  (with_reducible refine (K1.out _).mono ?_)
  rintro e w1 ⟨rfl, hb⟩
  have BW1 : Below w.heap.size w w1 := btr (by repeat (first | (with_reducible exact Below.refl _ _) | (with_reducible refine bal ?_ _) | (with_reducible refine Below.drew ?_) | (with_reducible refine bdn ?_ _))) hb
  clear hb
  go_wp2_with fail
  (with_reducible refine (K2.out _).mono ?_)
  rintro e w2 ⟨rfl, hb⟩
  have BW2 : Below w.heap.size w w2 := btr (by repeat (first | (with_reducible exact BW1) | (with_reducible refine bal ?_ _) | (with_reducible refine Below.drew ?_) | (with_reducible refine bdn ?_ _))) hb
  clear BW1
  clear hb
  go_wp2_with fail
  (with_reducible refine (K3.out _).mono ?_)
  rintro e w3 ⟨rfl, hb⟩
  have BW3 : Below w.heap.size w w3 := btr (by repeat (first | (with_reducible exact BW2) | (with_reducible refine bal ?_ _) | (with_reducible refine Below.drew ?_) | (with_reducible refine bdn ?_ _))) hb
  clear BW2
  clear hb
  go_wp2_with fail
  (with_reducible refine (K4.out _).mono ?_)
  rintro e w4 ⟨rfl, hb⟩
  have BW4 : Below w.heap.size w w4 := btr (by repeat (first | (with_reducible exact BW3) | (with_reducible refine bal ?_ _) | (with_reducible refine Below.drew ?_) | (with_reducible refine bdn ?_ _))) hb
  clear BW3
  clear hb
  go_wp2_with fail
  (with_reducible refine (K1.out _).mono ?_)
  rintro e w5 ⟨rfl, hb⟩
  have BW5 : Below w.heap.size w w5 := btr (by repeat (first | (with_reducible exact BW4) | (with_reducible refine bal ?_ _) | (with_reducible refine Below.drew ?_) | (with_reducible refine bdn ?_ _))) hb
  clear BW4
  clear hb
  go_wp2_with fail
  (with_reducible refine (K5.out _).mono ?_)
  rintro e w6 ⟨rfl, hb⟩
  have BW6 : Below w.heap.size w w6 := btr (by repeat (first | (with_reducible exact BW5) | (with_reducible refine bal ?_ _) | (with_reducible refine Below.drew ?_) | (with_reducible refine bdn ?_ _))) hb
  clear BW5
  clear hb
  go_wp2_with fail
  refine (KT.out _ (tb_on HT.out (by repeat (first | (with_reducible exact BW6) | (with_reducible refine bal ?_ _) | (with_reducible refine Below.drew ?_) | (with_reducible refine bdn ?_ _))))).mono ?_
  rintro e w7 ⟨rfl, hb⟩
  have BW7 : Below w.heap.size w w7 := btr (by repeat (first | (with_reducible exact BW6) | (with_reducible refine bal ?_ _) | (with_reducible refine Below.drew ?_) | (with_reducible refine bdn ?_ _))) hb
  clear BW6
  clear hb
  go_wp2_with fail
  (with_reducible refine (K6.out _).mono ?_)
  rintro e w8 ⟨rfl, hb⟩
  have BW8 : Below w.heap.size w w8 := btr (by repeat (first | (with_reducible exact BW7) | (with_reducible refine bal ?_ _) | (with_reducible refine Below.drew ?_) | (with_reducible refine bdn ?_ _))) hb
  clear BW7
  clear hb
  go_wp2_with fail
  (with_reducible refine (K1.out _).mono ?_)
  rintro e w9 ⟨rfl, hb⟩
  have BW9 : Below w.heap.size w w9 := btr (by repeat (first | (with_reducible exact BW8) | (with_reducible refine bal ?_ _) | (with_reducible refine Below.drew ?_) | (with_reducible refine bdn ?_ _))) hb
  clear BW8
  clear hb
  go_wp2
  go_ret
  exact ⟨rfl, BW9⟩

set_option maxHeartbeats 1000000 in
set_option maxRecDepth 100000 in
theorem back_inf_nan (h s H S c : Int) (h1 : (bits .and .u16 h 31744 == 31744) = true) (h2 : (bits .and .u16 h 1023 != 0) = false) (s1 : (bits .and .u32 s 2139095040 == 2139095040) = true) (s2 : (bits .and .u32 s 8388607 != 0) = true)
    (k1 : ∀ W, Calls Tryd.prog 89 #[.int .u16 h] W fun e w' => e = .returned (.int .u64 H) ∧ Below W.heap.size W w')
    (k2 : ∀ W, Calls Tryd.prog 87 #[.int .u64 H] W fun e w' => e = .returned (.tuple #[.int .u16 h, .bool true]) ∧ Below W.heap.size W w')
    (k3 : ∀ W, Calls Tryd.prog 91 #[.int .u32 s] W fun e w' => e = .returned (.int .u64 S) ∧ Below W.heap.size W w')
    (k4 : ∀ W, Calls Tryd.prog 85 #[.int .u64 S] W fun e w' => e = .returned (.tuple #[.int .u32 2143289344, .bool true]) ∧ Below W.heap.size W w')
    (k5 : ∀ W, Calls Tryd.prog 85 #[.int .u64 H] W fun e w' => e = .returned (.tuple #[.int .u32 c, .bool true]) ∧ Below W.heap.size W w')
    (kt : ∀ W, Tb W → Calls Tryd.prog 76 #[] W fun e w' => e = .returned (.bool true) ∧ Below W.heap.size W w')
    (k6 : ∀ W, Calls Tryd.prog 91 #[.int .u32 c] W fun e w' => e = .returned (.int .u64 H) ∧ Below W.heap.size W w') (w : World) (hT : Tb w) :
    Calls Tryd.prog 12 #[.int .u16 h, .int .u32 s] w fun e w' => e = .returned (.bool true) ∧ Below w.heap.size w w' := by
  have K1 := Lib.hid k1; clear k1
  have K2 := Lib.hid k2; clear k2
  have K3 := Lib.hid k3; clear k3
  have K4 := Lib.hid k4; clear k4
  have K5 := Lib.hid k5; clear k5
  have KT := Lib.hid kt; clear kt
  have K6 := Lib.hid k6; clear k6
  have HT := Lib.hid hT; clear hT
  go_enter Tryd.func12, Tryd.ntmps12
  go_wp2_with fail
  (with_reducible refine (K1.out _).mono ?_)
  rintro e w1 ⟨rfl, hb⟩
  have BW1 : Below w.heap.size w w1 := btr (by repeat (first | (with_reducible exact Below.refl _ _) | (with_reducible refine bal ?_ _) | (with_reducible refine Below.drew ?_) | (with_reducible refine bdn ?_ _))) hb
  clear hb
  go_wp2_with fail
  (with_reducible refine (K2.out _).mono ?_)
  rintro e w2 ⟨rfl, hb⟩
  have BW2 : Below w.heap.size w w2 := btr (by repeat (first | (with_reducible exact BW1) | (with_reducible refine bal ?_ _) | (with_reducible refine Below.drew ?_) | (with_reducible refine bdn ?_ _))) hb
  clear BW1
  clear hb
  go_wp2_with fail
  (with_reducible refine (K3.out _).mono ?_)
  rintro e w3 ⟨rfl, hb⟩
  have BW3 : Below w.heap.size w w3 := btr (by repeat (first | (with_reducible exact BW2) | (with_reducible refine bal ?_ _) | (with_reducible refine Below.drew ?_) | (with_reducible refine bdn ?_ _))) hb
  clear BW2
  clear hb
  go_wp2_with fail
  (with_reducible refine (K4.out _).mono ?_)
  rintro e w4 ⟨rfl, hb⟩
  have BW4 : Below w.heap.size w w4 := btr (by repeat (first | (with_reducible exact BW3) | (with_reducible refine bal ?_ _) | (with_reducible refine Below.drew ?_) | (with_reducible refine bdn ?_ _))) hb
  clear BW3
  clear hb
  go_wp2_with fail
  (with_reducible refine (K1.out _).mono ?_)
  rintro e w5 ⟨rfl, hb⟩
  have BW5 : Below w.heap.size w w5 := btr (by repeat (first | (with_reducible exact BW4) | (with_reducible refine bal ?_ _) | (with_reducible refine Below.drew ?_) | (with_reducible refine bdn ?_ _))) hb
  clear BW4
  clear hb
  go_wp2_with fail
  (with_reducible refine (K5.out _).mono ?_)
  rintro e w6 ⟨rfl, hb⟩
  have BW6 : Below w.heap.size w w6 := btr (by repeat (first | (with_reducible exact BW5) | (with_reducible refine bal ?_ _) | (with_reducible refine Below.drew ?_) | (with_reducible refine bdn ?_ _))) hb
  clear BW5
  clear hb
  go_wp2_with fail
  refine (KT.out _ (tb_on HT.out (by repeat (first | (with_reducible exact BW6) | (with_reducible refine bal ?_ _) | (with_reducible refine Below.drew ?_) | (with_reducible refine bdn ?_ _))))).mono ?_
  rintro e w7 ⟨rfl, hb⟩
  have BW7 : Below w.heap.size w w7 := btr (by repeat (first | (with_reducible exact BW6) | (with_reducible refine bal ?_ _) | (with_reducible refine Below.drew ?_) | (with_reducible refine bdn ?_ _))) hb
  clear BW6
  clear hb
  go_wp2_with fail
  (with_reducible refine (K6.out _).mono ?_)
  rintro e w8 ⟨rfl, hb⟩
  have BW8 : Below w.heap.size w w8 := btr (by repeat (first | (with_reducible exact BW7) | (with_reducible refine bal ?_ _) | (with_reducible refine Below.drew ?_) | (with_reducible refine bdn ?_ _))) hb
  clear BW7
  clear hb
  go_wp2_with fail
  (with_reducible refine (K1.out _).mono ?_)
  rintro e w9 ⟨rfl, hb⟩
  have BW9 : Below w.heap.size w w9 := btr (by repeat (first | (with_reducible exact BW8) | (with_reducible refine bal ?_ _) | (with_reducible refine Below.drew ?_) | (with_reducible refine bdn ?_ _))) hb
  clear BW8
  clear hb
  go_wp2
  go_ret
  exact ⟨rfl, BW9⟩

set_option maxHeartbeats 1000000 in
set_option maxRecDepth 100000 in
theorem back_inf_fin (h s H S c : Int) (h1 : (bits .and .u16 h 31744 == 31744) = true) (h2 : (bits .and .u16 h 1023 != 0) = false) (s1 : (bits .and .u32 s 2139095040 == 2139095040) = false)
    (k1 : ∀ W, Calls Tryd.prog 89 #[.int .u16 h] W fun e w' => e = .returned (.int .u64 H) ∧ Below W.heap.size W w')
    (k2 : ∀ W, Calls Tryd.prog 87 #[.int .u64 H] W fun e w' => e = .returned (.tuple #[.int .u16 h, .bool true]) ∧ Below W.heap.size W w')
    (k3 : ∀ W, Calls Tryd.prog 91 #[.int .u32 s] W fun e w' => e = .returned (.int .u64 S) ∧ Below W.heap.size W w')
    (k4 : ∀ W, Calls Tryd.prog 85 #[.int .u64 S] W fun e w' => e = .returned (.tuple #[.int .u32 s, .bool true]) ∧ Below W.heap.size W w')
    (k5 : ∀ W, Calls Tryd.prog 85 #[.int .u64 H] W fun e w' => e = .returned (.tuple #[.int .u32 c, .bool true]) ∧ Below W.heap.size W w')
    (kt : ∀ W, Tb W → Calls Tryd.prog 76 #[] W fun e w' => e = .returned (.bool true) ∧ Below W.heap.size W w')
    (k6 : ∀ W, Calls Tryd.prog 91 #[.int .u32 c] W fun e w' => e = .returned (.int .u64 H) ∧ Below W.heap.size W w') (w : World) (hT : Tb w) :
    Calls Tryd.prog 12 #[.int .u16 h, .int .u32 s] w fun e w' => e = .returned (.bool true) ∧ Below w.heap.size w w' := by
  have K1 := Lib.hid k1; clear k1
  have K2 := Lib.hid k2; clear k2
  have K3 := Lib.hid k3; clear k3
  have K4 := Lib.hid k4; clear k4
  have K5 := Lib.hid k5; clear k5
  have KT := Lib.hid kt; clear kt
  have K6 := Lib.hid k6; clear k6
  have HT := Lib.hid hT; clear hT
  go_enter Tryd.func12, Tryd.ntmps12
  go_wp2_with fail
  (with_reducible refine (K1.out _).mono ?_)
  rintro e w1 ⟨rfl, hb⟩
  have BW1 : Below w.heap.size w w1 := btr (by repeat (first | (with_reducible exact Below.refl _ _) | (with_reducible refine bal ?_ _) | (with_reducible refine Below.drew ?_) | (with_reducible refine bdn ?_ _))) hb
  clear hb
  go_wp2_with fail
  (with_reducible refine (K2.out _).mono ?_)
  rintro e w2 ⟨rfl, hb⟩
  have BW2 : Below w.heap.size w w2 := btr (by repeat (first | (with_reducible exact BW1) | (with_reducible refine bal ?_ _) | (with_reducible refine Below.drew ?_) | (with_reducible refine bdn ?_ _))) hb
  clear BW1
  clear hb
  go_wp2_with fail
  (with_reducible refine (K3.out _).mono ?_)
  rintro e w3 ⟨rfl, hb⟩
  have BW3 : Below w.heap.size w w3 := btr (by repeat (first | (with_reducible exact BW2) | (with_reducible refine bal ?_ _) | (with_reducible refine Below.drew ?_) | (with_reducible refine bdn ?_ _))) hb
  clear BW2
  clear hb
  go_wp2_with fail
  (with_reducible refine (K4.out _).mono ?_)
  rintro e w4 ⟨rfl, hb⟩
  have BW4 : Below w.heap.size w w4 := btr (by repeat (first | (with_reducible exact BW3) | (with_reducible refine bal ?_ _) | (with_reducible refine Below.drew ?_) | (with_reducible refine bdn ?_ _))) hb
  clear BW3
  clear hb
  go_wp2_with fail
  (with_reducible refine (K1.out _).mono ?_)
  rintro e w5 ⟨rfl, hb⟩
  have BW5 : Below w.heap.size w w5 := btr (by repeat (first | (with_reducible exact BW4) | (with_reducible refine bal ?_ _) | (with_reducible refine Below.drew ?_) | (with_reducible refine bdn ?_ _))) hb
  clear BW4
  clear hb
  go_wp2_with fail
  (with_reducible refine (K5.out _).mono ?_)
  rintro e w6 ⟨rfl, hb⟩
  have BW6 : Below w.heap.size w w6 := btr (by repeat (first | (with_reducible exact BW5) | (with_reducible refine bal ?_ _) | (with_reducible refine Below.drew ?_) | (with_reducible refine bdn ?_ _))) hb
  clear BW5
  clear hb
  go_wp2_with fail
  refine (KT.out _ (tb_on HT.out (by repeat (first | (with_reducible exact BW6) | (with_reducible refine bal ?_ _) | (with_reducible refine Below.drew ?_) | (with_reducible refine bdn ?_ _))))).mono ?_
  rintro e w7 ⟨rfl, hb⟩
  have BW7 : Below w.heap.size w w7 := btr (by repeat (first | (with_reducible exact BW6) | (with_reducible refine bal ?_ _) | (with_reducible refine Below.drew ?_) | (with_reducible refine bdn ?_ _))) hb
  clear BW6
  clear hb
  go_wp2_with fail
  (with_reducible refine (K6.out _).mono ?_)
  rintro e w8 ⟨rfl, hb⟩
  have BW8 : Below w.heap.size w w8 := btr (by repeat (first | (with_reducible exact BW7) | (with_reducible refine bal ?_ _) | (with_reducible refine Below.drew ?_) | (with_reducible refine bdn ?_ _))) hb
  clear BW7
  clear hb
  go_wp2_with fail
  (with_reducible refine (K1.out _).mono ?_)
  rintro e w9 ⟨rfl, hb⟩
  have BW9 : Below w.heap.size w w9 := btr (by repeat (first | (with_reducible exact BW8) | (with_reducible refine bal ?_ _) | (with_reducible refine Below.drew ?_) | (with_reducible refine bdn ?_ _))) hb
  clear BW8
  clear hb
  go_wp2
  go_ret
  exact ⟨rfl, BW9⟩

set_option maxHeartbeats 1000000 in
set_option maxRecDepth 100000 in
theorem back_inf_inf (h s H S c : Int) (h1 : (bits .and .u16 h 31744 == 31744) = true) (h2 : (bits .and .u16 h 1023 != 0) = false) (s1 : (bits .and .u32 s 2139095040 == 2139095040) = true) (s2 : (bits .and .u32 s 8388607 != 0) = false)
    (k1 : ∀ W, Calls Tryd.prog 89 #[.int .u16 h] W fun e w' => e = .returned (.int .u64 H) ∧ Below W.heap.size W w')
    (k2 : ∀ W, Calls Tryd.prog 87 #[.int .u64 H] W fun e w' => e = .returned (.tuple #[.int .u16 h, .bool true]) ∧ Below W.heap.size W w')
    (k3 : ∀ W, Calls Tryd.prog 91 #[.int .u32 s] W fun e w' => e = .returned (.int .u64 S) ∧ Below W.heap.size W w')
    (k4 : ∀ W, Calls Tryd.prog 85 #[.int .u64 S] W fun e w' => e = .returned (.tuple #[.int .u32 s, .bool true]) ∧ Below W.heap.size W w')
    (k5 : ∀ W, Calls Tryd.prog 85 #[.int .u64 H] W fun e w' => e = .returned (.tuple #[.int .u32 c, .bool true]) ∧ Below W.heap.size W w')
    (kt : ∀ W, Tb W → Calls Tryd.prog 76 #[] W fun e w' => e = .returned (.bool true) ∧ Below W.heap.size W w')
    (k6 : ∀ W, Calls Tryd.prog 91 #[.int .u32 c] W fun e w' => e = .returned (.int .u64 H) ∧ Below W.heap.size W w') (w : World) (hT : Tb w) :
    Calls Tryd.prog 12 #[.int .u16 h, .int .u32 s] w fun e w' => e = .returned (.bool true) ∧ Below w.heap.size w w' := by
  have K1 := Lib.hid k1; clear k1
  have K2 := Lib.hid k2; clear k2
  have K3 := Lib.hid k3; clear k3
  have K4 := Lib.hid k4; clear k4
  have K5 := Lib.hid k5; clear k5
  have KT := Lib.hid kt; clear kt
  have K6 := Lib.hid k6; clear k6
  have HT := Lib.hid hT; clear hT
  go_enter Tryd.func12, Tryd.ntmps12
  go_wp2_with fail
  (with_reducible refine (K1.out _).mono ?_)
  rintro e w1 ⟨rfl, hb⟩
  have BW1 : Below w.heap.size w w1 := btr (by repeat (first | (with_reducible exact Below.refl _ _) | (with_reducible refine bal ?_ _) | (with_reducible refine Below.drew ?_) | (with_reducible refine bdn ?_ _))) hb
  clear hb
  go_wp2_with fail
  (with_reducible refine (K2.out _).mono ?_)
  rintro e w2 ⟨rfl, hb⟩
  have BW2 : Below w.heap.size w w2 := btr (by repeat (first | (with_reducible exact BW1) | (with_reducible refine bal ?_ _) | (with_reducible refine Below.drew ?_) | (with_reducible refine bdn ?_ _))) hb
  clear BW1
  clear hb
  go_wp2_with fail
  (with_reducible refine (K3.out _).mono ?_)
  rintro e w3 ⟨rfl, hb⟩
  have BW3 : Below w.heap.size w w3 := btr (by repeat (first | (with_reducible exact BW2) | (with_reducible refine bal ?_ _) | (with_reducible refine Below.drew ?_) | (with_reducible refine bdn ?_ _))) hb
  clear BW2
  clear hb
  go_wp2_with fail
  (with_reducible refine (K4.out _).mono ?_)
  rintro e w4 ⟨rfl, hb⟩
  have BW4 : Below w.heap.size w w4 := btr (by repeat (first | (with_reducible exact BW3) | (with_reducible refine bal ?_ _) | (with_reducible refine Below.drew ?_) | (with_reducible refine bdn ?_ _))) hb
  clear BW3
  clear hb
  go_wp2_with fail
  (with_reducible refine (K1.out _).mono ?_)
  rintro e w5 ⟨rfl, hb⟩
  have BW5 : Below w.heap.size w w5 := btr (by repeat (first | (with_reducible exact BW4) | (with_reducible refine bal ?_ _) | (with_reducible refine Below.drew ?_) | (with_reducible refine bdn ?_ _))) hb
  clear BW4
  clear hb
  go_wp2_with fail
  (with_reducible refine (K5.out _).mono ?_)
  rintro e w6 ⟨rfl, hb⟩
  have BW6 : Below w.heap.size w w6 := btr (by repeat (first | (with_reducible exact BW5) | (with_reducible refine bal ?_ _) | (with_reducible refine Below.drew ?_) | (with_reducible refine bdn ?_ _))) hb
  clear BW5
  clear hb
  go_wp2_with fail
  refine (KT.out _ (tb_on HT.out (by repeat (first | (with_reducible exact BW6) | (with_reducible refine bal ?_ _) | (with_reducible refine Below.drew ?_) | (with_reducible refine bdn ?_ _))))).mono ?_
  rintro e w7 ⟨rfl, hb⟩
  have BW7 : Below w.heap.size w w7 := btr (by repeat (first | (with_reducible exact BW6) | (with_reducible refine bal ?_ _) | (with_reducible refine Below.drew ?_) | (with_reducible refine bdn ?_ _))) hb
  clear BW6
  clear hb
  go_wp2_with fail
  (with_reducible refine (K6.out _).mono ?_)
  rintro e w8 ⟨rfl, hb⟩
  have BW8 : Below w.heap.size w w8 := btr (by repeat (first | (with_reducible exact BW7) | (with_reducible refine bal ?_ _) | (with_reducible refine Below.drew ?_) | (with_reducible refine bdn ?_ _))) hb
  clear BW7
  clear hb
  go_wp2_with fail
  (with_reducible refine (K1.out _).mono ?_)
  rintro e w9 ⟨rfl, hb⟩
  have BW9 : Below w.heap.size w w9 := btr (by repeat (first | (with_reducible exact BW8) | (with_reducible refine bal ?_ _) | (with_reducible refine Below.drew ?_) | (with_reducible refine bdn ?_ _))) hb
  clear BW8
  clear hb
  go_wp2
  go_ret
  exact ⟨rfl, BW9⟩

end Go.Proofs.YtpnlmikjcpjjmaaDoor
