/-
  entrepotlaw3.FloatNaNs: the walk. The table math/bits.deBruijn64tab reads as its initialiser lays it.
-/
import Derived.Test.YtpnlmikjcpjjmaaDoorFltF
namespace Go.Proofs.YtpnlmikjcpjjmaaDoor
open Go.RowKit Go.Shelf Go.Sort
attribute [local go_sem ↓] eql_nat neq_nat eql_int5 neq_int5

set_option maxHeartbeats 1000000 in
set_option maxRecDepth 100000 in
theorem nans_z_true (m X B1 B2 B : Int) (e1 : bits .and .u64 m 4503599627370495 = X) (e2 : bits .or .u64 9218868437227405312 X = B1) (hz : (X == 0) = true) (e3 : bits .or .u64 B1 1 = B2) (e4 : bits .or .u64 B2 9223372036854775808 = B)
    (k1 : ∀ W, Calls Tryd.prog 85 #[.int .u64 B] W fun e w' => e = .returned (.tuple #[.int .u32 2143289344, .bool true]) ∧ Below W.heap.size W w')
    (k2 : ∀ W, Calls Tryd.prog 87 #[.int .u64 B] W fun e w' => e = .returned (.tuple #[.int .u16 32256, .bool true]) ∧ Below W.heap.size W w')
    (kt : ∀ W, Tb W → Calls Tryd.prog 76 #[] W fun e w' => e = .returned (.bool true) ∧ Below W.heap.size W w')
    (k3 : ∀ W, Calls Tryd.prog 81 #[.int .u64 B] W fun e w' => e = .returned (.int .u64 9221120237041090560) ∧ Below W.heap.size W w')
    (k4 : ∀ W, Tb W → Calls Tryd.prog 77 #[.int .u64 B] W fun e w' => e = .returned (.int .i64 16) ∧ Below W.heap.size W w')
    (k5 : ∀ W, Tb W → Calls Tryd.prog 79 #[.int .u64 B] W fun e w' => e = .returned (.bool (B == 9221120237041090560)) ∧ Below W.heap.size W w')
    (k6 : ∀ W, Calls Tryd.prog 91 #[.int .u32 2143289344] W fun e w' => e = .returned (.int .u64 9221120237041090560) ∧ Below W.heap.size W w')
    (k7 : ∀ W, Calls Tryd.prog 89 #[.int .u16 32256] W fun e w' => e = .returned (.int .u64 9221120237041090560) ∧ Below W.heap.size W w') (w : World) (hT : Tb w) :
    Calls Tryd.prog 16 #[.int .u64 m, .bool true] w fun e w' => e = .returned (.bool true) ∧ Below w.heap.size w w' := by
  have K1 := Lib.hid k1; clear k1
  have K2 := Lib.hid k2; clear k2
  have KT := Lib.hid kt; clear kt
  have K3 := Lib.hid k3; clear k3
  have K4 := Lib.hid k4; clear k4
  have K5 := Lib.hid k5; clear k5
  have K6 := Lib.hid k6; clear k6
  have K7 := Lib.hid k7; clear k7
  have HT := Lib.hid hT; clear hT
  go_enter Tryd.func16, Tryd.ntmps16
  go_wp2_with fail
  (with_reducible refine (K1.out _).mono ?_)
  rintro e w1 ⟨rfl, hb⟩
  have BW1 : Below w.heap.size w w1 := btr (by repeat (first | (with_reducible exact Below.refl _ _) | (with_reducible refine bal ?_ _) | (with_reducible refine Below.drew ?_) | (with_reducible refine bdn ?_ _))) hb
  clear hb
  go_wp2_with fail
  (with_reducible refine (K2.out _).mono ?_)
  rintro e w2 ⟨rfl, hb⟩
  have BW2 : Below w.heap.size w w2 := btr (by repeat (first | (with_reducible exact BW1) | (with_reducible refine bal ?_ _) | (with_reducible refine Below.drew ?_) | (with_reducible refine bdn ?_ _))) hb
  clear BW1
  clear hb
  go_wp2_with fail
  refine (KT.out _ (tb_on HT.out (by repeat (first | (with_reducible exact BW2) | (with_reducible refine bal ?_ _) | (with_reducible refine Below.drew ?_) | (with_reducible refine bdn ?_ _))))).mono ?_
  rintro e w3 ⟨rfl, hb⟩
  have BW3 : Below w.heap.size w w3 := btr (by repeat (first | (with_reducible exact BW2) | (with_reducible refine bal ?_ _) | (with_reducible refine Below.drew ?_) | (with_reducible refine bdn ?_ _))) hb
  clear BW2
  clear hb
  go_wp2_with fail
  (with_reducible refine (K3.out _).mono ?_)
  rintro e w4 ⟨rfl, hb⟩
  have BW4 : Below w.heap.size w w4 := btr (by repeat (first | (with_reducible exact BW3) | (with_reducible refine bal ?_ _) | (with_reducible refine Below.drew ?_) | (with_reducible refine bdn ?_ _))) hb
  clear BW3
  clear hb
  go_wp2_with fail
  refine (K4.out _ (tb_on HT.out (by repeat (first | (with_reducible exact BW4) | (with_reducible refine bal ?_ _) | (with_reducible refine Below.drew ?_) | (with_reducible refine bdn ?_ _))))).mono ?_
  rintro e w5 ⟨rfl, hb⟩
  have BW5 : Below w.heap.size w w5 := btr (by repeat (first | (with_reducible exact BW4) | (with_reducible refine bal ?_ _) | (with_reducible refine Below.drew ?_) | (with_reducible refine bdn ?_ _))) hb
  clear BW4
  clear hb
  go_wp2_with fail
  refine (K5.out _ (tb_on HT.out (by repeat (first | (with_reducible exact BW5) | (with_reducible refine bal ?_ _) | (with_reducible refine Below.drew ?_) | (with_reducible refine bdn ?_ _))))).mono ?_
  rintro e w6 ⟨rfl, hb⟩
  have BW6 : Below w.heap.size w w6 := btr (by repeat (first | (with_reducible exact BW5) | (with_reducible refine bal ?_ _) | (with_reducible refine Below.drew ?_) | (with_reducible refine bdn ?_ _))) hb
  clear BW5
  clear hb
  go_wp2_with fail
  (with_reducible refine (K6.out _).mono ?_)
  rintro e w7 ⟨rfl, hb⟩
  have BW7 : Below w.heap.size w w7 := btr (by repeat (first | (with_reducible exact BW6) | (with_reducible refine bal ?_ _) | (with_reducible refine Below.drew ?_) | (with_reducible refine bdn ?_ _))) hb
  clear BW6
  clear hb
  go_wp2_with fail
  (with_reducible refine (K7.out _).mono ?_)
  rintro e w8 ⟨rfl, hb⟩
  have BW8 : Below w.heap.size w w8 := btr (by repeat (first | (with_reducible exact BW7) | (with_reducible refine bal ?_ _) | (with_reducible refine Below.drew ?_) | (with_reducible refine bdn ?_ _))) hb
  clear BW7
  clear hb
  go_wp2
  go_ret
  exact ⟨rfl, BW8⟩

set_option maxHeartbeats 1000000 in
set_option maxRecDepth 100000 in
theorem nans_z_false (m X B1 B2 B : Int) (e1 : bits .and .u64 m 4503599627370495 = X) (e2 : bits .or .u64 9218868437227405312 X = B1) (hz : (X == 0) = true) (e3 : bits .or .u64 B1 1 = B2) (e4 : B2 = B)
    (k1 : ∀ W, Calls Tryd.prog 85 #[.int .u64 B] W fun e w' => e = .returned (.tuple #[.int .u32 2143289344, .bool true]) ∧ Below W.heap.size W w')
    (k2 : ∀ W, Calls Tryd.prog 87 #[.int .u64 B] W fun e w' => e = .returned (.tuple #[.int .u16 32256, .bool true]) ∧ Below W.heap.size W w')
    (kt : ∀ W, Tb W → Calls Tryd.prog 76 #[] W fun e w' => e = .returned (.bool true) ∧ Below W.heap.size W w')
    (k3 : ∀ W, Calls Tryd.prog 81 #[.int .u64 B] W fun e w' => e = .returned (.int .u64 9221120237041090560) ∧ Below W.heap.size W w')
    (k4 : ∀ W, Tb W → Calls Tryd.prog 77 #[.int .u64 B] W fun e w' => e = .returned (.int .i64 16) ∧ Below W.heap.size W w')
    (k5 : ∀ W, Tb W → Calls Tryd.prog 79 #[.int .u64 B] W fun e w' => e = .returned (.bool (B == 9221120237041090560)) ∧ Below W.heap.size W w')
    (k6 : ∀ W, Calls Tryd.prog 91 #[.int .u32 2143289344] W fun e w' => e = .returned (.int .u64 9221120237041090560) ∧ Below W.heap.size W w')
    (k7 : ∀ W, Calls Tryd.prog 89 #[.int .u16 32256] W fun e w' => e = .returned (.int .u64 9221120237041090560) ∧ Below W.heap.size W w') (w : World) (hT : Tb w) :
    Calls Tryd.prog 16 #[.int .u64 m, .bool false] w fun e w' => e = .returned (.bool true) ∧ Below w.heap.size w w' := by
  have K1 := Lib.hid k1; clear k1
  have K2 := Lib.hid k2; clear k2
  have KT := Lib.hid kt; clear kt
  have K3 := Lib.hid k3; clear k3
  have K4 := Lib.hid k4; clear k4
  have K5 := Lib.hid k5; clear k5
  have K6 := Lib.hid k6; clear k6
  have K7 := Lib.hid k7; clear k7
  have HT := Lib.hid hT; clear hT
  subst e4
  go_enter Tryd.func16, Tryd.ntmps16
  go_wp2_with fail
  (with_reducible refine (K1.out _).mono ?_)
  rintro e w1 ⟨rfl, hb⟩
  have BW1 : Below w.heap.size w w1 := btr (by repeat (first | (with_reducible exact Below.refl _ _) | (with_reducible refine bal ?_ _) | (with_reducible refine Below.drew ?_) | (with_reducible refine bdn ?_ _))) hb
  clear hb
  go_wp2_with fail
  (with_reducible refine (K2.out _).mono ?_)
  rintro e w2 ⟨rfl, hb⟩
  have BW2 : Below w.heap.size w w2 := btr (by repeat (first | (with_reducible exact BW1) | (with_reducible refine bal ?_ _) | (with_reducible refine Below.drew ?_) | (with_reducible refine bdn ?_ _))) hb
  clear BW1
  clear hb
  go_wp2_with fail
  refine (KT.out _ (tb_on HT.out (by repeat (first | (with_reducible exact BW2) | (with_reducible refine bal ?_ _) | (with_reducible refine Below.drew ?_) | (with_reducible refine bdn ?_ _))))).mono ?_
  rintro e w3 ⟨rfl, hb⟩
  have BW3 : Below w.heap.size w w3 := btr (by repeat (first | (with_reducible exact BW2) | (with_reducible refine bal ?_ _) | (with_reducible refine Below.drew ?_) | (with_reducible refine bdn ?_ _))) hb
  clear BW2
  clear hb
  go_wp2_with fail
  (with_reducible refine (K3.out _).mono ?_)
  rintro e w4 ⟨rfl, hb⟩
  have BW4 : Below w.heap.size w w4 := btr (by repeat (first | (with_reducible exact BW3) | (with_reducible refine bal ?_ _) | (with_reducible refine Below.drew ?_) | (with_reducible refine bdn ?_ _))) hb
  clear BW3
  clear hb
  go_wp2_with fail
  refine (K4.out _ (tb_on HT.out (by repeat (first | (with_reducible exact BW4) | (with_reducible refine bal ?_ _) | (with_reducible refine Below.drew ?_) | (with_reducible refine bdn ?_ _))))).mono ?_
  rintro e w5 ⟨rfl, hb⟩
  have BW5 : Below w.heap.size w w5 := btr (by repeat (first | (with_reducible exact BW4) | (with_reducible refine bal ?_ _) | (with_reducible refine Below.drew ?_) | (with_reducible refine bdn ?_ _))) hb
  clear BW4
  clear hb
  go_wp2_with fail
  refine (K5.out _ (tb_on HT.out (by repeat (first | (with_reducible exact BW5) | (with_reducible refine bal ?_ _) | (with_reducible refine Below.drew ?_) | (with_reducible refine bdn ?_ _))))).mono ?_
  rintro e w6 ⟨rfl, hb⟩
  have BW6 : Below w.heap.size w w6 := btr (by repeat (first | (with_reducible exact BW5) | (with_reducible refine bal ?_ _) | (with_reducible refine Below.drew ?_) | (with_reducible refine bdn ?_ _))) hb
  clear BW5
  clear hb
  go_wp2_with fail
  (with_reducible refine (K6.out _).mono ?_)
  rintro e w7 ⟨rfl, hb⟩
  have BW7 : Below w.heap.size w w7 := btr (by repeat (first | (with_reducible exact BW6) | (with_reducible refine bal ?_ _) | (with_reducible refine Below.drew ?_) | (with_reducible refine bdn ?_ _))) hb
  clear BW6
  clear hb
  go_wp2_with fail
  (with_reducible refine (K7.out _).mono ?_)
  rintro e w8 ⟨rfl, hb⟩
  have BW8 : Below w.heap.size w w8 := btr (by repeat (first | (with_reducible exact BW7) | (with_reducible refine bal ?_ _) | (with_reducible refine Below.drew ?_) | (with_reducible refine bdn ?_ _))) hb
  clear BW7
  clear hb
  go_wp2
  go_ret
  exact ⟨rfl, BW8⟩

set_option maxHeartbeats 1000000 in
set_option maxRecDepth 100000 in
theorem nans_n_true (m X B1 B2 B : Int) (e1 : bits .and .u64 m 4503599627370495 = X) (e2 : bits .or .u64 9218868437227405312 X = B1) (hz : (X == 0) = false) (e3 : B1 = B2) (e4 : bits .or .u64 B2 9223372036854775808 = B)
    (k1 : ∀ W, Calls Tryd.prog 85 #[.int .u64 B] W fun e w' => e = .returned (.tuple #[.int .u32 2143289344, .bool true]) ∧ Below W.heap.size W w')
    (k2 : ∀ W, Calls Tryd.prog 87 #[.int .u64 B] W fun e w' => e = .returned (.tuple #[.int .u16 32256, .bool true]) ∧ Below W.heap.size W w')
    (kt : ∀ W, Tb W → Calls Tryd.prog 76 #[] W fun e w' => e = .returned (.bool true) ∧ Below W.heap.size W w')
    (k3 : ∀ W, Calls Tryd.prog 81 #[.int .u64 B] W fun e w' => e = .returned (.int .u64 9221120237041090560) ∧ Below W.heap.size W w')
    (k4 : ∀ W, Tb W → Calls Tryd.prog 77 #[.int .u64 B] W fun e w' => e = .returned (.int .i64 16) ∧ Below W.heap.size W w')
    (k5 : ∀ W, Tb W → Calls Tryd.prog 79 #[.int .u64 B] W fun e w' => e = .returned (.bool (B == 9221120237041090560)) ∧ Below W.heap.size W w')
    (k6 : ∀ W, Calls Tryd.prog 91 #[.int .u32 2143289344] W fun e w' => e = .returned (.int .u64 9221120237041090560) ∧ Below W.heap.size W w')
    (k7 : ∀ W, Calls Tryd.prog 89 #[.int .u16 32256] W fun e w' => e = .returned (.int .u64 9221120237041090560) ∧ Below W.heap.size W w') (w : World) (hT : Tb w) :
    Calls Tryd.prog 16 #[.int .u64 m, .bool true] w fun e w' => e = .returned (.bool true) ∧ Below w.heap.size w w' := by
  have K1 := Lib.hid k1; clear k1
  have K2 := Lib.hid k2; clear k2
  have KT := Lib.hid kt; clear kt
  have K3 := Lib.hid k3; clear k3
  have K4 := Lib.hid k4; clear k4
  have K5 := Lib.hid k5; clear k5
  have K6 := Lib.hid k6; clear k6
  have K7 := Lib.hid k7; clear k7
  have HT := Lib.hid hT; clear hT
  subst e3
  go_enter Tryd.func16, Tryd.ntmps16
  go_wp2_with fail
  (with_reducible refine (K1.out _).mono ?_)
  rintro e w1 ⟨rfl, hb⟩
  have BW1 : Below w.heap.size w w1 := btr (by repeat (first | (with_reducible exact Below.refl _ _) | (with_reducible refine bal ?_ _) | (with_reducible refine Below.drew ?_) | (with_reducible refine bdn ?_ _))) hb
  clear hb
  go_wp2_with fail
  (with_reducible refine (K2.out _).mono ?_)
  rintro e w2 ⟨rfl, hb⟩
  have BW2 : Below w.heap.size w w2 := btr (by repeat (first | (with_reducible exact BW1) | (with_reducible refine bal ?_ _) | (with_reducible refine Below.drew ?_) | (with_reducible refine bdn ?_ _))) hb
  clear BW1
  clear hb
  go_wp2_with fail
  refine (KT.out _ (tb_on HT.out (by repeat (first | (with_reducible exact BW2) | (with_reducible refine bal ?_ _) | (with_reducible refine Below.drew ?_) | (with_reducible refine bdn ?_ _))))).mono ?_
  rintro e w3 ⟨rfl, hb⟩
  have BW3 : Below w.heap.size w w3 := btr (by repeat (first | (with_reducible exact BW2) | (with_reducible refine bal ?_ _) | (with_reducible refine Below.drew ?_) | (with_reducible refine bdn ?_ _))) hb
  clear BW2
  clear hb
  go_wp2_with fail
  (with_reducible refine (K3.out _).mono ?_)
  rintro e w4 ⟨rfl, hb⟩
  have BW4 : Below w.heap.size w w4 := btr (by repeat (first | (with_reducible exact BW3) | (with_reducible refine bal ?_ _) | (with_reducible refine Below.drew ?_) | (with_reducible refine bdn ?_ _))) hb
  clear BW3
  clear hb
  go_wp2_with fail
  refine (K4.out _ (tb_on HT.out (by repeat (first | (with_reducible exact BW4) | (with_reducible refine bal ?_ _) | (with_reducible refine Below.drew ?_) | (with_reducible refine bdn ?_ _))))).mono ?_
  rintro e w5 ⟨rfl, hb⟩
  have BW5 : Below w.heap.size w w5 := btr (by repeat (first | (with_reducible exact BW4) | (with_reducible refine bal ?_ _) | (with_reducible refine Below.drew ?_) | (with_reducible refine bdn ?_ _))) hb
  clear BW4
  clear hb
  go_wp2_with fail
  refine (K5.out _ (tb_on HT.out (by repeat (first | (with_reducible exact BW5) | (with_reducible refine bal ?_ _) | (with_reducible refine Below.drew ?_) | (with_reducible refine bdn ?_ _))))).mono ?_
  rintro e w6 ⟨rfl, hb⟩
  have BW6 : Below w.heap.size w w6 := btr (by repeat (first | (with_reducible exact BW5) | (with_reducible refine bal ?_ _) | (with_reducible refine Below.drew ?_) | (with_reducible refine bdn ?_ _))) hb
  clear BW5
  clear hb
  go_wp2_with fail
  (with_reducible refine (K6.out _).mono ?_)
  rintro e w7 ⟨rfl, hb⟩
  have BW7 : Below w.heap.size w w7 := btr (by repeat (first | (with_reducible exact BW6) | (with_reducible refine bal ?_ _) | (with_reducible refine Below.drew ?_) | (with_reducible refine bdn ?_ _))) hb
  clear BW6
  clear hb
  go_wp2_with fail
  (with_reducible refine (K7.out _).mono ?_)
  rintro e w8 ⟨rfl, hb⟩
  have BW8 : Below w.heap.size w w8 := btr (by repeat (first | (with_reducible exact BW7) | (with_reducible refine bal ?_ _) | (with_reducible refine Below.drew ?_) | (with_reducible refine bdn ?_ _))) hb
  clear BW7
  clear hb
  go_wp2
  go_ret
  exact ⟨rfl, BW8⟩

set_option maxHeartbeats 1000000 in
set_option maxRecDepth 100000 in
theorem nans_n_false (m X B1 B2 B : Int) (e1 : bits .and .u64 m 4503599627370495 = X) (e2 : bits .or .u64 9218868437227405312 X = B1) (hz : (X == 0) = false) (e3 : B1 = B2) (e4 : B2 = B)
    (k1 : ∀ W, Calls Tryd.prog 85 #[.int .u64 B] W fun e w' => e = .returned (.tuple #[.int .u32 2143289344, .bool true]) ∧ Below W.heap.size W w')
    (k2 : ∀ W, Calls Tryd.prog 87 #[.int .u64 B] W fun e w' => e = .returned (.tuple #[.int .u16 32256, .bool true]) ∧ Below W.heap.size W w')
    (kt : ∀ W, Tb W → Calls Tryd.prog 76 #[] W fun e w' => e = .returned (.bool true) ∧ Below W.heap.size W w')
    (k3 : ∀ W, Calls Tryd.prog 81 #[.int .u64 B] W fun e w' => e = .returned (.int .u64 9221120237041090560) ∧ Below W.heap.size W w')
    (k4 : ∀ W, Tb W → Calls Tryd.prog 77 #[.int .u64 B] W fun e w' => e = .returned (.int .i64 16) ∧ Below W.heap.size W w')
    (k5 : ∀ W, Tb W → Calls Tryd.prog 79 #[.int .u64 B] W fun e w' => e = .returned (.bool (B == 9221120237041090560)) ∧ Below W.heap.size W w')
    (k6 : ∀ W, Calls Tryd.prog 91 #[.int .u32 2143289344] W fun e w' => e = .returned (.int .u64 9221120237041090560) ∧ Below W.heap.size W w')
    (k7 : ∀ W, Calls Tryd.prog 89 #[.int .u16 32256] W fun e w' => e = .returned (.int .u64 9221120237041090560) ∧ Below W.heap.size W w') (w : World) (hT : Tb w) :
    Calls Tryd.prog 16 #[.int .u64 m, .bool false] w fun e w' => e = .returned (.bool true) ∧ Below w.heap.size w w' := by
  have K1 := Lib.hid k1; clear k1
  have K2 := Lib.hid k2; clear k2
  have KT := Lib.hid kt; clear kt
  have K3 := Lib.hid k3; clear k3
  have K4 := Lib.hid k4; clear k4
  have K5 := Lib.hid k5; clear k5
  have K6 := Lib.hid k6; clear k6
  have K7 := Lib.hid k7; clear k7
  have HT := Lib.hid hT; clear hT
  subst e3
  subst e4
  go_enter Tryd.func16, Tryd.ntmps16
  go_wp2_with fail
  (with_reducible refine (K1.out _).mono ?_)
  rintro e w1 ⟨rfl, hb⟩
  have BW1 : Below w.heap.size w w1 := btr (by repeat (first | (with_reducible exact Below.refl _ _) | (with_reducible refine bal ?_ _) | (with_reducible refine Below.drew ?_) | (with_reducible refine bdn ?_ _))) hb
  clear hb
  go_wp2_with fail
  (with_reducible refine (K2.out _).mono ?_)
  rintro e w2 ⟨rfl, hb⟩
  have BW2 : Below w.heap.size w w2 := btr (by repeat (first | (with_reducible exact BW1) | (with_reducible refine bal ?_ _) | (with_reducible refine Below.drew ?_) | (with_reducible refine bdn ?_ _))) hb
  clear BW1
  clear hb
  go_wp2_with fail
  refine (KT.out _ (tb_on HT.out (by repeat (first | (with_reducible exact BW2) | (with_reducible refine bal ?_ _) | (with_reducible refine Below.drew ?_) | (with_reducible refine bdn ?_ _))))).mono ?_
  rintro e w3 ⟨rfl, hb⟩
  have BW3 : Below w.heap.size w w3 := btr (by repeat (first | (with_reducible exact BW2) | (with_reducible refine bal ?_ _) | (with_reducible refine Below.drew ?_) | (with_reducible refine bdn ?_ _))) hb
  clear BW2
  clear hb
  go_wp2_with fail
  (with_reducible refine (K3.out _).mono ?_)
  rintro e w4 ⟨rfl, hb⟩
  have BW4 : Below w.heap.size w w4 := btr (by repeat (first | (with_reducible exact BW3) | (with_reducible refine bal ?_ _) | (with_reducible refine Below.drew ?_) | (with_reducible refine bdn ?_ _))) hb
  clear BW3
  clear hb
  go_wp2_with fail
  refine (K4.out _ (tb_on HT.out (by repeat (first | (with_reducible exact BW4) | (with_reducible refine bal ?_ _) | (with_reducible refine Below.drew ?_) | (with_reducible refine bdn ?_ _))))).mono ?_
  rintro e w5 ⟨rfl, hb⟩
  have BW5 : Below w.heap.size w w5 := btr (by repeat (first | (with_reducible exact BW4) | (with_reducible refine bal ?_ _) | (with_reducible refine Below.drew ?_) | (with_reducible refine bdn ?_ _))) hb
  clear BW4
  clear hb
  go_wp2_with fail
  refine (K5.out _ (tb_on HT.out (by repeat (first | (with_reducible exact BW5) | (with_reducible refine bal ?_ _) | (with_reducible refine Below.drew ?_) | (with_reducible refine bdn ?_ _))))).mono ?_
  rintro e w6 ⟨rfl, hb⟩
  have BW6 : Below w.heap.size w w6 := btr (by repeat (first | (with_reducible exact BW5) | (with_reducible refine bal ?_ _) | (with_reducible refine Below.drew ?_) | (with_reducible refine bdn ?_ _))) hb
  clear BW5
  clear hb
  go_wp2_with fail
  (with_reducible refine (K6.out _).mono ?_)
  rintro e w7 ⟨rfl, hb⟩
  have BW7 : Below w.heap.size w w7 := btr (by repeat (first | (with_reducible exact BW6) | (with_reducible refine bal ?_ _) | (with_reducible refine Below.drew ?_) | (with_reducible refine bdn ?_ _))) hb
  clear BW6
  clear hb
  go_wp2_with fail
  (with_reducible refine (K7.out _).mono ?_)
  rintro e w8 ⟨rfl, hb⟩
  have BW8 : Below w.heap.size w w8 := btr (by repeat (first | (with_reducible exact BW7) | (with_reducible refine bal ?_ _) | (with_reducible refine Below.drew ?_) | (with_reducible refine bdn ?_ _))) hb
  clear BW7
  clear hb
  go_wp2
  go_ret
  exact ⟨rfl, BW8⟩

end Go.Proofs.YtpnlmikjcpjjmaaDoor
