/-
  entrepotlaw3.FloatHalves: the walk. The table math/bits.deBruijn64tab reads as its initialiser lays it.
-/
import Derived.Test.YtpnlmikjcpjjmaaDoorFltF
namespace Go.Proofs.YtpnlmikjcpjjmaaDoor
open Go.RowKit Go.Shelf Go.Sort
attribute [local go_sem ↓] eql_nat neq_nat eql_int5 neq_int5

set_option maxHeartbeats 1000000 in
set_option maxRecDepth 100000 in
theorem halves_none (s S h t E : Int) (e1 : bits .and .u32 (s / 8388608) 255 = E) (h0 : 0 ≤ E) (h1 : E ≤ 255)
    (k1 : ∀ W, Calls Tryd.prog 91 #[.int .u32 s] W fun e w' => e = .returned (.int .u64 S) ∧ Below W.heap.size W w')
    (k2 : ∀ W, Calls Tryd.prog 87 #[.int .u64 S] W fun e w' => e = .returned (.tuple #[.int .u16 h, .bool false]) ∧ Below W.heap.size W w')
    (k3 : ∀ W, Calls Tryd.prog 85 #[.int .u64 S] W fun e w' => e = .returned (.tuple #[.int .u32 t, .bool true]) ∧ Below W.heap.size W w')
    (k5 : ∀ W, Calls Tryd.prog 91 #[.int .u32 t] W fun e w' => e = .returned (.int .u64 S) ∧ Below W.heap.size W w')
    (kt : ∀ W, Tb W → Calls Tryd.prog 76 #[] W fun e w' => e = .returned (.bool true) ∧ Below W.heap.size W w') (w : World) (hT : Tb w) :
    Calls Tryd.prog 17 #[.int .u32 s] w fun e w' => e = .returned (.bool true) ∧ Below w.heap.size w w' := by
  have K1 := Lib.hid k1; clear k1
  have K2 := Lib.hid k2; clear k2
  have K3 := Lib.hid k3; clear k3
  have K5 := Lib.hid k5; clear k5
  have KT := Lib.hid kt; clear kt
  have HT := Lib.hid hT; clear hT
  go_enter Tryd.func17, Tryd.ntmps17
  go_wp2_with fail
  (with_reducible refine (K1.out _).mono ?_)
  rintro e w1 ⟨rfl, hb⟩
  have BW1 : Below w.heap.size w w1 := btr (by repeat (first | (with_reducible exact Below.refl _ _) | (with_reducible refine bal ?_ _) | (with_reducible refine Below.drew ?_) | (with_reducible refine bdn ?_ _))) hb
  clear hb
  go_wp2_with fail
  (with_reducible refine (K2.out _).mono ?_)
  rintro e w2 ⟨rfl, hb⟩
  have BW2 : Below w.heap.size w w2 := btr (by repeat (first | (with_reducible exact BW1) | (with_reducible refine bal ?_ _) | (with_reducible refine Below.drew ?_) | (with_reducible refine bdn ?_ _))) hb
  clear BW1
  clear hb
  go_wp2_with fail
  (with_reducible refine (K3.out _).mono ?_)
  rintro e w3 ⟨rfl, hb⟩
  have BW3 : Below w.heap.size w w3 := btr (by repeat (first | (with_reducible exact BW2) | (with_reducible refine bal ?_ _) | (with_reducible refine Below.drew ?_) | (with_reducible refine bdn ?_ _))) hb
  clear BW2
  clear hb
  go_wp2_with fail
  (with_reducible refine (K5.out _).mono ?_)
  rintro e w4 ⟨rfl, hb⟩
  have BW4 : Below w.heap.size w w4 := btr (by repeat (first | (with_reducible exact BW3) | (with_reducible refine bal ?_ _) | (with_reducible refine Below.drew ?_) | (with_reducible refine bdn ?_ _))) hb
  clear BW3
  clear hb
  go_wp2_with fail
  refine (KT.out _ (tb_on HT.out (by repeat (first | (with_reducible exact BW4) | (with_reducible refine bal ?_ _) | (with_reducible refine Below.drew ?_) | (with_reducible refine bdn ?_ _))))).mono ?_
  rintro e w5 ⟨rfl, hb⟩
  have BW5 : Below w.heap.size w w5 := btr (by repeat (first | (with_reducible exact BW4) | (with_reducible refine bal ?_ _) | (with_reducible refine Below.drew ?_) | (with_reducible refine bdn ?_ _))) hb
  clear BW4
  clear hb
  go_wp2
  go_ret
  exact ⟨rfl, BW5⟩

set_option maxHeartbeats 1000000 in
set_option maxRecDepth 100000 in
theorem halves_ends (s S h t E : Int) (e1 : bits .and .u32 (s / 8388608) 255 = E) (h0 : 0 ≤ E) (h1 : E ≤ 255) (q1 : (E != 255) = false)
    (k1 : ∀ W, Calls Tryd.prog 91 #[.int .u32 s] W fun e w' => e = .returned (.int .u64 S) ∧ Below W.heap.size W w')
    (k2 : ∀ W, Calls Tryd.prog 87 #[.int .u64 S] W fun e w' => e = .returned (.tuple #[.int .u16 h, .bool true]) ∧ Below W.heap.size W w')
    (k3 : ∀ W, Calls Tryd.prog 85 #[.int .u64 S] W fun e w' => e = .returned (.tuple #[.int .u32 t, .bool true]) ∧ Below W.heap.size W w')
    (k4 : ∀ W, Calls Tryd.prog 89 #[.int .u16 h] W fun e w' => e = .returned (.int .u64 S) ∧ Below W.heap.size W w')
    (k5 : ∀ W, Calls Tryd.prog 91 #[.int .u32 t] W fun e w' => e = .returned (.int .u64 S) ∧ Below W.heap.size W w')
    (kt : ∀ W, Tb W → Calls Tryd.prog 76 #[] W fun e w' => e = .returned (.bool true) ∧ Below W.heap.size W w') (w : World) (hT : Tb w) :
    Calls Tryd.prog 17 #[.int .u32 s] w fun e w' => e = .returned (.bool true) ∧ Below w.heap.size w w' := by
  have K1 := Lib.hid k1; clear k1
  have K2 := Lib.hid k2; clear k2
  have K3 := Lib.hid k3; clear k3
  have K4 := Lib.hid k4; clear k4
  have K5 := Lib.hid k5; clear k5
  have KT := Lib.hid kt; clear kt
  have HT := Lib.hid hT; clear hT
  go_enter Tryd.func17, Tryd.ntmps17
  go_wp2_with fail
  (with_reducible refine (K1.out _).mono ?_)
  rintro e w1 ⟨rfl, hb⟩
  have BW1 : Below w.heap.size w w1 := btr (by repeat (first | (with_reducible exact Below.refl _ _) | (with_reducible refine bal ?_ _) | (with_reducible refine Below.drew ?_) | (with_reducible refine bdn ?_ _))) hb
  clear hb
  go_wp2_with fail
  (with_reducible refine (K2.out _).mono ?_)
  rintro e w2 ⟨rfl, hb⟩
  have BW2 : Below w.heap.size w w2 := btr (by repeat (first | (with_reducible exact BW1) | (with_reducible refine bal ?_ _) | (with_reducible refine Below.drew ?_) | (with_reducible refine bdn ?_ _))) hb
  clear BW1
  clear hb
  go_wp2_with fail
  (with_reducible refine (K3.out _).mono ?_)
  rintro e w3 ⟨rfl, hb⟩
  have BW3 : Below w.heap.size w w3 := btr (by repeat (first | (with_reducible exact BW2) | (with_reducible refine bal ?_ _) | (with_reducible refine Below.drew ?_) | (with_reducible refine bdn ?_ _))) hb
  clear BW2
  clear hb
  go_wp2_with fail
  (with_reducible refine (K4.out _).mono ?_)
  rintro e w4 ⟨rfl, hb⟩
  have BW4 : Below w.heap.size w w4 := btr (by repeat (first | (with_reducible exact BW3) | (with_reducible refine bal ?_ _) | (with_reducible refine Below.drew ?_) | (with_reducible refine bdn ?_ _))) hb
  clear BW3
  clear hb
  go_wp2_with fail
  (with_reducible refine (K5.out _).mono ?_)
  rintro e w5 ⟨rfl, hb⟩
  have BW5 : Below w.heap.size w w5 := btr (by repeat (first | (with_reducible exact BW4) | (with_reducible refine bal ?_ _) | (with_reducible refine Below.drew ?_) | (with_reducible refine bdn ?_ _))) hb
  clear BW4
  clear hb
  go_wp2_with fail
  refine (KT.out _ (tb_on HT.out (by repeat (first | (with_reducible exact BW5) | (with_reducible refine bal ?_ _) | (with_reducible refine Below.drew ?_) | (with_reducible refine bdn ?_ _))))).mono ?_
  rintro e w6 ⟨rfl, hb⟩
  have BW6 : Below w.heap.size w w6 := btr (by repeat (first | (with_reducible exact BW5) | (with_reducible refine bal ?_ _) | (with_reducible refine Below.drew ?_) | (with_reducible refine bdn ?_ _))) hb
  clear BW5
  clear hb
  go_wp2
  go_ret
  exact ⟨rfl, BW6⟩

set_option maxHeartbeats 1000000 in
set_option maxRecDepth 100000 in
theorem halves_zero (s S h t E : Int) (e1 : bits .and .u32 (s / 8388608) 255 = E) (h0 : 0 ≤ E) (h1 : E ≤ 255) (q1 : (E != 255) = true) (q2 : (bits .and .u32 s 2147483647 != 0) = false)
    (k1 : ∀ W, Calls Tryd.prog 91 #[.int .u32 s] W fun e w' => e = .returned (.int .u64 S) ∧ Below W.heap.size W w')
    (k2 : ∀ W, Calls Tryd.prog 87 #[.int .u64 S] W fun e w' => e = .returned (.tuple #[.int .u16 h, .bool true]) ∧ Below W.heap.size W w')
    (k3 : ∀ W, Calls Tryd.prog 85 #[.int .u64 S] W fun e w' => e = .returned (.tuple #[.int .u32 t, .bool true]) ∧ Below W.heap.size W w')
    (k4 : ∀ W, Calls Tryd.prog 89 #[.int .u16 h] W fun e w' => e = .returned (.int .u64 S) ∧ Below W.heap.size W w')
    (k5 : ∀ W, Calls Tryd.prog 91 #[.int .u32 t] W fun e w' => e = .returned (.int .u64 S) ∧ Below W.heap.size W w')
    (kt : ∀ W, Tb W → Calls Tryd.prog 76 #[] W fun e w' => e = .returned (.bool true) ∧ Below W.heap.size W w') (w : World) (hT : Tb w) :
    Calls Tryd.prog 17 #[.int .u32 s] w fun e w' => e = .returned (.bool true) ∧ Below w.heap.size w w' := by
  have K1 := Lib.hid k1; clear k1
  have K2 := Lib.hid k2; clear k2
  have K3 := Lib.hid k3; clear k3
  have K4 := Lib.hid k4; clear k4
  have K5 := Lib.hid k5; clear k5
  have KT := Lib.hid kt; clear kt
  have HT := Lib.hid hT; clear hT
  go_enter Tryd.func17, Tryd.ntmps17
  go_wp2_with fail
  (with_reducible refine (K1.out _).mono ?_)
  rintro e w1 ⟨rfl, hb⟩
  have BW1 : Below w.heap.size w w1 := btr (by repeat (first | (with_reducible exact Below.refl _ _) | (with_reducible refine bal ?_ _) | (with_reducible refine Below.drew ?_) | (with_reducible refine bdn ?_ _))) hb
  clear hb
  go_wp2_with fail
  (with_reducible refine (K2.out _).mono ?_)
  rintro e w2 ⟨rfl, hb⟩
  have BW2 : Below w.heap.size w w2 := btr (by repeat (first | (with_reducible exact BW1) | (with_reducible refine bal ?_ _) | (with_reducible refine Below.drew ?_) | (with_reducible refine bdn ?_ _))) hb
  clear BW1
  clear hb
  go_wp2_with fail
  (with_reducible refine (K3.out _).mono ?_)
  rintro e w3 ⟨rfl, hb⟩
  have BW3 : Below w.heap.size w w3 := btr (by repeat (first | (with_reducible exact BW2) | (with_reducible refine bal ?_ _) | (with_reducible refine Below.drew ?_) | (with_reducible refine bdn ?_ _))) hb
  clear BW2
  clear hb
  go_wp2_with fail
  (with_reducible refine (K4.out _).mono ?_)
  rintro e w4 ⟨rfl, hb⟩
  have BW4 : Below w.heap.size w w4 := btr (by repeat (first | (with_reducible exact BW3) | (with_reducible refine bal ?_ _) | (with_reducible refine Below.drew ?_) | (with_reducible refine bdn ?_ _))) hb
  clear BW3
  clear hb
  go_wp2_with fail
  (with_reducible refine (K5.out _).mono ?_)
  rintro e w5 ⟨rfl, hb⟩
  have BW5 : Below w.heap.size w w5 := btr (by repeat (first | (with_reducible exact BW4) | (with_reducible refine bal ?_ _) | (with_reducible refine Below.drew ?_) | (with_reducible refine bdn ?_ _))) hb
  clear BW4
  clear hb
  go_wp2_with fail
  refine (KT.out _ (tb_on HT.out (by repeat (first | (with_reducible exact BW5) | (with_reducible refine bal ?_ _) | (with_reducible refine Below.drew ?_) | (with_reducible refine bdn ?_ _))))).mono ?_
  rintro e w6 ⟨rfl, hb⟩
  have BW6 : Below w.heap.size w w6 := btr (by repeat (first | (with_reducible exact BW5) | (with_reducible refine bal ?_ _) | (with_reducible refine Below.drew ?_) | (with_reducible refine bdn ?_ _))) hb
  clear BW5
  clear hb
  go_wp2
  go_ret
  exact ⟨rfl, BW6⟩

set_option maxHeartbeats 1000000 in
set_option maxRecDepth 100000 in
theorem halves_mid (s S h t E : Int) (e1 : bits .and .u32 (s / 8388608) 255 = E) (h0 : 0 ≤ E) (h1 : E ≤ 255) (q1 : (E != 255) = true) (q2 : (bits .and .u32 s 2147483647 != 0) = true) (q3 : 103 ≤ E) (q4 : E ≤ 142)
    (k1 : ∀ W, Calls Tryd.prog 91 #[.int .u32 s] W fun e w' => e = .returned (.int .u64 S) ∧ Below W.heap.size W w')
    (k2 : ∀ W, Calls Tryd.prog 87 #[.int .u64 S] W fun e w' => e = .returned (.tuple #[.int .u16 h, .bool true]) ∧ Below W.heap.size W w')
    (k3 : ∀ W, Calls Tryd.prog 85 #[.int .u64 S] W fun e w' => e = .returned (.tuple #[.int .u32 t, .bool true]) ∧ Below W.heap.size W w')
    (k4 : ∀ W, Calls Tryd.prog 89 #[.int .u16 h] W fun e w' => e = .returned (.int .u64 S) ∧ Below W.heap.size W w')
    (k5 : ∀ W, Calls Tryd.prog 91 #[.int .u32 t] W fun e w' => e = .returned (.int .u64 S) ∧ Below W.heap.size W w')
    (kt : ∀ W, Tb W → Calls Tryd.prog 76 #[] W fun e w' => e = .returned (.bool true) ∧ Below W.heap.size W w') (w : World) (hT : Tb w) :
    Calls Tryd.prog 17 #[.int .u32 s] w fun e w' => e = .returned (.bool true) ∧ Below w.heap.size w w' := by
  have K1 := Lib.hid k1; clear k1
  have K2 := Lib.hid k2; clear k2
  have K3 := Lib.hid k3; clear k3
  have K4 := Lib.hid k4; clear k4
  have K5 := Lib.hid k5; clear k5
  have KT := Lib.hid kt; clear kt
  have HT := Lib.hid hT; clear hT
  go_enter Tryd.func17, Tryd.ntmps17
  go_wp2_with fail
  (with_reducible refine (K1.out _).mono ?_)
  rintro e w1 ⟨rfl, hb⟩
  have BW1 : Below w.heap.size w w1 := btr (by repeat (first | (with_reducible exact Below.refl _ _) | (with_reducible refine bal ?_ _) | (with_reducible refine Below.drew ?_) | (with_reducible refine bdn ?_ _))) hb
  clear hb
  go_wp2_with fail
  (with_reducible refine (K2.out _).mono ?_)
  rintro e w2 ⟨rfl, hb⟩
  have BW2 : Below w.heap.size w w2 := btr (by repeat (first | (with_reducible exact BW1) | (with_reducible refine bal ?_ _) | (with_reducible refine Below.drew ?_) | (with_reducible refine bdn ?_ _))) hb
  clear BW1
  clear hb
  go_wp2_with fail
  (with_reducible refine (K3.out _).mono ?_)
  rintro e w3 ⟨rfl, hb⟩
  have BW3 : Below w.heap.size w w3 := btr (by repeat (first | (with_reducible exact BW2) | (with_reducible refine bal ?_ _) | (with_reducible refine Below.drew ?_) | (with_reducible refine bdn ?_ _))) hb
  clear BW2
  clear hb
  go_wp2_with fail
  (with_reducible refine (K4.out _).mono ?_)
  rintro e w4 ⟨rfl, hb⟩
  have BW4 : Below w.heap.size w w4 := btr (by repeat (first | (with_reducible exact BW3) | (with_reducible refine bal ?_ _) | (with_reducible refine Below.drew ?_) | (with_reducible refine bdn ?_ _))) hb
  clear BW3
  clear hb
  go_wp2_with fail
  (with_reducible refine (K5.out _).mono ?_)
  rintro e w5 ⟨rfl, hb⟩
  have BW5 : Below w.heap.size w w5 := btr (by repeat (first | (with_reducible exact BW4) | (with_reducible refine bal ?_ _) | (with_reducible refine Below.drew ?_) | (with_reducible refine bdn ?_ _))) hb
  clear BW4
  clear hb
  go_wp2_with fail
  refine (KT.out _ (tb_on HT.out (by repeat (first | (with_reducible exact BW5) | (with_reducible refine bal ?_ _) | (with_reducible refine Below.drew ?_) | (with_reducible refine bdn ?_ _))))).mono ?_
  rintro e w6 ⟨rfl, hb⟩
  have BW6 : Below w.heap.size w w6 := btr (by repeat (first | (with_reducible exact BW5) | (with_reducible refine bal ?_ _) | (with_reducible refine Below.drew ?_) | (with_reducible refine bdn ?_ _))) hb
  clear BW5
  clear hb
  go_wp2
  go_ret
  exact ⟨rfl, BW6⟩

end Go.Proofs.YtpnlmikjcpjjmaaDoor
