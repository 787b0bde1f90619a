/-
  float.OfWhole, the reference's Exact and OfWhole: the contracts; entrepotlaw3.FloatWholes: the walk. The table math/bits.deBruijn64tab reads as its initialiser lays it.
-/
import Derived.Test.YtjdogiehcgfmjaaGreatDoorFltTold
import Derived.Test.YtjdogiehcgfmjaaGreatDoorRefPackD
import Derived.Test.YtjdogiehcgfmjaaGreatDoorRefInt
namespace Go.Proofs.YtjdogiehcgfmjaaGreatDoor
open Go.RowKit Go.Shelf
attribute [local go_sem ↓] eql_nat neq_nat eql_int5 neq_int5

set_option maxHeartbeats 1000000 in
set_option maxRecDepth 100000 in
theorem ofwhole_no (g : Bool) (x : Nat) (w : World) (hT : Tb w)
    (k1 : ∀ W, Tb W → Calls Tryz.prog 155 #[I5 g x] W fun e w' => e = .returned (.bool false) ∧ Below W.heap.size W w') :
    Calls Tryz.prog 80 #[I5 g x] w fun e w' => e = .returned (.tuple #[.int .u64 0, .bool false]) ∧ Below w.heap.size w w' := by
  unfold I5 at *
  have HT := Lib.hid hT; clear hT; have K1 := Lib.hid k1; clear k1
  go_enter Tryz.func80, Tryz.ntmps80
  go_wp2_with fail
  refine (K1.out _ (tb_on HT.out (by repeat (first | (with_reducible exact Below.refl _ _) | (with_reducible refine bal ?_ _) | (with_reducible refine Below.drew ?_) | (with_reducible refine bdn ?_ _))))).mono ?_
  rintro e w1 ⟨rfl, hb⟩
  have BW1 : Below w.heap.size w w1 := btr (by repeat (first | (with_reducible exact Below.refl _ _) | (with_reducible refine bal ?_ _) | (with_reducible refine Below.drew ?_) | (with_reducible refine bdn ?_ _))) hb
  have X1 : Row5 w1 w.heap.size (.bool g) (.int .u64 (lb 0 x)) (.int .u64 (lb 1 x)) (.int .u64 (lb 2 x)) (.int .u64 (lb 3 x)) := Row5.keep hb (by repeat (first | (with_reducible exact Row5.new _ _ _ _ _ _) | ((with_reducible refine Row5.new' _ ?_ _ _ _ _ _); (simp; done)) | (with_reducible refine Row5.alloc ?_ _) | (with_reducible refine Row5.drew ?_)))
  clear hb
  go_wp2
  exact bodyPost_ret (v := .tuple #[.int .u64 0, .bool false]) (by simp [results, Tryz.results80, go_sem]) rfl ⟨rfl, BW1⟩
set_option maxHeartbeats 1000000 in
set_option maxRecDepth 100000 in
theorem ofwhole_pos (x y : Nat) (t d r : Int) (w : World) (hT : Tb w)
    (k1 : ∀ W, Tb W → Calls Tryz.prog 155 #[I5 false x] W fun e w' => e = .returned (.bool true) ∧ Below W.heap.size W w')
    (k2 : ∀ W, Tb W → Calls Tryz.prog 156 #[N4 x] W fun e w' => e = .returned (.int .i64 t) ∧ Below W.heap.size W w')
    (k3 : ∀ W, Calls Tryz.prog 158 #[N4 x, .int .i64 t] W fun e w' => e = .returned (N4 y) ∧ Below W.heap.size W w')
    (k4 : ∀ W, Calls Tryz.prog 157 #[N4 y] W fun e w' => e = .returned (.tuple #[.int .u64 d, .bool true]) ∧ Below W.heap.size W w')
    (k5 : ∀ W, Calls Tryz.prog 159 #[.int .u64 d, .int .i64 t] W fun e w' => e = .returned (.int .u64 r) ∧ Below W.heap.size W w') :
    Calls Tryz.prog 80 #[I5 false x] w fun e w' => e = .returned (.tuple #[.int .u64 r, .bool true]) ∧ Below w.heap.size w w' := by
  unfold I5 at *
  have HT := Lib.hid hT; clear hT; have K1 := Lib.hid k1; have K2 := Lib.hid k2; have K3 := Lib.hid k3; have K4 := Lib.hid k4; have K5 := Lib.hid k5; clear k1 k2 k3 k4 k5
  go_enter Tryz.func80, Tryz.ntmps80
  go_wp2_with fail
  refine (K1.out _ (tb_on HT.out (by repeat (first | (with_reducible exact Below.refl _ _) | (with_reducible refine bal ?_ _) | (with_reducible refine Below.drew ?_) | (with_reducible refine bdn ?_ _))))).mono ?_
  rintro e w1 ⟨rfl, hb⟩
  have BW1 : Below w.heap.size w w1 := btr (by repeat (first | (with_reducible exact Below.refl _ _) | (with_reducible refine bal ?_ _) | (with_reducible refine Below.drew ?_) | (with_reducible refine bdn ?_ _))) hb
  have X1 : Row5 w1 w.heap.size (.bool false) (.int .u64 (lb 0 x)) (.int .u64 (lb 1 x)) (.int .u64 (lb 2 x)) (.int .u64 (lb 3 x)) := Row5.keep hb (by repeat (first | (with_reducible exact Row5.new _ _ _ _ _ _) | ((with_reducible refine Row5.new' _ ?_ _ _ _ _ _); (simp; done)) | (with_reducible refine Row5.alloc ?_ _) | (with_reducible refine Row5.drew ?_)))
  clear hb
  obtain ⟨Xc0, Xc1, Xc2, Xc3, Xc4⟩ := X1.parts
  obtain ⟨Xf0, Xf1, Xf2, Xf3, Xf4⟩ := X1.free
  go_wp2_with fail
  refine (K2.out _ (tb_on HT.out (by repeat (first | (with_reducible exact BW1) | (with_reducible refine bal ?_ _) | (with_reducible refine Below.drew ?_) | (with_reducible refine bdn ?_ _))))).mono ?_
  rintro e w2 ⟨rfl, hb⟩
  have BW2 : Below w.heap.size w w2 := btr (by repeat (first | (with_reducible exact BW1) | (with_reducible refine bal ?_ _) | (with_reducible refine Below.drew ?_) | (with_reducible refine bdn ?_ _))) hb
  have X2 : Row5 w2 w.heap.size (.bool false) (.int .u64 (lb 0 x)) (.int .u64 (lb 1 x)) (.int .u64 (lb 2 x)) (.int .u64 (lb 3 x)) := Row5.keep hb (by repeat (first | (with_reducible exact X1) | (with_reducible refine Row5.alloc ?_ _) | (with_reducible refine Row5.drew ?_)))
  clear X1
  clear BW1
  clear hb
  obtain ⟨Xc0, Xc1, Xc2, Xc3, Xc4⟩ := X2.parts
  obtain ⟨Xf0, Xf1, Xf2, Xf3, Xf4⟩ := X2.free
  go_wp2_with fail
  refine (K3.out _).mono ?_
  rintro e w3 ⟨rfl, hb⟩
  have BW3 : Below w.heap.size w w3 := btr (by repeat (first | (with_reducible exact BW2) | (with_reducible refine bal ?_ _) | (with_reducible refine Below.drew ?_) | (with_reducible refine bdn ?_ _))) hb
  have X3 : Row5 w3 w.heap.size (.bool false) (.int .u64 (lb 0 x)) (.int .u64 (lb 1 x)) (.int .u64 (lb 2 x)) (.int .u64 (lb 3 x)) := Row5.keep hb (by repeat (first | (with_reducible exact X2) | (with_reducible refine Row5.alloc ?_ _) | (with_reducible refine Row5.drew ?_)))
  clear X2
  clear BW2
  clear hb
  go_wp2_with fail
  refine (K4.out _).mono ?_
  rintro e w4 ⟨rfl, hb⟩
  have BW4 : Below w.heap.size w w4 := btr (by repeat (first | (with_reducible exact BW3) | (with_reducible refine bal ?_ _) | (with_reducible refine Below.drew ?_) | (with_reducible refine bdn ?_ _))) hb
  have X4 : Row5 w4 w.heap.size (.bool false) (.int .u64 (lb 0 x)) (.int .u64 (lb 1 x)) (.int .u64 (lb 2 x)) (.int .u64 (lb 3 x)) := Row5.keep hb (by repeat (first | (with_reducible exact X3) | (with_reducible refine Row5.alloc ?_ _) | (with_reducible refine Row5.drew ?_)))
  clear X3
  clear BW3
  clear hb
  obtain ⟨Xc0, Xc1, Xc2, Xc3, Xc4⟩ := X4.parts
  obtain ⟨Xf0, Xf1, Xf2, Xf3, Xf4⟩ := X4.free
  go_wp2_with fail
  refine (K5.out _).mono ?_
  rintro e w5 ⟨rfl, hb⟩
  have BW5 : Below w.heap.size w w5 := btr (by repeat (first | (with_reducible exact BW4) | (with_reducible refine bal ?_ _) | (with_reducible refine Below.drew ?_) | (with_reducible refine bdn ?_ _))) hb
  have X5 : Row5 w5 w.heap.size (.bool false) (.int .u64 (lb 0 x)) (.int .u64 (lb 1 x)) (.int .u64 (lb 2 x)) (.int .u64 (lb 3 x)) := Row5.keep hb (by repeat (first | (with_reducible exact X4) | (with_reducible refine Row5.alloc ?_ _) | (with_reducible refine Row5.drew ?_)))
  clear X4
  clear BW4
  clear hb
  go_wp2
  exact bodyPost_ret (v := .tuple #[.int .u64 r, .bool true]) (by simp [results, Tryz.results80, go_sem]) rfl ⟨rfl, BW5⟩
set_option maxHeartbeats 1000000 in
set_option maxRecDepth 100000 in
theorem ofwhole_neg (x y : Nat) (t d r z : Int) (hz : bits .or .u64 9223372036854775808 r = z) (w : World) (hT : Tb w)
    (k1 : ∀ W, Tb W → Calls Tryz.prog 155 #[I5 true x] W fun e w' => e = .returned (.bool true) ∧ Below W.heap.size W w')
    (k2 : ∀ W, Tb W → Calls Tryz.prog 156 #[N4 x] W fun e w' => e = .returned (.int .i64 t) ∧ Below W.heap.size W w')
    (k3 : ∀ W, Calls Tryz.prog 158 #[N4 x, .int .i64 t] W fun e w' => e = .returned (N4 y) ∧ Below W.heap.size W w')
    (k4 : ∀ W, Calls Tryz.prog 157 #[N4 y] W fun e w' => e = .returned (.tuple #[.int .u64 d, .bool true]) ∧ Below W.heap.size W w')
    (k5 : ∀ W, Calls Tryz.prog 159 #[.int .u64 d, .int .i64 t] W fun e w' => e = .returned (.int .u64 r) ∧ Below W.heap.size W w') :
    Calls Tryz.prog 80 #[I5 true x] w fun e w' => e = .returned (.tuple #[.int .u64 z, .bool true]) ∧ Below w.heap.size w w' := by
  unfold I5 at *
  have HT := Lib.hid hT; clear hT; have K1 := Lib.hid k1; have K2 := Lib.hid k2; have K3 := Lib.hid k3; have K4 := Lib.hid k4; have K5 := Lib.hid k5; clear k1 k2 k3 k4 k5
  go_enter Tryz.func80, Tryz.ntmps80
  go_wp2_with fail
  refine (K1.out _ (tb_on HT.out (by repeat (first | (with_reducible exact Below.refl _ _) | (with_reducible refine bal ?_ _) | (with_reducible refine Below.drew ?_) | (with_reducible refine bdn ?_ _))))).mono ?_
  rintro e w1 ⟨rfl, hb⟩
  have BW1 : Below w.heap.size w w1 := btr (by repeat (first | (with_reducible exact Below.refl _ _) | (with_reducible refine bal ?_ _) | (with_reducible refine Below.drew ?_) | (with_reducible refine bdn ?_ _))) hb
  have X1 : Row5 w1 w.heap.size (.bool true) (.int .u64 (lb 0 x)) (.int .u64 (lb 1 x)) (.int .u64 (lb 2 x)) (.int .u64 (lb 3 x)) := Row5.keep hb (by repeat (first | (with_reducible exact Row5.new _ _ _ _ _ _) | ((with_reducible refine Row5.new' _ ?_ _ _ _ _ _); (simp; done)) | (with_reducible refine Row5.alloc ?_ _) | (with_reducible refine Row5.drew ?_)))
  clear hb
  obtain ⟨Xc0, Xc1, Xc2, Xc3, Xc4⟩ := X1.parts
  obtain ⟨Xf0, Xf1, Xf2, Xf3, Xf4⟩ := X1.free
  go_wp2_with fail
  refine (K2.out _ (tb_on HT.out (by repeat (first | (with_reducible exact BW1) | (with_reducible refine bal ?_ _) | (with_reducible refine Below.drew ?_) | (with_reducible refine bdn ?_ _))))).mono ?_
  rintro e w2 ⟨rfl, hb⟩
  have BW2 : Below w.heap.size w w2 := btr (by repeat (first | (with_reducible exact BW1) | (with_reducible refine bal ?_ _) | (with_reducible refine Below.drew ?_) | (with_reducible refine bdn ?_ _))) hb
  have X2 : Row5 w2 w.heap.size (.bool true) (.int .u64 (lb 0 x)) (.int .u64 (lb 1 x)) (.int .u64 (lb 2 x)) (.int .u64 (lb 3 x)) := Row5.keep hb (by repeat (first | (with_reducible exact X1) | (with_reducible refine Row5.alloc ?_ _) | (with_reducible refine Row5.drew ?_)))
  clear X1
  clear BW1
  clear hb
  obtain ⟨Xc0, Xc1, Xc2, Xc3, Xc4⟩ := X2.parts
  obtain ⟨Xf0, Xf1, Xf2, Xf3, Xf4⟩ := X2.free
  go_wp2_with fail
  refine (K3.out _).mono ?_
  rintro e w3 ⟨rfl, hb⟩
  have BW3 : Below w.heap.size w w3 := btr (by repeat (first | (with_reducible exact BW2) | (with_reducible refine bal ?_ _) | (with_reducible refine Below.drew ?_) | (with_reducible refine bdn ?_ _))) hb
  have X3 : Row5 w3 w.heap.size (.bool true) (.int .u64 (lb 0 x)) (.int .u64 (lb 1 x)) (.int .u64 (lb 2 x)) (.int .u64 (lb 3 x)) := Row5.keep hb (by repeat (first | (with_reducible exact X2) | (with_reducible refine Row5.alloc ?_ _) | (with_reducible refine Row5.drew ?_)))
  clear X2
  clear BW2
  clear hb
  go_wp2_with fail
  refine (K4.out _).mono ?_
  rintro e w4 ⟨rfl, hb⟩
  have BW4 : Below w.heap.size w w4 := btr (by repeat (first | (with_reducible exact BW3) | (with_reducible refine bal ?_ _) | (with_reducible refine Below.drew ?_) | (with_reducible refine bdn ?_ _))) hb
  have X4 : Row5 w4 w.heap.size (.bool true) (.int .u64 (lb 0 x)) (.int .u64 (lb 1 x)) (.int .u64 (lb 2 x)) (.int .u64 (lb 3 x)) := Row5.keep hb (by repeat (first | (with_reducible exact X3) | (with_reducible refine Row5.alloc ?_ _) | (with_reducible refine Row5.drew ?_)))
  clear X3
  clear BW3
  clear hb
  obtain ⟨Xc0, Xc1, Xc2, Xc3, Xc4⟩ := X4.parts
  obtain ⟨Xf0, Xf1, Xf2, Xf3, Xf4⟩ := X4.free
  go_wp2_with fail
  refine (K5.out _).mono ?_
  rintro e w5 ⟨rfl, hb⟩
  have BW5 : Below w.heap.size w w5 := btr (by repeat (first | (with_reducible exact BW4) | (with_reducible refine bal ?_ _) | (with_reducible refine Below.drew ?_) | (with_reducible refine bdn ?_ _))) hb
  have X5 : Row5 w5 w.heap.size (.bool true) (.int .u64 (lb 0 x)) (.int .u64 (lb 1 x)) (.int .u64 (lb 2 x)) (.int .u64 (lb 3 x)) := Row5.keep hb (by repeat (first | (with_reducible exact X4) | (with_reducible refine Row5.alloc ?_ _) | (with_reducible refine Row5.drew ?_)))
  clear X4
  clear BW4
  clear hb
  go_wp2
  exact bodyPost_ret (v := .tuple #[.int .u64 z, .bool true]) (by simp [results, Tryz.results80, go_sem]) rfl ⟨rfl, BW5⟩
set_option maxHeartbeats 1000000 in
set_option maxRecDepth 100000 in
theorem rexact_zero (g : Bool) (x : Nat) (hx : x < 2 ^ 256) (w : World)
    (k1 : ∀ W, Calls Tryz.prog 168 #[I5 g x] W fun e w' => e = .returned (.bool true) ∧ Below W.heap.size W w')
    (k2 : ∀ s' W, DR W s' x → Calls Tryz.prog 39 #[s'] W fun e w' => e = .returned (.int .i64 0) ∧ Below W.heap.size W w') :
    Calls Tryz.prog 191 #[I5 g x] w fun e w' => e = .returned (.bool true) ∧ Below w.heap.size w w' := by
  unfold I5 at *
  have HX := Lib.hid hx; have K1 := Lib.hid k1; have K2 := Lib.hid k2; clear hx k1 k2
  go_enter Tryz.func191, Tryz.ntmps191
  go_wp2_with fail
  refine (rof x HX.out _).mono ?_
  rintro e w1 ⟨s1, rfl, hr, hb⟩
  have hbX : Below w.heap.size w w1 := btr (by repeat (first | (with_reducible exact Below.refl _ _) | (with_reducible refine bal ?_ _) | (with_reducible refine Below.drew ?_) | (with_reducible refine bdn ?_ _))) hb
  clear hbX
  have DX1 : DR w1 s1 x := hr
  clear hr
  have BW1 : Below w.heap.size w w1 := btr (by repeat (first | (with_reducible exact Below.refl _ _) | (with_reducible refine bal ?_ _) | (with_reducible refine Below.drew ?_) | (with_reducible refine bdn ?_ _))) hb
  have X1 : Row5 w1 w.heap.size (.bool g) (.int .u64 (lb 0 x)) (.int .u64 (lb 1 x)) (.int .u64 (lb 2 x)) (.int .u64 (lb 3 x)) := Row5.keep hb (by repeat (first | (with_reducible exact Row5.new _ _ _ _ _ _) | ((with_reducible refine Row5.new' _ ?_ _ _ _ _ _); (simp; done)) | (with_reducible refine Row5.alloc ?_ _) | (with_reducible refine Row5.drew ?_)))
  clear hb
  obtain ⟨Xc0, Xc1, Xc2, Xc3, Xc4⟩ := X1.parts
  obtain ⟨Xf0, Xf1, Xf2, Xf3, Xf4⟩ := X1.free
  go_wp2_with fail
  refine (K1.out _).mono ?_
  rintro e w2 ⟨rfl, hb⟩
  have hbX : Below w1.heap.size w1 w2 := btr (by repeat (first | (with_reducible exact Below.refl _ _) | (with_reducible refine bal ?_ _) | (with_reducible refine Below.drew ?_) | (with_reducible refine bdn ?_ _))) hb
  have DX2 : DR w2 s1 x := DR.keep hbX DX1
  clear DX1
  clear hbX
  have BW2 : Below w.heap.size w w2 := btr (by repeat (first | (with_reducible exact BW1) | (with_reducible refine bal ?_ _) | (with_reducible refine Below.drew ?_) | (with_reducible refine bdn ?_ _))) hb
  have X2 : Row5 w2 w.heap.size (.bool g) (.int .u64 (lb 0 x)) (.int .u64 (lb 1 x)) (.int .u64 (lb 2 x)) (.int .u64 (lb 3 x)) := Row5.keep hb (by repeat (first | (with_reducible exact X1) | (with_reducible refine Row5.alloc ?_ _) | (with_reducible refine Row5.drew ?_)))
  clear X1
  clear BW1
  clear hb
  go_wp2_with fail
  refine (K2.out _ _ (DR.keep (by repeat (first | (with_reducible exact Below.refl _ _) | (with_reducible refine bal ?_ _) | (with_reducible refine Below.drew ?_) | (with_reducible refine bdn ?_ _))) DX2)).mono ?_
  rintro e w3 ⟨rfl, hb⟩
  have hbX : Below w2.heap.size w2 w3 := btr (by repeat (first | (with_reducible exact Below.refl _ _) | (with_reducible refine bal ?_ _) | (with_reducible refine Below.drew ?_) | (with_reducible refine bdn ?_ _))) hb
  have DX3 : DR w3 s1 x := DR.keep hbX DX2
  clear DX2
  clear hbX
  have BW3 : Below w.heap.size w w3 := btr (by repeat (first | (with_reducible exact BW2) | (with_reducible refine bal ?_ _) | (with_reducible refine Below.drew ?_) | (with_reducible refine bdn ?_ _))) hb
  have X3 : Row5 w3 w.heap.size (.bool g) (.int .u64 (lb 0 x)) (.int .u64 (lb 1 x)) (.int .u64 (lb 2 x)) (.int .u64 (lb 3 x)) := Row5.keep hb (by repeat (first | (with_reducible exact X2) | (with_reducible refine Row5.alloc ?_ _) | (with_reducible refine Row5.drew ?_)))
  clear X2
  clear BW2
  clear hb
  go_wp2
  go_ret
  exact ⟨rfl, BW3⟩
set_option maxHeartbeats 1000000 in
set_option maxRecDepth 100000 in
theorem rexact_some (g : Bool) (x : Nat) (hx : x < 2 ^ 256) (L t : Nat) (hL : ((L : Int) == 0) = false) (hL2 : L ≤ 2000) (ht : t ≤ 2000) (hq : (L : Int) - t ≤ 53) (w : World)
    (k1 : ∀ W, Calls Tryz.prog 168 #[I5 g x] W fun e w' => e = .returned (.bool true) ∧ Below W.heap.size W w')
    (k2 : ∀ s' W, DR W s' x → Calls Tryz.prog 39 #[s'] W fun e w' => e = .returned (.int .i64 (L : Int)) ∧ Below W.heap.size W w')
    (k3 : ∀ s' W, DR W s' x → Calls Tryz.prog 88 #[s'] W fun e w' => e = .returned (.int .i64 (t : Int)) ∧ Below W.heap.size W w') :
    Calls Tryz.prog 191 #[I5 g x] w fun e w' => e = .returned (.bool true) ∧ Below w.heap.size w w' := by
  unfold I5 at *
  have HX := Lib.hid hx; have K1 := Lib.hid k1; have K2 := Lib.hid k2; have K3 := Lib.hid k3; clear hx k1 k2 k3
  go_enter Tryz.func191, Tryz.ntmps191
  go_wp2_with fail
  refine (rof x HX.out _).mono ?_
  rintro e w1 ⟨s1, rfl, hr, hb⟩
  have hbX : Below w.heap.size w w1 := btr (by repeat (first | (with_reducible exact Below.refl _ _) | (with_reducible refine bal ?_ _) | (with_reducible refine Below.drew ?_) | (with_reducible refine bdn ?_ _))) hb
  clear hbX
  have DX1 : DR w1 s1 x := hr
  clear hr
  have BW1 : Below w.heap.size w w1 := btr (by repeat (first | (with_reducible exact Below.refl _ _) | (with_reducible refine bal ?_ _) | (with_reducible refine Below.drew ?_) | (with_reducible refine bdn ?_ _))) hb
  have X1 : Row5 w1 w.heap.size (.bool g) (.int .u64 (lb 0 x)) (.int .u64 (lb 1 x)) (.int .u64 (lb 2 x)) (.int .u64 (lb 3 x)) := Row5.keep hb (by repeat (first | (with_reducible exact Row5.new _ _ _ _ _ _) | ((with_reducible refine Row5.new' _ ?_ _ _ _ _ _); (simp; done)) | (with_reducible refine Row5.alloc ?_ _) | (with_reducible refine Row5.drew ?_)))
  clear hb
  obtain ⟨Xc0, Xc1, Xc2, Xc3, Xc4⟩ := X1.parts
  obtain ⟨Xf0, Xf1, Xf2, Xf3, Xf4⟩ := X1.free
  go_wp2_with fail
  refine (K1.out _).mono ?_
  rintro e w2 ⟨rfl, hb⟩
  have hbX : Below w1.heap.size w1 w2 := btr (by repeat (first | (with_reducible exact Below.refl _ _) | (with_reducible refine bal ?_ _) | (with_reducible refine Below.drew ?_) | (with_reducible refine bdn ?_ _))) hb
  have DX2 : DR w2 s1 x := DR.keep hbX DX1
  clear DX1
  clear hbX
  have BW2 : Below w.heap.size w w2 := btr (by repeat (first | (with_reducible exact BW1) | (with_reducible refine bal ?_ _) | (with_reducible refine Below.drew ?_) | (with_reducible refine bdn ?_ _))) hb
  have X2 : Row5 w2 w.heap.size (.bool g) (.int .u64 (lb 0 x)) (.int .u64 (lb 1 x)) (.int .u64 (lb 2 x)) (.int .u64 (lb 3 x)) := Row5.keep hb (by repeat (first | (with_reducible exact X1) | (with_reducible refine Row5.alloc ?_ _) | (with_reducible refine Row5.drew ?_)))
  clear X1
  clear BW1
  clear hb
  go_wp2_with fail
  refine (K2.out _ _ (DR.keep (by repeat (first | (with_reducible exact Below.refl _ _) | (with_reducible refine bal ?_ _) | (with_reducible refine Below.drew ?_) | (with_reducible refine bdn ?_ _))) DX2)).mono ?_
  rintro e w3 ⟨rfl, hb⟩
  have hbX : Below w2.heap.size w2 w3 := btr (by repeat (first | (with_reducible exact Below.refl _ _) | (with_reducible refine bal ?_ _) | (with_reducible refine Below.drew ?_) | (with_reducible refine bdn ?_ _))) hb
  have DX3 : DR w3 s1 x := DR.keep hbX DX2
  clear DX2
  clear hbX
  have BW3 : Below w.heap.size w w3 := btr (by repeat (first | (with_reducible exact BW2) | (with_reducible refine bal ?_ _) | (with_reducible refine Below.drew ?_) | (with_reducible refine bdn ?_ _))) hb
  have X3 : Row5 w3 w.heap.size (.bool g) (.int .u64 (lb 0 x)) (.int .u64 (lb 1 x)) (.int .u64 (lb 2 x)) (.int .u64 (lb 3 x)) := Row5.keep hb (by repeat (first | (with_reducible exact X2) | (with_reducible refine Row5.alloc ?_ _) | (with_reducible refine Row5.drew ?_)))
  clear X2
  clear BW2
  clear hb
  go_wp2_with fail
  refine (K2.out _ _ (DR.keep (by repeat (first | (with_reducible exact Below.refl _ _) | (with_reducible refine bal ?_ _) | (with_reducible refine Below.drew ?_) | (with_reducible refine bdn ?_ _))) DX3)).mono ?_
  rintro e w4 ⟨rfl, hb⟩
  have hbX : Below w3.heap.size w3 w4 := btr (by repeat (first | (with_reducible exact Below.refl _ _) | (with_reducible refine bal ?_ _) | (with_reducible refine Below.drew ?_) | (with_reducible refine bdn ?_ _))) hb
  have DX4 : DR w4 s1 x := DR.keep hbX DX3
  clear DX3
  clear hbX
  have BW4 : Below w.heap.size w w4 := btr (by repeat (first | (with_reducible exact BW3) | (with_reducible refine bal ?_ _) | (with_reducible refine Below.drew ?_) | (with_reducible refine bdn ?_ _))) hb
  have X4 : Row5 w4 w.heap.size (.bool g) (.int .u64 (lb 0 x)) (.int .u64 (lb 1 x)) (.int .u64 (lb 2 x)) (.int .u64 (lb 3 x)) := Row5.keep hb (by repeat (first | (with_reducible exact X3) | (with_reducible refine Row5.alloc ?_ _) | (with_reducible refine Row5.drew ?_)))
  clear X3
  clear BW3
  clear hb
  go_wp2_with fail
  refine (K3.out _ _ (DR.keep (by repeat (first | (with_reducible exact Below.refl _ _) | (with_reducible refine bal ?_ _) | (with_reducible refine Below.drew ?_) | (with_reducible refine bdn ?_ _))) DX4)).mono ?_
  rintro e w5 ⟨rfl, hb⟩
  have hbX : Below w4.heap.size w4 w5 := btr (by repeat (first | (with_reducible exact Below.refl _ _) | (with_reducible refine bal ?_ _) | (with_reducible refine Below.drew ?_) | (with_reducible refine bdn ?_ _))) hb
  have DX5 : DR w5 s1 x := DR.keep hbX DX4
  clear DX4
  clear hbX
  have BW5 : Below w.heap.size w w5 := btr (by repeat (first | (with_reducible exact BW4) | (with_reducible refine bal ?_ _) | (with_reducible refine Below.drew ?_) | (with_reducible refine bdn ?_ _))) hb
  have X5 : Row5 w5 w.heap.size (.bool g) (.int .u64 (lb 0 x)) (.int .u64 (lb 1 x)) (.int .u64 (lb 2 x)) (.int .u64 (lb 3 x)) := Row5.keep hb (by repeat (first | (with_reducible exact X4) | (with_reducible refine Row5.alloc ?_ _) | (with_reducible refine Row5.drew ?_)))
  clear X4
  clear BW4
  clear hb
  go_wp2
  go_ret
  exact ⟨rfl, BW5⟩
end Go.Proofs.YtjdogiehcgfmjaaGreatDoor
