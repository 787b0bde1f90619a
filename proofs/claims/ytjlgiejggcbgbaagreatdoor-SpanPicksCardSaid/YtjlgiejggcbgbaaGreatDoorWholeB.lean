/-
  whole.Cmp: the contract, for all whole numbers of a sign and four words.
-/
import Derived.Test.YtjlgiejggcbgbaaGreatDoorWholeA
namespace Go.Proofs.YtjlgiejggcbgbaaGreatDoor
open Go.RowKit Go.Shelf
attribute [local go_sem ↓] eql_nat neq_nat eql_int5 neq_int5

set_option maxRecDepth 100000 in
theorem cmp_bad1 (x0 x1 x2 x3 y0 y1 y2 y3 : Int) (g h : Bool)
    (m1 : ∀ W, Calls Tryz.prog 26 #[.agg #[.bool g, .int .u64 x0, .int .u64 x1, .int .u64 x2, .int .u64 x3]] W fun e w' => e = .returned (.bool false) ∧ Below W.heap.size W w') (w : World) :
    Calls Tryz.prog 43 #[.agg #[.bool g, .int .u64 x0, .int .u64 x1, .int .u64 x2, .int .u64 x3], .agg #[.bool h, .int .u64 y0, .int .u64 y1, .int .u64 y2, .int .u64 y3]] w fun e w' => e = .returned (.int .i64 0) ∧ Below w.heap.size w w' := by
  have M1 := Lib.hid m1; clear m1
  go_enter Tryz.func43, Tryz.ntmps43
  go_wp2_with fail
  (with_reducible refine (M1.out _).mono ?_)
  rintro e w1 ⟨rfl, hb⟩
  have BW1 : Below w.heap.size w w1 := btr (by repeat (first | (with_reducible exact Below.refl _ _) | (with_reducible refine bal ?_ _) | (with_reducible refine Below.drew ?_) | (with_reducible refine bdn ?_ _))) hb
  have X1 : Row5 w1 w.heap.size (.bool g) (.int .u64 x0) (.int .u64 x1) (.int .u64 x2) (.int .u64 x3) := Row5.keep hb (by repeat (first | (with_reducible exact Row5.new _ _ _ _ _ _) | ((with_reducible refine Row5.new' _ ?_ _ _ _ _ _); (simp; done)) | (with_reducible refine Row5.alloc ?_ _) | (with_reducible refine Row5.drew ?_)))
  have Y1 : Row5 w1 (w.heap.size + 1) (.bool h) (.int .u64 y0) (.int .u64 y1) (.int .u64 y2) (.int .u64 y3) := Row5.keep hb (by repeat (first | (with_reducible exact Row5.new _ _ _ _ _ _) | ((with_reducible refine Row5.new' _ ?_ _ _ _ _ _); (simp; done)) | (with_reducible refine Row5.alloc ?_ _) | (with_reducible refine Row5.drew ?_)))
  clear hb
  obtain ⟨Xc0, Xc1, Xc2, Xc3, Xc4⟩ := X1.parts
  obtain ⟨Xf0, Xf1, Xf2, Xf3, Xf4⟩ := X1.free
  obtain ⟨Yc0, Yc1, Yc2, Yc3, Yc4⟩ := Y1.parts
  obtain ⟨Yf0, Yf1, Yf2, Yf3, Yf4⟩ := Y1.free
  go_wp2
  go_ret
  exact ⟨rfl, BW1⟩

set_option maxRecDepth 100000 in
theorem cmp_bad2 (x0 x1 x2 x3 y0 y1 y2 y3 : Int) (g h : Bool)
    (m1 : ∀ W, Calls Tryz.prog 26 #[.agg #[.bool g, .int .u64 x0, .int .u64 x1, .int .u64 x2, .int .u64 x3]] W fun e w' => e = .returned (.bool true) ∧ Below W.heap.size W w')
    (m2 : ∀ W, Calls Tryz.prog 26 #[.agg #[.bool h, .int .u64 y0, .int .u64 y1, .int .u64 y2, .int .u64 y3]] W fun e w' => e = .returned (.bool false) ∧ Below W.heap.size W w') (w : World) :
    Calls Tryz.prog 43 #[.agg #[.bool g, .int .u64 x0, .int .u64 x1, .int .u64 x2, .int .u64 x3], .agg #[.bool h, .int .u64 y0, .int .u64 y1, .int .u64 y2, .int .u64 y3]] w fun e w' => e = .returned (.int .i64 0) ∧ Below w.heap.size w w' := by
  have M1 := Lib.hid m1; clear m1
  have M2 := Lib.hid m2; clear m2
  go_enter Tryz.func43, Tryz.ntmps43
  go_wp2_with fail
  (with_reducible refine (M1.out _).mono ?_)
  rintro e w1 ⟨rfl, hb⟩
  have BW1 : Below w.heap.size w w1 := btr (by repeat (first | (with_reducible exact Below.refl _ _) | (with_reducible refine bal ?_ _) | (with_reducible refine Below.drew ?_) | (with_reducible refine bdn ?_ _))) hb
  have X1 : Row5 w1 w.heap.size (.bool g) (.int .u64 x0) (.int .u64 x1) (.int .u64 x2) (.int .u64 x3) := Row5.keep hb (by repeat (first | (with_reducible exact Row5.new _ _ _ _ _ _) | ((with_reducible refine Row5.new' _ ?_ _ _ _ _ _); (simp; done)) | (with_reducible refine Row5.alloc ?_ _) | (with_reducible refine Row5.drew ?_)))
  have Y1 : Row5 w1 (w.heap.size + 1) (.bool h) (.int .u64 y0) (.int .u64 y1) (.int .u64 y2) (.int .u64 y3) := Row5.keep hb (by repeat (first | (with_reducible exact Row5.new _ _ _ _ _ _) | ((with_reducible refine Row5.new' _ ?_ _ _ _ _ _); (simp; done)) | (with_reducible refine Row5.alloc ?_ _) | (with_reducible refine Row5.drew ?_)))
  clear hb
  obtain ⟨Xc0, Xc1, Xc2, Xc3, Xc4⟩ := X1.parts
  obtain ⟨Xf0, Xf1, Xf2, Xf3, Xf4⟩ := X1.free
  obtain ⟨Yc0, Yc1, Yc2, Yc3, Yc4⟩ := Y1.parts
  obtain ⟨Yf0, Yf1, Yf2, Yf3, Yf4⟩ := Y1.free
  go_wp2_with fail
  (with_reducible refine (M2.out _).mono ?_)
  rintro e w2 ⟨rfl, hb⟩
  have BW2 : Below w.heap.size w w2 := btr (by repeat (first | (with_reducible exact BW1) | (with_reducible refine bal ?_ _) | (with_reducible refine Below.drew ?_) | (with_reducible refine bdn ?_ _))) hb
  have X2 : Row5 w2 w.heap.size (.bool g) (.int .u64 x0) (.int .u64 x1) (.int .u64 x2) (.int .u64 x3) := Row5.keep hb (by repeat (first | (with_reducible exact X1) | (with_reducible refine Row5.alloc ?_ _) | (with_reducible refine Row5.drew ?_)))
  have Y2 : Row5 w2 (w.heap.size + 1) (.bool h) (.int .u64 y0) (.int .u64 y1) (.int .u64 y2) (.int .u64 y3) := Row5.keep hb (by repeat (first | (with_reducible exact Y1) | (with_reducible refine Row5.alloc ?_ _) | (with_reducible refine Row5.drew ?_)))
  clear X1 Y1
  clear BW1
  clear hb
  obtain ⟨Xc0, Xc1, Xc2, Xc3, Xc4⟩ := X2.parts
  obtain ⟨Xf0, Xf1, Xf2, Xf3, Xf4⟩ := X2.free
  obtain ⟨Yc0, Yc1, Yc2, Yc3, Yc4⟩ := Y2.parts
  obtain ⟨Yf0, Yf1, Yf2, Yf3, Yf4⟩ := Y2.free
  go_wp2
  go_ret
  exact ⟨rfl, BW2⟩

set_option maxRecDepth 100000 in
theorem cmp_nn (x0 x1 x2 x3 y0 y1 y2 y3 : Int) (c : Int)
    (m1 : ∀ W, Calls Tryz.prog 26 #[.agg #[.bool true, .int .u64 x0, .int .u64 x1, .int .u64 x2, .int .u64 x3]] W fun e w' => e = .returned (.bool true) ∧ Below W.heap.size W w')
    (m2 : ∀ W, Calls Tryz.prog 26 #[.agg #[.bool true, .int .u64 y0, .int .u64 y1, .int .u64 y2, .int .u64 y3]] W fun e w' => e = .returned (.bool true) ∧ Below W.heap.size W w')
    (k1 : ∀ W, Calls Tryz.prog 72 #[.agg #[.int .u64 y0, .int .u64 y1, .int .u64 y2, .int .u64 y3], .agg #[.int .u64 x0, .int .u64 x1, .int .u64 x2, .int .u64 x3]] W fun e w' => e = .returned (.int .i64 c) ∧ Below W.heap.size W w') (w : World) :
    Calls Tryz.prog 43 #[.agg #[.bool true, .int .u64 x0, .int .u64 x1, .int .u64 x2, .int .u64 x3], .agg #[.bool true, .int .u64 y0, .int .u64 y1, .int .u64 y2, .int .u64 y3]] w fun e w' => e = .returned (.int .i64 c) ∧ Below w.heap.size w w' := by
  have M1 := Lib.hid m1; clear m1
  have M2 := Lib.hid m2; clear m2
  have K1 := Lib.hid k1; clear k1
  go_enter Tryz.func43, Tryz.ntmps43
  go_wp2_with fail
  (with_reducible refine (M1.out _).mono ?_)
  rintro e w1 ⟨rfl, hb⟩
  have BW1 : Below w.heap.size w w1 := btr (by repeat (first | (with_reducible exact Below.refl _ _) | (with_reducible refine bal ?_ _) | (with_reducible refine Below.drew ?_) | (with_reducible refine bdn ?_ _))) hb
  have X1 : Row5 w1 w.heap.size (.bool true) (.int .u64 x0) (.int .u64 x1) (.int .u64 x2) (.int .u64 x3) := Row5.keep hb (by repeat (first | (with_reducible exact Row5.new _ _ _ _ _ _) | ((with_reducible refine Row5.new' _ ?_ _ _ _ _ _); (simp; done)) | (with_reducible refine Row5.alloc ?_ _) | (with_reducible refine Row5.drew ?_)))
  have Y1 : Row5 w1 (w.heap.size + 1) (.bool true) (.int .u64 y0) (.int .u64 y1) (.int .u64 y2) (.int .u64 y3) := Row5.keep hb (by repeat (first | (with_reducible exact Row5.new _ _ _ _ _ _) | ((with_reducible refine Row5.new' _ ?_ _ _ _ _ _); (simp; done)) | (with_reducible refine Row5.alloc ?_ _) | (with_reducible refine Row5.drew ?_)))
  clear hb
  obtain ⟨Xc0, Xc1, Xc2, Xc3, Xc4⟩ := X1.parts
  obtain ⟨Xf0, Xf1, Xf2, Xf3, Xf4⟩ := X1.free
  obtain ⟨Yc0, Yc1, Yc2, Yc3, Yc4⟩ := Y1.parts
  obtain ⟨Yf0, Yf1, Yf2, Yf3, Yf4⟩ := Y1.free
  go_wp2_with fail
  (with_reducible refine (M2.out _).mono ?_)
  rintro e w2 ⟨rfl, hb⟩
  have BW2 : Below w.heap.size w w2 := btr (by repeat (first | (with_reducible exact BW1) | (with_reducible refine bal ?_ _) | (with_reducible refine Below.drew ?_) | (with_reducible refine bdn ?_ _))) hb
  have X2 : Row5 w2 w.heap.size (.bool true) (.int .u64 x0) (.int .u64 x1) (.int .u64 x2) (.int .u64 x3) := Row5.keep hb (by repeat (first | (with_reducible exact X1) | (with_reducible refine Row5.alloc ?_ _) | (with_reducible refine Row5.drew ?_)))
  have Y2 : Row5 w2 (w.heap.size + 1) (.bool true) (.int .u64 y0) (.int .u64 y1) (.int .u64 y2) (.int .u64 y3) := Row5.keep hb (by repeat (first | (with_reducible exact Y1) | (with_reducible refine Row5.alloc ?_ _) | (with_reducible refine Row5.drew ?_)))
  clear X1 Y1
  clear BW1
  clear hb
  obtain ⟨Xc0, Xc1, Xc2, Xc3, Xc4⟩ := X2.parts
  obtain ⟨Xf0, Xf1, Xf2, Xf3, Xf4⟩ := X2.free
  obtain ⟨Yc0, Yc1, Yc2, Yc3, Yc4⟩ := Y2.parts
  obtain ⟨Yf0, Yf1, Yf2, Yf3, Yf4⟩ := Y2.free
  go_wp2_with fail
  (with_reducible refine (K1.out _).mono ?_)
  rintro e w3 ⟨rfl, hb⟩
  have BW3 : Below w.heap.size w w3 := btr (by repeat (first | (with_reducible exact BW2) | (with_reducible refine bal ?_ _) | (with_reducible refine Below.drew ?_) | (with_reducible refine bdn ?_ _))) hb
  have X3 : Row5 w3 w.heap.size (.bool true) (.int .u64 x0) (.int .u64 x1) (.int .u64 x2) (.int .u64 x3) := Row5.keep hb (by repeat (first | (with_reducible exact X2) | (with_reducible refine Row5.alloc ?_ _) | (with_reducible refine Row5.drew ?_)))
  have Y3 : Row5 w3 (w.heap.size + 1) (.bool true) (.int .u64 y0) (.int .u64 y1) (.int .u64 y2) (.int .u64 y3) := Row5.keep hb (by repeat (first | (with_reducible exact Y2) | (with_reducible refine Row5.alloc ?_ _) | (with_reducible refine Row5.drew ?_)))
  clear X2 Y2
  clear BW2
  clear hb
  obtain ⟨Xc0, Xc1, Xc2, Xc3, Xc4⟩ := X3.parts
  obtain ⟨Xf0, Xf1, Xf2, Xf3, Xf4⟩ := X3.free
  obtain ⟨Yc0, Yc1, Yc2, Yc3, Yc4⟩ := Y3.parts
  obtain ⟨Yf0, Yf1, Yf2, Yf3, Yf4⟩ := Y3.free
  go_wp2
  go_ret
  exact ⟨rfl, BW3⟩

set_option maxRecDepth 100000 in
theorem cmp_np (x0 x1 x2 x3 y0 y1 y2 y3 : Int)
    (m1 : ∀ W, Calls Tryz.prog 26 #[.agg #[.bool true, .int .u64 x0, .int .u64 x1, .int .u64 x2, .int .u64 x3]] W fun e w' => e = .returned (.bool true) ∧ Below W.heap.size W w')
    (m2 : ∀ W, Calls Tryz.prog 26 #[.agg #[.bool false, .int .u64 y0, .int .u64 y1, .int .u64 y2, .int .u64 y3]] W fun e w' => e = .returned (.bool true) ∧ Below W.heap.size W w') (w : World) :
    Calls Tryz.prog 43 #[.agg #[.bool true, .int .u64 x0, .int .u64 x1, .int .u64 x2, .int .u64 x3], .agg #[.bool false, .int .u64 y0, .int .u64 y1, .int .u64 y2, .int .u64 y3]] w fun e w' => e = .returned (.int .i64 (-1)) ∧ Below w.heap.size w w' := by
  have M1 := Lib.hid m1; clear m1
  have M2 := Lib.hid m2; clear m2
  go_enter Tryz.func43, Tryz.ntmps43
  go_wp2_with fail
  (with_reducible refine (M1.out _).mono ?_)
  rintro e w1 ⟨rfl, hb⟩
  have BW1 : Below w.heap.size w w1 := btr (by repeat (first | (with_reducible exact Below.refl _ _) | (with_reducible refine bal ?_ _) | (with_reducible refine Below.drew ?_) | (with_reducible refine bdn ?_ _))) hb
  have X1 : Row5 w1 w.heap.size (.bool true) (.int .u64 x0) (.int .u64 x1) (.int .u64 x2) (.int .u64 x3) := Row5.keep hb (by repeat (first | (with_reducible exact Row5.new _ _ _ _ _ _) | ((with_reducible refine Row5.new' _ ?_ _ _ _ _ _); (simp; done)) | (with_reducible refine Row5.alloc ?_ _) | (with_reducible refine Row5.drew ?_)))
  have Y1 : Row5 w1 (w.heap.size + 1) (.bool false) (.int .u64 y0) (.int .u64 y1) (.int .u64 y2) (.int .u64 y3) := Row5.keep hb (by repeat (first | (with_reducible exact Row5.new _ _ _ _ _ _) | ((with_reducible refine Row5.new' _ ?_ _ _ _ _ _); (simp; done)) | (with_reducible refine Row5.alloc ?_ _) | (with_reducible refine Row5.drew ?_)))
  clear hb
  obtain ⟨Xc0, Xc1, Xc2, Xc3, Xc4⟩ := X1.parts
  obtain ⟨Xf0, Xf1, Xf2, Xf3, Xf4⟩ := X1.free
  obtain ⟨Yc0, Yc1, Yc2, Yc3, Yc4⟩ := Y1.parts
  obtain ⟨Yf0, Yf1, Yf2, Yf3, Yf4⟩ := Y1.free
  go_wp2_with fail
  (with_reducible refine (M2.out _).mono ?_)
  rintro e w2 ⟨rfl, hb⟩
  have BW2 : Below w.heap.size w w2 := btr (by repeat (first | (with_reducible exact BW1) | (with_reducible refine bal ?_ _) | (with_reducible refine Below.drew ?_) | (with_reducible refine bdn ?_ _))) hb
  have X2 : Row5 w2 w.heap.size (.bool true) (.int .u64 x0) (.int .u64 x1) (.int .u64 x2) (.int .u64 x3) := Row5.keep hb (by repeat (first | (with_reducible exact X1) | (with_reducible refine Row5.alloc ?_ _) | (with_reducible refine Row5.drew ?_)))
  have Y2 : Row5 w2 (w.heap.size + 1) (.bool false) (.int .u64 y0) (.int .u64 y1) (.int .u64 y2) (.int .u64 y3) := Row5.keep hb (by repeat (first | (with_reducible exact Y1) | (with_reducible refine Row5.alloc ?_ _) | (with_reducible refine Row5.drew ?_)))
  clear X1 Y1
  clear BW1
  clear hb
  obtain ⟨Xc0, Xc1, Xc2, Xc3, Xc4⟩ := X2.parts
  obtain ⟨Xf0, Xf1, Xf2, Xf3, Xf4⟩ := X2.free
  obtain ⟨Yc0, Yc1, Yc2, Yc3, Yc4⟩ := Y2.parts
  obtain ⟨Yf0, Yf1, Yf2, Yf3, Yf4⟩ := Y2.free
  go_wp2
  go_ret
  exact ⟨rfl, BW2⟩

set_option maxRecDepth 100000 in
theorem cmp_pn (x0 x1 x2 x3 y0 y1 y2 y3 : Int)
    (m1 : ∀ W, Calls Tryz.prog 26 #[.agg #[.bool false, .int .u64 x0, .int .u64 x1, .int .u64 x2, .int .u64 x3]] W fun e w' => e = .returned (.bool true) ∧ Below W.heap.size W w')
    (m2 : ∀ W, Calls Tryz.prog 26 #[.agg #[.bool true, .int .u64 y0, .int .u64 y1, .int .u64 y2, .int .u64 y3]] W fun e w' => e = .returned (.bool true) ∧ Below W.heap.size W w') (w : World) :
    Calls Tryz.prog 43 #[.agg #[.bool false, .int .u64 x0, .int .u64 x1, .int .u64 x2, .int .u64 x3], .agg #[.bool true, .int .u64 y0, .int .u64 y1, .int .u64 y2, .int .u64 y3]] w fun e w' => e = .returned (.int .i64 1) ∧ Below w.heap.size w w' := by
  have M1 := Lib.hid m1; clear m1
  have M2 := Lib.hid m2; clear m2
  go_enter Tryz.func43, Tryz.ntmps43
  go_wp2_with fail
  (with_reducible refine (M1.out _).mono ?_)
  rintro e w1 ⟨rfl, hb⟩
  have BW1 : Below w.heap.size w w1 := btr (by repeat (first | (with_reducible exact Below.refl _ _) | (with_reducible refine bal ?_ _) | (with_reducible refine Below.drew ?_) | (with_reducible refine bdn ?_ _))) hb
  have X1 : Row5 w1 w.heap.size (.bool false) (.int .u64 x0) (.int .u64 x1) (.int .u64 x2) (.int .u64 x3) := Row5.keep hb (by repeat (first | (with_reducible exact Row5.new _ _ _ _ _ _) | ((with_reducible refine Row5.new' _ ?_ _ _ _ _ _); (simp; done)) | (with_reducible refine Row5.alloc ?_ _) | (with_reducible refine Row5.drew ?_)))
  have Y1 : Row5 w1 (w.heap.size + 1) (.bool true) (.int .u64 y0) (.int .u64 y1) (.int .u64 y2) (.int .u64 y3) := Row5.keep hb (by repeat (first | (with_reducible exact Row5.new _ _ _ _ _ _) | ((with_reducible refine Row5.new' _ ?_ _ _ _ _ _); (simp; done)) | (with_reducible refine Row5.alloc ?_ _) | (with_reducible refine Row5.drew ?_)))
  clear hb
  obtain ⟨Xc0, Xc1, Xc2, Xc3, Xc4⟩ := X1.parts
  obtain ⟨Xf0, Xf1, Xf2, Xf3, Xf4⟩ := X1.free
  obtain ⟨Yc0, Yc1, Yc2, Yc3, Yc4⟩ := Y1.parts
  obtain ⟨Yf0, Yf1, Yf2, Yf3, Yf4⟩ := Y1.free
  go_wp2_with fail
  (with_reducible refine (M2.out _).mono ?_)
  rintro e w2 ⟨rfl, hb⟩
  have BW2 : Below w.heap.size w w2 := btr (by repeat (first | (with_reducible exact BW1) | (with_reducible refine bal ?_ _) | (with_reducible refine Below.drew ?_) | (with_reducible refine bdn ?_ _))) hb
  have X2 : Row5 w2 w.heap.size (.bool false) (.int .u64 x0) (.int .u64 x1) (.int .u64 x2) (.int .u64 x3) := Row5.keep hb (by repeat (first | (with_reducible exact X1) | (with_reducible refine Row5.alloc ?_ _) | (with_reducible refine Row5.drew ?_)))
  have Y2 : Row5 w2 (w.heap.size + 1) (.bool true) (.int .u64 y0) (.int .u64 y1) (.int .u64 y2) (.int .u64 y3) := Row5.keep hb (by repeat (first | (with_reducible exact Y1) | (with_reducible refine Row5.alloc ?_ _) | (with_reducible refine Row5.drew ?_)))
  clear X1 Y1
  clear BW1
  clear hb
  obtain ⟨Xc0, Xc1, Xc2, Xc3, Xc4⟩ := X2.parts
  obtain ⟨Xf0, Xf1, Xf2, Xf3, Xf4⟩ := X2.free
  obtain ⟨Yc0, Yc1, Yc2, Yc3, Yc4⟩ := Y2.parts
  obtain ⟨Yf0, Yf1, Yf2, Yf3, Yf4⟩ := Y2.free
  go_wp2
  go_ret
  exact ⟨rfl, BW2⟩

set_option maxRecDepth 100000 in
theorem cmp_pp (x0 x1 x2 x3 y0 y1 y2 y3 : Int) (c : Int)
    (m1 : ∀ W, Calls Tryz.prog 26 #[.agg #[.bool false, .int .u64 x0, .int .u64 x1, .int .u64 x2, .int .u64 x3]] W fun e w' => e = .returned (.bool true) ∧ Below W.heap.size W w')
    (m2 : ∀ W, Calls Tryz.prog 26 #[.agg #[.bool false, .int .u64 y0, .int .u64 y1, .int .u64 y2, .int .u64 y3]] W fun e w' => e = .returned (.bool true) ∧ Below W.heap.size W w')
    (k1 : ∀ W, Calls Tryz.prog 72 #[.agg #[.int .u64 x0, .int .u64 x1, .int .u64 x2, .int .u64 x3], .agg #[.int .u64 y0, .int .u64 y1, .int .u64 y2, .int .u64 y3]] W fun e w' => e = .returned (.int .i64 c) ∧ Below W.heap.size W w') (w : World) :
    Calls Tryz.prog 43 #[.agg #[.bool false, .int .u64 x0, .int .u64 x1, .int .u64 x2, .int .u64 x3], .agg #[.bool false, .int .u64 y0, .int .u64 y1, .int .u64 y2, .int .u64 y3]] w fun e w' => e = .returned (.int .i64 c) ∧ Below w.heap.size w w' := by
  have M1 := Lib.hid m1; clear m1
  have M2 := Lib.hid m2; clear m2
  have K1 := Lib.hid k1; clear k1
  go_enter Tryz.func43, Tryz.ntmps43
  go_wp2_with fail
  (with_reducible refine (M1.out _).mono ?_)
  rintro e w1 ⟨rfl, hb⟩
  have BW1 : Below w.heap.size w w1 := btr (by repeat (first | (with_reducible exact Below.refl _ _) | (with_reducible refine bal ?_ _) | (with_reducible refine Below.drew ?_) | (with_reducible refine bdn ?_ _))) hb
  have X1 : Row5 w1 w.heap.size (.bool false) (.int .u64 x0) (.int .u64 x1) (.int .u64 x2) (.int .u64 x3) := Row5.keep hb (by repeat (first | (with_reducible exact Row5.new _ _ _ _ _ _) | ((with_reducible refine Row5.new' _ ?_ _ _ _ _ _); (simp; done)) | (with_reducible refine Row5.alloc ?_ _) | (with_reducible refine Row5.drew ?_)))
  have Y1 : Row5 w1 (w.heap.size + 1) (.bool false) (.int .u64 y0) (.int .u64 y1) (.int .u64 y2) (.int .u64 y3) := Row5.keep hb (by repeat (first | (with_reducible exact Row5.new _ _ _ _ _ _) | ((with_reducible refine Row5.new' _ ?_ _ _ _ _ _); (simp; done)) | (with_reducible refine Row5.alloc ?_ _) | (with_reducible refine Row5.drew ?_)))
  clear hb
  obtain ⟨Xc0, Xc1, Xc2, Xc3, Xc4⟩ := X1.parts
  obtain ⟨Xf0, Xf1, Xf2, Xf3, Xf4⟩ := X1.free
  obtain ⟨Yc0, Yc1, Yc2, Yc3, Yc4⟩ := Y1.parts
  obtain ⟨Yf0, Yf1, Yf2, Yf3, Yf4⟩ := Y1.free
  go_wp2_with fail
  (with_reducible refine (M2.out _).mono ?_)
  rintro e w2 ⟨rfl, hb⟩
  have BW2 : Below w.heap.size w w2 := btr (by repeat (first | (with_reducible exact BW1) | (with_reducible refine bal ?_ _) | (with_reducible refine Below.drew ?_) | (with_reducible refine bdn ?_ _))) hb
  have X2 : Row5 w2 w.heap.size (.bool false) (.int .u64 x0) (.int .u64 x1) (.int .u64 x2) (.int .u64 x3) := Row5.keep hb (by repeat (first | (with_reducible exact X1) | (with_reducible refine Row5.alloc ?_ _) | (with_reducible refine Row5.drew ?_)))
  have Y2 : Row5 w2 (w.heap.size + 1) (.bool false) (.int .u64 y0) (.int .u64 y1) (.int .u64 y2) (.int .u64 y3) := Row5.keep hb (by repeat (first | (with_reducible exact Y1) | (with_reducible refine Row5.alloc ?_ _) | (with_reducible refine Row5.drew ?_)))
  clear X1 Y1
  clear BW1
  clear hb
  obtain ⟨Xc0, Xc1, Xc2, Xc3, Xc4⟩ := X2.parts
  obtain ⟨Xf0, Xf1, Xf2, Xf3, Xf4⟩ := X2.free
  obtain ⟨Yc0, Yc1, Yc2, Yc3, Yc4⟩ := Y2.parts
  obtain ⟨Yf0, Yf1, Yf2, Yf3, Yf4⟩ := Y2.free
  go_wp2_with fail
  (with_reducible refine (K1.out _).mono ?_)
  rintro e w3 ⟨rfl, hb⟩
  have BW3 : Below w.heap.size w w3 := btr (by repeat (first | (with_reducible exact BW2) | (with_reducible refine bal ?_ _) | (with_reducible refine Below.drew ?_) | (with_reducible refine bdn ?_ _))) hb
  have X3 : Row5 w3 w.heap.size (.bool false) (.int .u64 x0) (.int .u64 x1) (.int .u64 x2) (.int .u64 x3) := Row5.keep hb (by repeat (first | (with_reducible exact X2) | (with_reducible refine Row5.alloc ?_ _) | (with_reducible refine Row5.drew ?_)))
  have Y3 : Row5 w3 (w.heap.size + 1) (.bool false) (.int .u64 y0) (.int .u64 y1) (.int .u64 y2) (.int .u64 y3) := Row5.keep hb (by repeat (first | (with_reducible exact Y2) | (with_reducible refine Row5.alloc ?_ _) | (with_reducible refine Row5.drew ?_)))
  clear X2 Y2
  clear BW2
  clear hb
  obtain ⟨Xc0, Xc1, Xc2, Xc3, Xc4⟩ := X3.parts
  obtain ⟨Xf0, Xf1, Xf2, Xf3, Xf4⟩ := X3.free
  obtain ⟨Yc0, Yc1, Yc2, Yc3, Yc4⟩ := Y3.parts
  obtain ⟨Yf0, Yf1, Yf2, Yf3, Yf4⟩ := Y3.free
  go_wp2
  go_ret
  exact ⟨rfl, BW3⟩

end Go.Proofs.YtjlgiejggcbgbaaGreatDoor
