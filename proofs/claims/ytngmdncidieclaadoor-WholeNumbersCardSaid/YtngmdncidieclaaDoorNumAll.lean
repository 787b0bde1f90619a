/-
  The reference's small, ToInt, ToUint, CmpInt, Step: the contracts, for all whole numbers of a sign and four words. entrepotlaw2.WholeNumbers answers true for all whole numbers of a sign and four words, and all words of 64 bits. The tables math/bits.deBruijn64tab, internal/strconv.uint64pow10 read as their initialisers lay them. The reference's ToInt, ToUint, Step, CmpInt, said of integers below 2^256 in size; entrepotlaw2.WholeNumbers for all.
-/
import Derived.Test.YtngmdncidieclaaDoorRefInt
import Derived.Test.YtngmdncidieclaaDoorRefText
import Derived.Test.YtngmdncidieclaaDoorWholeJ
section
namespace Go.Proofs.YtngmdncidieclaaDoor
open Go.RowKit Go.Shelf
attribute [local go_sem ↓] eql_nat neq_nat eql_int5 neq_int5

set_option maxRecDepth 100000 in
theorem rsmall_yes (x0 x1 x2 x3 : Int) (z1 : (x1 == 0) = true) (z2 : (x2 == 0) = true) (z3 : (x3 == 0) = true) (w : World) :
    Calls Tryd.prog 81 #[.agg #[.int .u64 x0, .int .u64 x1, .int .u64 x2, .int .u64 x3]] w fun e w' => e = .returned (.bool true) ∧ Below w.heap.size w w' := by
  go_enter Tryd.func81, Tryd.ntmps81
  go_wp2
  go_ret
  exact ⟨rfl, by repeat (first | (with_reducible exact Below.refl _ _) | (with_reducible refine bal ?_ _) | (with_reducible refine Below.drew ?_) | (with_reducible refine bdn ?_ _))⟩
set_option maxRecDepth 100000 in
theorem rsmall_no1 (x0 x1 x2 x3 : Int) (z1 : (x1 == 0) = false) (w : World) :
    Calls Tryd.prog 81 #[.agg #[.int .u64 x0, .int .u64 x1, .int .u64 x2, .int .u64 x3]] w fun e w' => e = .returned (.bool false) ∧ Below w.heap.size w w' := by
  go_enter Tryd.func81, Tryd.ntmps81
  go_wp2
  go_ret
  exact ⟨rfl, by repeat (first | (with_reducible exact Below.refl _ _) | (with_reducible refine bal ?_ _) | (with_reducible refine Below.drew ?_) | (with_reducible refine bdn ?_ _))⟩
set_option maxRecDepth 100000 in
theorem rsmall_no2 (x0 x1 x2 x3 : Int) (z1 : (x1 == 0) = true) (z2 : (x2 == 0) = false) (w : World) :
    Calls Tryd.prog 81 #[.agg #[.int .u64 x0, .int .u64 x1, .int .u64 x2, .int .u64 x3]] w fun e w' => e = .returned (.bool false) ∧ Below w.heap.size w w' := by
  go_enter Tryd.func81, Tryd.ntmps81
  go_wp2
  go_ret
  exact ⟨rfl, by repeat (first | (with_reducible exact Below.refl _ _) | (with_reducible refine bal ?_ _) | (with_reducible refine Below.drew ?_) | (with_reducible refine bdn ?_ _))⟩
set_option maxRecDepth 100000 in
theorem rsmall_no3 (x0 x1 x2 x3 : Int) (z1 : (x1 == 0) = true) (z2 : (x2 == 0) = true) (z3 : (x3 == 0) = false) (w : World) :
    Calls Tryd.prog 81 #[.agg #[.int .u64 x0, .int .u64 x1, .int .u64 x2, .int .u64 x3]] w fun e w' => e = .returned (.bool false) ∧ Below w.heap.size w w' := by
  go_enter Tryd.func81, Tryd.ntmps81
  go_wp2
  go_ret
  exact ⟨rfl, by repeat (first | (with_reducible exact Below.refl _ _) | (with_reducible refine bal ?_ _) | (with_reducible refine Below.drew ?_) | (with_reducible refine bdn ?_ _))⟩
set_option maxRecDepth 100000 in
theorem rtoint_bad (x0 x1 x2 x3 : Int) (g : Bool)
    (m1 : ∀ W, Calls Tryd.prog 29 #[.agg #[.bool g, .int .u64 x0, .int .u64 x1, .int .u64 x2, .int .u64 x3]] W fun e w' => e = .returned (.bool false) ∧ Below W.heap.size W w') (w : World) :
    Calls Tryd.prog 35 #[.agg #[.bool g, .int .u64 x0, .int .u64 x1, .int .u64 x2, .int .u64 x3]] w fun e w' => e = .returned (.tuple #[.int .i64 0, .bool false]) ∧ Below w.heap.size w w' := by
  have M1 := Lib.hid m1; clear m1
  go_enter Tryd.func35, Tryd.ntmps35
  go_wp2_with fail
  refine (M1.out _).mono ?_
  rintro e w1 ⟨rfl, hb⟩
  have BW1 : Below w.heap.size w w1 := btr (by repeat (first | (with_reducible exact Below.refl _ _) | (with_reducible refine bal ?_ _) | (with_reducible refine Below.drew ?_) | (with_reducible refine bdn ?_ _))) hb
  have X1 : Row5 w1 w.heap.size (.bool g) (.int .u64 x0) (.int .u64 x1) (.int .u64 x2) (.int .u64 x3) := Row5.keep hb (by repeat (first | (with_reducible exact Row5.new _ _ _ _ _ _) | ((with_reducible refine Row5.new' _ ?_ _ _ _ _ _); (simp; done)) | (with_reducible refine Row5.alloc ?_ _) | (with_reducible refine Row5.drew ?_)))
  clear hb
  go_wp2
  exact bodyPost_ret (v := .tuple #[.int .i64 0, .bool false]) (by simp [results, Tryd.results35, go_sem]) rfl ⟨rfl, BW1⟩
set_option maxRecDepth 100000 in
theorem rtoint_big (x0 x1 x2 x3 : Int) (g : Bool)
    (m1 : ∀ W, Calls Tryd.prog 29 #[.agg #[.bool g, .int .u64 x0, .int .u64 x1, .int .u64 x2, .int .u64 x3]] W fun e w' => e = .returned (.bool true) ∧ Below W.heap.size W w') (m2 : ∀ W, Calls Tryd.prog 81 #[.agg #[.int .u64 x0, .int .u64 x1, .int .u64 x2, .int .u64 x3]] W fun e w' => e = .returned (.bool false) ∧ Below W.heap.size W w') (w : World) :
    Calls Tryd.prog 35 #[.agg #[.bool g, .int .u64 x0, .int .u64 x1, .int .u64 x2, .int .u64 x3]] w fun e w' => e = .returned (.tuple #[.int .i64 0, .bool false]) ∧ Below w.heap.size w w' := by
  have M1 := Lib.hid m1; clear m1
  have M2 := Lib.hid m2; clear m2
  go_enter Tryd.func35, Tryd.ntmps35
  go_wp2_with fail
  refine (M1.out _).mono ?_
  rintro e w1 ⟨rfl, hb⟩
  have BW1 : Below w.heap.size w w1 := btr (by repeat (first | (with_reducible exact Below.refl _ _) | (with_reducible refine bal ?_ _) | (with_reducible refine Below.drew ?_) | (with_reducible refine bdn ?_ _))) hb
  have X1 : Row5 w1 w.heap.size (.bool g) (.int .u64 x0) (.int .u64 x1) (.int .u64 x2) (.int .u64 x3) := Row5.keep hb (by repeat (first | (with_reducible exact Row5.new _ _ _ _ _ _) | ((with_reducible refine Row5.new' _ ?_ _ _ _ _ _); (simp; done)) | (with_reducible refine Row5.alloc ?_ _) | (with_reducible refine Row5.drew ?_)))
  clear hb
  obtain ⟨Xc0, Xc1, Xc2, Xc3, Xc4⟩ := X1.parts
  obtain ⟨Xf0, Xf1, Xf2, Xf3, Xf4⟩ := X1.free
  go_wp2_with fail
  refine (M2.out _).mono ?_
  rintro e w2 ⟨rfl, hb⟩
  have BW2 : Below w.heap.size w w2 := btr (by repeat (first | (with_reducible exact BW1) | (with_reducible refine bal ?_ _) | (with_reducible refine Below.drew ?_) | (with_reducible refine bdn ?_ _))) hb
  have X2 : Row5 w2 w.heap.size (.bool g) (.int .u64 x0) (.int .u64 x1) (.int .u64 x2) (.int .u64 x3) := Row5.keep hb (by repeat (first | (with_reducible exact X1) | (with_reducible refine Row5.alloc ?_ _) | (with_reducible refine Row5.drew ?_)))
  clear X1
  clear BW1
  clear hb
  obtain ⟨Xc0, Xc1, Xc2, Xc3, Xc4⟩ := X2.parts
  obtain ⟨Xf0, Xf1, Xf2, Xf3, Xf4⟩ := X2.free
  go_wp2
  exact bodyPost_ret (v := .tuple #[.int .i64 0, .bool false]) (by simp [results, Tryd.results35, go_sem]) rfl ⟨rfl, BW2⟩
set_option maxRecDepth 100000 in
theorem rtoint_neg (x0 x1 x2 x3 : Int) (p q : Int) (h0 : 1 ≤ x0) (h1 : x0 ≤ 9223372036854775808) (hp : IntKind.u64.wrap (x0 - 1) = p) (hq : IntKind.i64.wrap p = p) (hr : IntKind.i64.wrap (-p) = q) (hs : IntKind.i64.wrap (q - 1) = -x0)
    (m1 : ∀ W, Calls Tryd.prog 29 #[.agg #[.bool true, .int .u64 x0, .int .u64 x1, .int .u64 x2, .int .u64 x3]] W fun e w' => e = .returned (.bool true) ∧ Below W.heap.size W w') (m2 : ∀ W, Calls Tryd.prog 81 #[.agg #[.int .u64 x0, .int .u64 x1, .int .u64 x2, .int .u64 x3]] W fun e w' => e = .returned (.bool true) ∧ Below W.heap.size W w') (w : World) :
    Calls Tryd.prog 35 #[.agg #[.bool true, .int .u64 x0, .int .u64 x1, .int .u64 x2, .int .u64 x3]] w fun e w' => e = .returned (.tuple #[.int .i64 (-x0), .bool true]) ∧ Below w.heap.size w w' := by
  have M1 := Lib.hid m1; clear m1
  have M2 := Lib.hid m2; clear m2
  go_enter Tryd.func35, Tryd.ntmps35
  go_wp2_with fail
  refine (M1.out _).mono ?_
  rintro e w1 ⟨rfl, hb⟩
  have BW1 : Below w.heap.size w w1 := btr (by repeat (first | (with_reducible exact Below.refl _ _) | (with_reducible refine bal ?_ _) | (with_reducible refine Below.drew ?_) | (with_reducible refine bdn ?_ _))) hb
  have X1 : Row5 w1 w.heap.size (.bool true) (.int .u64 x0) (.int .u64 x1) (.int .u64 x2) (.int .u64 x3) := Row5.keep hb (by repeat (first | (with_reducible exact Row5.new _ _ _ _ _ _) | ((with_reducible refine Row5.new' _ ?_ _ _ _ _ _); (simp; done)) | (with_reducible refine Row5.alloc ?_ _) | (with_reducible refine Row5.drew ?_)))
  clear hb
  obtain ⟨Xc0, Xc1, Xc2, Xc3, Xc4⟩ := X1.parts
  obtain ⟨Xf0, Xf1, Xf2, Xf3, Xf4⟩ := X1.free
  go_wp2_with fail
  refine (M2.out _).mono ?_
  rintro e w2 ⟨rfl, hb⟩
  have BW2 : Below w.heap.size w w2 := btr (by repeat (first | (with_reducible exact BW1) | (with_reducible refine bal ?_ _) | (with_reducible refine Below.drew ?_) | (with_reducible refine bdn ?_ _))) hb
  have X2 : Row5 w2 w.heap.size (.bool true) (.int .u64 x0) (.int .u64 x1) (.int .u64 x2) (.int .u64 x3) := Row5.keep hb (by repeat (first | (with_reducible exact X1) | (with_reducible refine Row5.alloc ?_ _) | (with_reducible refine Row5.drew ?_)))
  clear X1
  clear BW1
  clear hb
  obtain ⟨Xc0, Xc1, Xc2, Xc3, Xc4⟩ := X2.parts
  obtain ⟨Xf0, Xf1, Xf2, Xf3, Xf4⟩ := X2.free
  go_wp2
  exact bodyPost_ret (v := .tuple #[.int .i64 (-x0), .bool true]) (by simp [results, Tryd.results35, go_sem]) rfl ⟨rfl, BW2⟩
set_option maxRecDepth 100000 in
theorem rtoint_negover (x0 x1 x2 x3 : Int) (h1 : 9223372036854775808 < x0)
    (m1 : ∀ W, Calls Tryd.prog 29 #[.agg #[.bool true, .int .u64 x0, .int .u64 x1, .int .u64 x2, .int .u64 x3]] W fun e w' => e = .returned (.bool true) ∧ Below W.heap.size W w') (m2 : ∀ W, Calls Tryd.prog 81 #[.agg #[.int .u64 x0, .int .u64 x1, .int .u64 x2, .int .u64 x3]] W fun e w' => e = .returned (.bool true) ∧ Below W.heap.size W w') (w : World) :
    Calls Tryd.prog 35 #[.agg #[.bool true, .int .u64 x0, .int .u64 x1, .int .u64 x2, .int .u64 x3]] w fun e w' => e = .returned (.tuple #[.int .i64 0, .bool false]) ∧ Below w.heap.size w w' := by
  have M1 := Lib.hid m1; clear m1
  have M2 := Lib.hid m2; clear m2
  go_enter Tryd.func35, Tryd.ntmps35
  go_wp2_with fail
  refine (M1.out _).mono ?_
  rintro e w1 ⟨rfl, hb⟩
  have BW1 : Below w.heap.size w w1 := btr (by repeat (first | (with_reducible exact Below.refl _ _) | (with_reducible refine bal ?_ _) | (with_reducible refine Below.drew ?_) | (with_reducible refine bdn ?_ _))) hb
  have X1 : Row5 w1 w.heap.size (.bool true) (.int .u64 x0) (.int .u64 x1) (.int .u64 x2) (.int .u64 x3) := Row5.keep hb (by repeat (first | (with_reducible exact Row5.new _ _ _ _ _ _) | ((with_reducible refine Row5.new' _ ?_ _ _ _ _ _); (simp; done)) | (with_reducible refine Row5.alloc ?_ _) | (with_reducible refine Row5.drew ?_)))
  clear hb
  obtain ⟨Xc0, Xc1, Xc2, Xc3, Xc4⟩ := X1.parts
  obtain ⟨Xf0, Xf1, Xf2, Xf3, Xf4⟩ := X1.free
  go_wp2_with fail
  refine (M2.out _).mono ?_
  rintro e w2 ⟨rfl, hb⟩
  have BW2 : Below w.heap.size w w2 := btr (by repeat (first | (with_reducible exact BW1) | (with_reducible refine bal ?_ _) | (with_reducible refine Below.drew ?_) | (with_reducible refine bdn ?_ _))) hb
  have X2 : Row5 w2 w.heap.size (.bool true) (.int .u64 x0) (.int .u64 x1) (.int .u64 x2) (.int .u64 x3) := Row5.keep hb (by repeat (first | (with_reducible exact X1) | (with_reducible refine Row5.alloc ?_ _) | (with_reducible refine Row5.drew ?_)))
  clear X1
  clear BW1
  clear hb
  obtain ⟨Xc0, Xc1, Xc2, Xc3, Xc4⟩ := X2.parts
  obtain ⟨Xf0, Xf1, Xf2, Xf3, Xf4⟩ := X2.free
  go_wp2
  exact bodyPost_ret (v := .tuple #[.int .i64 0, .bool false]) (by simp [results, Tryd.results35, go_sem]) rfl ⟨rfl, BW2⟩
set_option maxRecDepth 100000 in
theorem rtoint_pos (x0 x1 x2 x3 : Int) (h0 : 0 ≤ x0) (h1 : x0 ≤ 9223372036854775807) (hq : IntKind.i64.wrap x0 = x0)
    (m1 : ∀ W, Calls Tryd.prog 29 #[.agg #[.bool false, .int .u64 x0, .int .u64 x1, .int .u64 x2, .int .u64 x3]] W fun e w' => e = .returned (.bool true) ∧ Below W.heap.size W w') (m2 : ∀ W, Calls Tryd.prog 81 #[.agg #[.int .u64 x0, .int .u64 x1, .int .u64 x2, .int .u64 x3]] W fun e w' => e = .returned (.bool true) ∧ Below W.heap.size W w') (w : World) :
    Calls Tryd.prog 35 #[.agg #[.bool false, .int .u64 x0, .int .u64 x1, .int .u64 x2, .int .u64 x3]] w fun e w' => e = .returned (.tuple #[.int .i64 x0, .bool true]) ∧ Below w.heap.size w w' := by
  have M1 := Lib.hid m1; clear m1
  have M2 := Lib.hid m2; clear m2
  go_enter Tryd.func35, Tryd.ntmps35
  go_wp2_with fail
  refine (M1.out _).mono ?_
  rintro e w1 ⟨rfl, hb⟩
  have BW1 : Below w.heap.size w w1 := btr (by repeat (first | (with_reducible exact Below.refl _ _) | (with_reducible refine bal ?_ _) | (with_reducible refine Below.drew ?_) | (with_reducible refine bdn ?_ _))) hb
  have X1 : Row5 w1 w.heap.size (.bool false) (.int .u64 x0) (.int .u64 x1) (.int .u64 x2) (.int .u64 x3) := Row5.keep hb (by repeat (first | (with_reducible exact Row5.new _ _ _ _ _ _) | ((with_reducible refine Row5.new' _ ?_ _ _ _ _ _); (simp; done)) | (with_reducible refine Row5.alloc ?_ _) | (with_reducible refine Row5.drew ?_)))
  clear hb
  obtain ⟨Xc0, Xc1, Xc2, Xc3, Xc4⟩ := X1.parts
  obtain ⟨Xf0, Xf1, Xf2, Xf3, Xf4⟩ := X1.free
  go_wp2_with fail
  refine (M2.out _).mono ?_
  rintro e w2 ⟨rfl, hb⟩
  have BW2 : Below w.heap.size w w2 := btr (by repeat (first | (with_reducible exact BW1) | (with_reducible refine bal ?_ _) | (with_reducible refine Below.drew ?_) | (with_reducible refine bdn ?_ _))) hb
  have X2 : Row5 w2 w.heap.size (.bool false) (.int .u64 x0) (.int .u64 x1) (.int .u64 x2) (.int .u64 x3) := Row5.keep hb (by repeat (first | (with_reducible exact X1) | (with_reducible refine Row5.alloc ?_ _) | (with_reducible refine Row5.drew ?_)))
  clear X1
  clear BW1
  clear hb
  obtain ⟨Xc0, Xc1, Xc2, Xc3, Xc4⟩ := X2.parts
  obtain ⟨Xf0, Xf1, Xf2, Xf3, Xf4⟩ := X2.free
  go_wp2
  exact bodyPost_ret (v := .tuple #[.int .i64 x0, .bool true]) (by simp [results, Tryd.results35, go_sem]) rfl ⟨rfl, BW2⟩
set_option maxRecDepth 100000 in
theorem rtoint_posover (x0 x1 x2 x3 : Int) (h1 : 9223372036854775807 < x0)
    (m1 : ∀ W, Calls Tryd.prog 29 #[.agg #[.bool false, .int .u64 x0, .int .u64 x1, .int .u64 x2, .int .u64 x3]] W fun e w' => e = .returned (.bool true) ∧ Below W.heap.size W w') (m2 : ∀ W, Calls Tryd.prog 81 #[.agg #[.int .u64 x0, .int .u64 x1, .int .u64 x2, .int .u64 x3]] W fun e w' => e = .returned (.bool true) ∧ Below W.heap.size W w') (w : World) :
    Calls Tryd.prog 35 #[.agg #[.bool false, .int .u64 x0, .int .u64 x1, .int .u64 x2, .int .u64 x3]] w fun e w' => e = .returned (.tuple #[.int .i64 0, .bool false]) ∧ Below w.heap.size w w' := by
  have M1 := Lib.hid m1; clear m1
  have M2 := Lib.hid m2; clear m2
  go_enter Tryd.func35, Tryd.ntmps35
  go_wp2_with fail
  refine (M1.out _).mono ?_
  rintro e w1 ⟨rfl, hb⟩
  have BW1 : Below w.heap.size w w1 := btr (by repeat (first | (with_reducible exact Below.refl _ _) | (with_reducible refine bal ?_ _) | (with_reducible refine Below.drew ?_) | (with_reducible refine bdn ?_ _))) hb
  have X1 : Row5 w1 w.heap.size (.bool false) (.int .u64 x0) (.int .u64 x1) (.int .u64 x2) (.int .u64 x3) := Row5.keep hb (by repeat (first | (with_reducible exact Row5.new _ _ _ _ _ _) | ((with_reducible refine Row5.new' _ ?_ _ _ _ _ _); (simp; done)) | (with_reducible refine Row5.alloc ?_ _) | (with_reducible refine Row5.drew ?_)))
  clear hb
  obtain ⟨Xc0, Xc1, Xc2, Xc3, Xc4⟩ := X1.parts
  obtain ⟨Xf0, Xf1, Xf2, Xf3, Xf4⟩ := X1.free
  go_wp2_with fail
  refine (M2.out _).mono ?_
  rintro e w2 ⟨rfl, hb⟩
  have BW2 : Below w.heap.size w w2 := btr (by repeat (first | (with_reducible exact BW1) | (with_reducible refine bal ?_ _) | (with_reducible refine Below.drew ?_) | (with_reducible refine bdn ?_ _))) hb
  have X2 : Row5 w2 w.heap.size (.bool false) (.int .u64 x0) (.int .u64 x1) (.int .u64 x2) (.int .u64 x3) := Row5.keep hb (by repeat (first | (with_reducible exact X1) | (with_reducible refine Row5.alloc ?_ _) | (with_reducible refine Row5.drew ?_)))
  clear X1
  clear BW1
  clear hb
  obtain ⟨Xc0, Xc1, Xc2, Xc3, Xc4⟩ := X2.parts
  obtain ⟨Xf0, Xf1, Xf2, Xf3, Xf4⟩ := X2.free
  go_wp2
  exact bodyPost_ret (v := .tuple #[.int .i64 0, .bool false]) (by simp [results, Tryd.results35, go_sem]) rfl ⟨rfl, BW2⟩
set_option maxRecDepth 100000 in
theorem rtouint_bad (x0 x1 x2 x3 : Int) (g : Bool)
    (m1 : ∀ W, Calls Tryd.prog 29 #[.agg #[.bool g, .int .u64 x0, .int .u64 x1, .int .u64 x2, .int .u64 x3]] W fun e w' => e = .returned (.bool false) ∧ Below W.heap.size W w') (w : World) :
    Calls Tryd.prog 37 #[.agg #[.bool g, .int .u64 x0, .int .u64 x1, .int .u64 x2, .int .u64 x3]] w fun e w' => e = .returned (.tuple #[.int .u64 0, .bool false]) ∧ Below w.heap.size w w' := by
  have M1 := Lib.hid m1; clear m1
  go_enter Tryd.func37, Tryd.ntmps37
  go_wp2_with fail
  refine (M1.out _).mono ?_
  rintro e w1 ⟨rfl, hb⟩
  have BW1 : Below w.heap.size w w1 := btr (by repeat (first | (with_reducible exact Below.refl _ _) | (with_reducible refine bal ?_ _) | (with_reducible refine Below.drew ?_) | (with_reducible refine bdn ?_ _))) hb
  have X1 : Row5 w1 w.heap.size (.bool g) (.int .u64 x0) (.int .u64 x1) (.int .u64 x2) (.int .u64 x3) := Row5.keep hb (by repeat (first | (with_reducible exact Row5.new _ _ _ _ _ _) | ((with_reducible refine Row5.new' _ ?_ _ _ _ _ _); (simp; done)) | (with_reducible refine Row5.alloc ?_ _) | (with_reducible refine Row5.drew ?_)))
  clear hb
  obtain ⟨Xc0, Xc1, Xc2, Xc3, Xc4⟩ := X1.parts
  obtain ⟨Xf0, Xf1, Xf2, Xf3, Xf4⟩ := X1.free
  go_wp2
  exact bodyPost_ret (v := .tuple #[.int .u64 0, .bool false]) (by simp [results, Tryd.results37, go_sem]) rfl ⟨rfl, BW1⟩
set_option maxRecDepth 100000 in
theorem rtouint_neg (x0 x1 x2 x3 : Int) 
    (m1 : ∀ W, Calls Tryd.prog 29 #[.agg #[.bool true, .int .u64 x0, .int .u64 x1, .int .u64 x2, .int .u64 x3]] W fun e w' => e = .returned (.bool true) ∧ Below W.heap.size W w') (w : World) :
    Calls Tryd.prog 37 #[.agg #[.bool true, .int .u64 x0, .int .u64 x1, .int .u64 x2, .int .u64 x3]] w fun e w' => e = .returned (.tuple #[.int .u64 0, .bool false]) ∧ Below w.heap.size w w' := by
  have M1 := Lib.hid m1; clear m1
  go_enter Tryd.func37, Tryd.ntmps37
  go_wp2_with fail
  refine (M1.out _).mono ?_
  rintro e w1 ⟨rfl, hb⟩
  have BW1 : Below w.heap.size w w1 := btr (by repeat (first | (with_reducible exact Below.refl _ _) | (with_reducible refine bal ?_ _) | (with_reducible refine Below.drew ?_) | (with_reducible refine bdn ?_ _))) hb
  have X1 : Row5 w1 w.heap.size (.bool true) (.int .u64 x0) (.int .u64 x1) (.int .u64 x2) (.int .u64 x3) := Row5.keep hb (by repeat (first | (with_reducible exact Row5.new _ _ _ _ _ _) | ((with_reducible refine Row5.new' _ ?_ _ _ _ _ _); (simp; done)) | (with_reducible refine Row5.alloc ?_ _) | (with_reducible refine Row5.drew ?_)))
  clear hb
  obtain ⟨Xc0, Xc1, Xc2, Xc3, Xc4⟩ := X1.parts
  obtain ⟨Xf0, Xf1, Xf2, Xf3, Xf4⟩ := X1.free
  go_wp2
  exact bodyPost_ret (v := .tuple #[.int .u64 0, .bool false]) (by simp [results, Tryd.results37, go_sem]) rfl ⟨rfl, BW1⟩
set_option maxRecDepth 100000 in
theorem rtouint_big (x0 x1 x2 x3 : Int) 
    (m1 : ∀ W, Calls Tryd.prog 29 #[.agg #[.bool false, .int .u64 x0, .int .u64 x1, .int .u64 x2, .int .u64 x3]] W fun e w' => e = .returned (.bool true) ∧ Below W.heap.size W w') (m2 : ∀ W, Calls Tryd.prog 81 #[.agg #[.int .u64 x0, .int .u64 x1, .int .u64 x2, .int .u64 x3]] W fun e w' => e = .returned (.bool false) ∧ Below W.heap.size W w') (w : World) :
    Calls Tryd.prog 37 #[.agg #[.bool false, .int .u64 x0, .int .u64 x1, .int .u64 x2, .int .u64 x3]] w fun e w' => e = .returned (.tuple #[.int .u64 0, .bool false]) ∧ Below w.heap.size w w' := by
  have M1 := Lib.hid m1; clear m1
  have M2 := Lib.hid m2; clear m2
  go_enter Tryd.func37, Tryd.ntmps37
  go_wp2_with fail
  refine (M1.out _).mono ?_
  rintro e w1 ⟨rfl, hb⟩
  have BW1 : Below w.heap.size w w1 := btr (by repeat (first | (with_reducible exact Below.refl _ _) | (with_reducible refine bal ?_ _) | (with_reducible refine Below.drew ?_) | (with_reducible refine bdn ?_ _))) hb
  have X1 : Row5 w1 w.heap.size (.bool false) (.int .u64 x0) (.int .u64 x1) (.int .u64 x2) (.int .u64 x3) := Row5.keep hb (by repeat (first | (with_reducible exact Row5.new _ _ _ _ _ _) | ((with_reducible refine Row5.new' _ ?_ _ _ _ _ _); (simp; done)) | (with_reducible refine Row5.alloc ?_ _) | (with_reducible refine Row5.drew ?_)))
  clear hb
  obtain ⟨Xc0, Xc1, Xc2, Xc3, Xc4⟩ := X1.parts
  obtain ⟨Xf0, Xf1, Xf2, Xf3, Xf4⟩ := X1.free
  go_wp2_with fail
  refine (M2.out _).mono ?_
  rintro e w2 ⟨rfl, hb⟩
  have BW2 : Below w.heap.size w w2 := btr (by repeat (first | (with_reducible exact BW1) | (with_reducible refine bal ?_ _) | (with_reducible refine Below.drew ?_) | (with_reducible refine bdn ?_ _))) hb
  have X2 : Row5 w2 w.heap.size (.bool false) (.int .u64 x0) (.int .u64 x1) (.int .u64 x2) (.int .u64 x3) := Row5.keep hb (by repeat (first | (with_reducible exact X1) | (with_reducible refine Row5.alloc ?_ _) | (with_reducible refine Row5.drew ?_)))
  clear X1
  clear BW1
  clear hb
  obtain ⟨Xc0, Xc1, Xc2, Xc3, Xc4⟩ := X2.parts
  obtain ⟨Xf0, Xf1, Xf2, Xf3, Xf4⟩ := X2.free
  go_wp2
  exact bodyPost_ret (v := .tuple #[.int .u64 0, .bool false]) (by simp [results, Tryd.results37, go_sem]) rfl ⟨rfl, BW2⟩
set_option maxRecDepth 100000 in
theorem rtouint_pos (x0 x1 x2 x3 : Int) 
    (m1 : ∀ W, Calls Tryd.prog 29 #[.agg #[.bool false, .int .u64 x0, .int .u64 x1, .int .u64 x2, .int .u64 x3]] W fun e w' => e = .returned (.bool true) ∧ Below W.heap.size W w') (m2 : ∀ W, Calls Tryd.prog 81 #[.agg #[.int .u64 x0, .int .u64 x1, .int .u64 x2, .int .u64 x3]] W fun e w' => e = .returned (.bool true) ∧ Below W.heap.size W w') (w : World) :
    Calls Tryd.prog 37 #[.agg #[.bool false, .int .u64 x0, .int .u64 x1, .int .u64 x2, .int .u64 x3]] w fun e w' => e = .returned (.tuple #[.int .u64 x0, .bool true]) ∧ Below w.heap.size w w' := by
  have M1 := Lib.hid m1; clear m1
  have M2 := Lib.hid m2; clear m2
  go_enter Tryd.func37, Tryd.ntmps37
  go_wp2_with fail
  refine (M1.out _).mono ?_
  rintro e w1 ⟨rfl, hb⟩
  have BW1 : Below w.heap.size w w1 := btr (by repeat (first | (with_reducible exact Below.refl _ _) | (with_reducible refine bal ?_ _) | (with_reducible refine Below.drew ?_) | (with_reducible refine bdn ?_ _))) hb
  have X1 : Row5 w1 w.heap.size (.bool false) (.int .u64 x0) (.int .u64 x1) (.int .u64 x2) (.int .u64 x3) := Row5.keep hb (by repeat (first | (with_reducible exact Row5.new _ _ _ _ _ _) | ((with_reducible refine Row5.new' _ ?_ _ _ _ _ _); (simp; done)) | (with_reducible refine Row5.alloc ?_ _) | (with_reducible refine Row5.drew ?_)))
  clear hb
  obtain ⟨Xc0, Xc1, Xc2, Xc3, Xc4⟩ := X1.parts
  obtain ⟨Xf0, Xf1, Xf2, Xf3, Xf4⟩ := X1.free
  go_wp2_with fail
  refine (M2.out _).mono ?_
  rintro e w2 ⟨rfl, hb⟩
  have BW2 : Below w.heap.size w w2 := btr (by repeat (first | (with_reducible exact BW1) | (with_reducible refine bal ?_ _) | (with_reducible refine Below.drew ?_) | (with_reducible refine bdn ?_ _))) hb
  have X2 : Row5 w2 w.heap.size (.bool false) (.int .u64 x0) (.int .u64 x1) (.int .u64 x2) (.int .u64 x3) := Row5.keep hb (by repeat (first | (with_reducible exact X1) | (with_reducible refine Row5.alloc ?_ _) | (with_reducible refine Row5.drew ?_)))
  clear X1
  clear BW1
  clear hb
  obtain ⟨Xc0, Xc1, Xc2, Xc3, Xc4⟩ := X2.parts
  obtain ⟨Xf0, Xf1, Xf2, Xf3, Xf4⟩ := X2.free
  go_wp2
  exact bodyPost_ret (v := .tuple #[.int .u64 x0, .bool true]) (by simp [results, Tryd.results37, go_sem]) rfl ⟨rfl, BW2⟩
theorem digs_of_eight {x : Nat} (h : x < 2 ^ 256) : (digs x).length ≤ 1000 := Nat.le_trans (digs_len.2 (show x < 2 ^ (32 * 8) from h)) (by decide)
theorem rcmp_of {x y : Nat} {c : Int} (hc : rcv x y = c) (lx : (digs x).length ≤ 1000) {s t : Value} {w : World} (hx : DR w s x) (hy : DR w t y) :
    Calls Tryd.prog 89 #[s, t] w fun e w' => e = .returned (.int .i64 c) ∧ Below w.heap.size w w' := by
  have := rcmp hx hy lx
  rw [hc] at this
  exact this
theorem both55 {W : World} {b c : Nat} {v0 v1 v2 v3 v4 u0 u1 u2 u3 u4 : Value} (h : Row5 W b v0 v1 v2 v3 v4) (k : Row5 W c u0 u1 u2 u3 u4) :
    W.cell? ⟨b, 0, none⟩ = some v0 ∧ W.cell? ⟨b, 1, none⟩ = some v1 ∧ W.cell? ⟨b, 2, none⟩ = some v2 ∧ W.cell? ⟨b, 3, none⟩ = some v3 ∧ W.cell? ⟨b, 4, none⟩ = some v4 ∧ W.cell? ⟨c, 0, none⟩ = some u0 ∧ W.cell? ⟨c, 1, none⟩ = some u1 ∧ W.cell? ⟨c, 2, none⟩ = some u2 ∧ W.cell? ⟨c, 3, none⟩ = some u3 ∧ W.cell? ⟨c, 4, none⟩ = some u4 :=
  ⟨h.parts.1, h.parts.2.1, h.parts.2.2.1, h.parts.2.2.2.1, h.parts.2.2.2.2, k.parts⟩
set_option maxHeartbeats 1000000 in
set_option maxRecDepth 100000 in
theorem rcmpint_tf (x y : Nat)  (w : World) :
    Calls Tryd.prog 41 #[I5 true x, I5 false y] w fun e w' => e = .returned (.int .i64 (-1)) ∧ Below w.heap.size w w' := by
  unfold I5
  go_enter Tryd.func41, Tryd.ntmps41
  go_wp2
  go_ret
  exact ⟨rfl, by repeat (first | (with_reducible exact Below.refl _ _) | (with_reducible refine bal ?_ _) | (with_reducible refine Below.drew ?_) | (with_reducible refine bdn ?_ _))⟩
set_option maxHeartbeats 1000000 in
set_option maxRecDepth 100000 in
theorem rcmpint_ft (x y : Nat)  (w : World) :
    Calls Tryd.prog 41 #[I5 false x, I5 true y] w fun e w' => e = .returned (.int .i64 1) ∧ Below w.heap.size w w' := by
  unfold I5
  go_enter Tryd.func41, Tryd.ntmps41
  go_wp2
  go_ret
  exact ⟨rfl, by repeat (first | (with_reducible exact Below.refl _ _) | (with_reducible refine bal ?_ _) | (with_reducible refine Below.drew ?_) | (with_reducible refine bdn ?_ _))⟩
set_option maxHeartbeats 1000000 in
set_option maxRecDepth 100000 in
theorem rcmpint_ff (x y : Nat) (hx : x < 2 ^ 256) (hy : y < 2 ^ 256) (c : Int) (hc : rcv x y = c) (w : World) :
    Calls Tryd.prog 41 #[I5 false x, I5 false y] w fun e w' => e = .returned (.int .i64 c) ∧ Below w.heap.size w w' := by
  unfold I5
  have L1 := Lib.hid (digs_of_eight hx)
  have HX := Lib.hid hx; have HY := Lib.hid hy; have HC := Lib.hid hc; clear hx hy hc
  go_enter Tryd.func41, Tryd.ntmps41
  go_upto_region 5 with (fail)
  go_name_world w1 hw1
  have BW1 : Below w.heap.size w w1 := by rw [← hw1]; repeat (first | (with_reducible exact Below.refl _ _) | (with_reducible refine bal ?_ _) | (with_reducible refine Below.drew ?_) | (with_reducible refine bdn ?_ _))
  have X1 : Row5 w1 w.heap.size (.bool false) (.int .u64 (lb 0 x)) (.int .u64 (lb 1 x)) (.int .u64 (lb 2 x)) (.int .u64 (lb 3 x)) := by rw [← hw1]; exact (by repeat (first | (with_reducible exact Row5.new _ _ _ _ _ _) | ((with_reducible refine Row5.new' _ ?_ _ _ _ _ _); (simp; done)) | (with_reducible refine Row5.alloc ?_ _) | (with_reducible refine Row5.drew ?_)))
  have Y1 : Row5 w1 (w.heap.size + 1) (.bool false) (.int .u64 (lb 0 y)) (.int .u64 (lb 1 y)) (.int .u64 (lb 2 y)) (.int .u64 (lb 3 y)) := by rw [← hw1]; exact (by repeat (first | (with_reducible exact Row5.new _ _ _ _ _ _) | ((with_reducible refine Row5.new' _ ?_ _ _ _ _ _); (simp; done)) | (with_reducible refine Row5.alloc ?_ _) | (with_reducible refine Row5.drew ?_)))
  clear hw1
  have lt_X := X1.lt
  have lt_Y := Y1.lt
  go_region_held3 (fun w' => w'.cell? ⟨w.heap.size, 0, none⟩ = some (.bool false) ∧ w'.cell? ⟨w.heap.size, 1, none⟩ = some (.int .u64 (lb 0 x)) ∧ w'.cell? ⟨w.heap.size, 2, none⟩ = some (.int .u64 (lb 1 x)) ∧ w'.cell? ⟨w.heap.size, 3, none⟩ = some (.int .u64 (lb 2 x)) ∧ w'.cell? ⟨w.heap.size, 4, none⟩ = some (.int .u64 (lb 3 x)) ∧ w'.cell? ⟨(w.heap.size + 1), 0, none⟩ = some (.bool false) ∧ w'.cell? ⟨(w.heap.size + 1), 1, none⟩ = some (.int .u64 (lb 0 y)) ∧ w'.cell? ⟨(w.heap.size + 1), 2, none⟩ = some (.int .u64 (lb 1 y)) ∧ w'.cell? ⟨(w.heap.size + 1), 3, none⟩ = some (.int .u64 (lb 2 y)) ∧ w'.cell? ⟨(w.heap.size + 1), 4, none⟩ = some (.int .u64 (lb 3 y)))
    ((refine both55 ?_ ?_; (focus (repeat (first | (with_reducible assumption) | (with_reducible refine Row5.alloc ?_ _) | (with_reducible refine Row5.drew ?_) | (with_reducible refine Row5.drewN ?_ _)))); (focus (repeat (first | (with_reducible assumption) | (with_reducible refine Row5.alloc ?_ _) | (with_reducible refine Row5.drew ?_) | (with_reducible refine Row5.drewN ?_ _)))); done))
    (first | (go_at_call 10; (with_reducible refine (rof x HX.out _).mono ?_); rintro e wf1_1 ⟨s1, rfl, hr1_1, hb1_1⟩; have hx1_1 : Below w1.heap.size w1 wf1_1 := btr (by repeat (first | (with_reducible exact Below.refl _ _) | (with_reducible refine bal ?_ _) | (with_reducible refine Below.drew ?_) | (with_reducible refine bdn ?_ _))) hb1_1; have Xf1 : Row5 wf1_1 w.heap.size (.bool false) (.int .u64 (lb 0 x)) (.int .u64 (lb 1 x)) (.int .u64 (lb 2 x)) (.int .u64 (lb 3 x)) := Row5.keep hb1_1 (by repeat (first | (with_reducible assumption) | (with_reducible refine Row5.alloc ?_ _) | (with_reducible refine Row5.drew ?_) | (with_reducible refine Row5.drewN ?_ _))); have Yf1 : Row5 wf1_1 (w.heap.size + 1) (.bool false) (.int .u64 (lb 0 y)) (.int .u64 (lb 1 y)) (.int .u64 (lb 2 y)) (.int .u64 (lb 3 y)) := Row5.keep hb1_1 (by repeat (first | (with_reducible assumption) | (with_reducible refine Row5.alloc ?_ _) | (with_reducible refine Row5.drew ?_) | (with_reducible refine Row5.drewN ?_ _)))) | (go_at_call 10; (with_reducible refine (rof y HY.out _).mono ?_); rintro e wf1_2 ⟨s2, rfl, hr1_2, hb1_2⟩; have hx1_2 : Below wf1_1.heap.size wf1_1 wf1_2 := btr (by repeat (first | (with_reducible exact Below.refl _ _) | (with_reducible refine bal ?_ _) | (with_reducible refine Below.drew ?_) | (with_reducible refine bdn ?_ _))) hb1_2; have Xf2 : Row5 wf1_2 w.heap.size (.bool false) (.int .u64 (lb 0 x)) (.int .u64 (lb 1 x)) (.int .u64 (lb 2 x)) (.int .u64 (lb 3 x)) := Row5.keep hb1_2 (by repeat (first | (with_reducible assumption) | (with_reducible refine Row5.alloc ?_ _) | (with_reducible refine Row5.drew ?_) | (with_reducible refine Row5.drewN ?_ _))); have Yf2 : Row5 wf1_2 (w.heap.size + 1) (.bool false) (.int .u64 (lb 0 y)) (.int .u64 (lb 1 y)) (.int .u64 (lb 2 y)) (.int .u64 (lb 3 y)) := Row5.keep hb1_2 (by repeat (first | (with_reducible assumption) | (with_reducible refine Row5.alloc ?_ _) | (with_reducible refine Row5.drew ?_) | (with_reducible refine Row5.drewN ?_ _))); have DXf1_2 : DR wf1_2 s1 x := DR.keep hx1_2 hr1_1) | (go_at_call 89; (with_reducible refine (rcmp_of HC.out L1.out (DR.keep (by repeat (first | (with_reducible exact Below.refl _ _) | (with_reducible refine bal ?_ _) | (with_reducible refine Below.drew ?_) | (with_reducible refine bdn ?_ _))) DXf1_2) (DR.keep (by repeat (first | (with_reducible exact Below.refl _ _) | (with_reducible refine bal ?_ _) | (with_reducible refine Below.drew ?_) | (with_reducible refine bdn ?_ _))) hr1_2)).mono ?_); rintro e wf1_3 ⟨rfl, hb1_3⟩; have hx1_3 : Below wf1_2.heap.size wf1_2 wf1_3 := btr (by repeat (first | (with_reducible exact Below.refl _ _) | (with_reducible refine bal ?_ _) | (with_reducible refine Below.drew ?_) | (with_reducible refine bdn ?_ _))) hb1_3; have Xf3 : Row5 wf1_3 w.heap.size (.bool false) (.int .u64 (lb 0 x)) (.int .u64 (lb 1 x)) (.int .u64 (lb 2 x)) (.int .u64 (lb 3 x)) := Row5.keep hb1_3 (by repeat (first | (with_reducible assumption) | (with_reducible refine Row5.alloc ?_ _) | (with_reducible refine Row5.drew ?_) | (with_reducible refine Row5.drewN ?_ _))); have Yf3 : Row5 wf1_3 (w.heap.size + 1) (.bool false) (.int .u64 (lb 0 y)) (.int .u64 (lb 1 y)) (.int .u64 (lb 2 y)) (.int .u64 (lb 3 y)) := Row5.keep hb1_3 (by repeat (first | (with_reducible assumption) | (with_reducible refine Row5.alloc ?_ _) | (with_reducible refine Row5.drew ?_) | (with_reducible refine Row5.drewN ?_ _))); have DXf1_3 : DR wf1_3 s1 x := DR.keep hx1_3 DXf1_2; have DYf1_3 : DR wf1_3 s2 y := DR.keep hx1_3 hr1_2))
  have BW2 : Below w.heap.size w wf1_1 := btr (by repeat (first | (with_reducible exact BW1) | (with_reducible refine bal ?_ _) | (with_reducible refine Below.drew ?_) | (with_reducible refine bdn ?_ _))) hb1_1
  have X2 : Row5 wf1_1 w.heap.size (.bool false) (.int .u64 (lb 0 x)) (.int .u64 (lb 1 x)) (.int .u64 (lb 2 x)) (.int .u64 (lb 3 x)) := Row5.keep hb1_1 (by repeat (first | (with_reducible exact X1) | (with_reducible refine Row5.alloc ?_ _) | (with_reducible refine Row5.drew ?_)))
  have Y2 : Row5 wf1_1 (w.heap.size + 1) (.bool false) (.int .u64 (lb 0 y)) (.int .u64 (lb 1 y)) (.int .u64 (lb 2 y)) (.int .u64 (lb 3 y)) := Row5.keep hb1_1 (by repeat (first | (with_reducible exact Y1) | (with_reducible refine Row5.alloc ?_ _) | (with_reducible refine Row5.drew ?_)))
  clear X1 Y1 Xf1 Yf1 BW1
  have BW3 : Below w.heap.size w wf1_2 := btr (by repeat (first | (with_reducible exact BW2) | (with_reducible refine bal ?_ _) | (with_reducible refine Below.drew ?_) | (with_reducible refine bdn ?_ _))) hb1_2
  have X3 : Row5 wf1_2 w.heap.size (.bool false) (.int .u64 (lb 0 x)) (.int .u64 (lb 1 x)) (.int .u64 (lb 2 x)) (.int .u64 (lb 3 x)) := Row5.keep hb1_2 (by repeat (first | (with_reducible exact X2) | (with_reducible refine Row5.alloc ?_ _) | (with_reducible refine Row5.drew ?_)))
  have Y3 : Row5 wf1_2 (w.heap.size + 1) (.bool false) (.int .u64 (lb 0 y)) (.int .u64 (lb 1 y)) (.int .u64 (lb 2 y)) (.int .u64 (lb 3 y)) := Row5.keep hb1_2 (by repeat (first | (with_reducible exact Y2) | (with_reducible refine Row5.alloc ?_ _) | (with_reducible refine Row5.drew ?_)))
  clear X2 Y2 Xf2 Yf2 BW2
  have BW4 : Below w.heap.size w wf1_3 := btr (by repeat (first | (with_reducible exact BW3) | (with_reducible refine bal ?_ _) | (with_reducible refine Below.drew ?_) | (with_reducible refine bdn ?_ _))) hb1_3
  have X4 : Row5 wf1_3 w.heap.size (.bool false) (.int .u64 (lb 0 x)) (.int .u64 (lb 1 x)) (.int .u64 (lb 2 x)) (.int .u64 (lb 3 x)) := Row5.keep hb1_3 (by repeat (first | (with_reducible exact X3) | (with_reducible refine Row5.alloc ?_ _) | (with_reducible refine Row5.drew ?_)))
  have Y4 : Row5 wf1_3 (w.heap.size + 1) (.bool false) (.int .u64 (lb 0 y)) (.int .u64 (lb 1 y)) (.int .u64 (lb 2 y)) (.int .u64 (lb 3 y)) := Row5.keep hb1_3 (by repeat (first | (with_reducible exact Y3) | (with_reducible refine Row5.alloc ?_ _) | (with_reducible refine Row5.drew ?_)))
  clear X3 Y3 Xf3 Yf3 BW3
  have DX4 : DR wf1_3 s1 x := DXf1_3
  have DY4 : DR wf1_3 s2 y := DYf1_3
  clear hb1_1 hx1_1
  clear hb1_2 hx1_2
  clear hb1_3 hx1_3
  try clear DXf1_1
  try clear DYf1_1
  try clear DXf1_2
  try clear DYf1_2
  try clear DXf1_3
  try clear DYf1_3
  try clear hr1_1
  try clear hr1_2
  obtain ⟨Xc0, Xc1, Xc2, Xc3, Xc4⟩ := X4.parts
  obtain ⟨Xf0, Xf1, Xf2, Xf3, Xf4⟩ := X4.free
  go_wp2
  go_ret
  exact ⟨rfl, BW4⟩
set_option maxHeartbeats 1000000 in
set_option maxRecDepth 100000 in
theorem rcmpint_tt (x y : Nat) (hx : x < 2 ^ 256) (hy : y < 2 ^ 256) (c d : Int) (hc : rcv x y = c) (hd : IntKind.i64.wrap (-c) = d) (w : World) :
    Calls Tryd.prog 41 #[I5 true x, I5 true y] w fun e w' => e = .returned (.int .i64 d) ∧ Below w.heap.size w w' := by
  unfold I5
  have L1 := Lib.hid (digs_of_eight hx)
  have HX := Lib.hid hx; have HY := Lib.hid hy; have HC := Lib.hid hc; clear hx hy hc
  go_enter Tryd.func41, Tryd.ntmps41
  go_upto_region 5 with (fail)
  go_name_world w1 hw1
  have BW1 : Below w.heap.size w w1 := by rw [← hw1]; repeat (first | (with_reducible exact Below.refl _ _) | (with_reducible refine bal ?_ _) | (with_reducible refine Below.drew ?_) | (with_reducible refine bdn ?_ _))
  have X1 : Row5 w1 w.heap.size (.bool true) (.int .u64 (lb 0 x)) (.int .u64 (lb 1 x)) (.int .u64 (lb 2 x)) (.int .u64 (lb 3 x)) := by rw [← hw1]; exact (by repeat (first | (with_reducible exact Row5.new _ _ _ _ _ _) | ((with_reducible refine Row5.new' _ ?_ _ _ _ _ _); (simp; done)) | (with_reducible refine Row5.alloc ?_ _) | (with_reducible refine Row5.drew ?_)))
  have Y1 : Row5 w1 (w.heap.size + 1) (.bool true) (.int .u64 (lb 0 y)) (.int .u64 (lb 1 y)) (.int .u64 (lb 2 y)) (.int .u64 (lb 3 y)) := by rw [← hw1]; exact (by repeat (first | (with_reducible exact Row5.new _ _ _ _ _ _) | ((with_reducible refine Row5.new' _ ?_ _ _ _ _ _); (simp; done)) | (with_reducible refine Row5.alloc ?_ _) | (with_reducible refine Row5.drew ?_)))
  clear hw1
  have lt_X := X1.lt
  have lt_Y := Y1.lt
  go_region_held3 (fun w' => w'.cell? ⟨w.heap.size, 0, none⟩ = some (.bool true) ∧ w'.cell? ⟨w.heap.size, 1, none⟩ = some (.int .u64 (lb 0 x)) ∧ w'.cell? ⟨w.heap.size, 2, none⟩ = some (.int .u64 (lb 1 x)) ∧ w'.cell? ⟨w.heap.size, 3, none⟩ = some (.int .u64 (lb 2 x)) ∧ w'.cell? ⟨w.heap.size, 4, none⟩ = some (.int .u64 (lb 3 x)) ∧ w'.cell? ⟨(w.heap.size + 1), 0, none⟩ = some (.bool true) ∧ w'.cell? ⟨(w.heap.size + 1), 1, none⟩ = some (.int .u64 (lb 0 y)) ∧ w'.cell? ⟨(w.heap.size + 1), 2, none⟩ = some (.int .u64 (lb 1 y)) ∧ w'.cell? ⟨(w.heap.size + 1), 3, none⟩ = some (.int .u64 (lb 2 y)) ∧ w'.cell? ⟨(w.heap.size + 1), 4, none⟩ = some (.int .u64 (lb 3 y)))
    ((refine both55 ?_ ?_; (focus (repeat (first | (with_reducible assumption) | (with_reducible refine Row5.alloc ?_ _) | (with_reducible refine Row5.drew ?_) | (with_reducible refine Row5.drewN ?_ _)))); (focus (repeat (first | (with_reducible assumption) | (with_reducible refine Row5.alloc ?_ _) | (with_reducible refine Row5.drew ?_) | (with_reducible refine Row5.drewN ?_ _)))); done))
    (first | (go_at_call 10; (with_reducible refine (rof x HX.out _).mono ?_); rintro e wf1_1 ⟨s1, rfl, hr1_1, hb1_1⟩; have hx1_1 : Below w1.heap.size w1 wf1_1 := btr (by repeat (first | (with_reducible exact Below.refl _ _) | (with_reducible refine bal ?_ _) | (with_reducible refine Below.drew ?_) | (with_reducible refine bdn ?_ _))) hb1_1; have Xf1 : Row5 wf1_1 w.heap.size (.bool true) (.int .u64 (lb 0 x)) (.int .u64 (lb 1 x)) (.int .u64 (lb 2 x)) (.int .u64 (lb 3 x)) := Row5.keep hb1_1 (by repeat (first | (with_reducible assumption) | (with_reducible refine Row5.alloc ?_ _) | (with_reducible refine Row5.drew ?_) | (with_reducible refine Row5.drewN ?_ _))); have Yf1 : Row5 wf1_1 (w.heap.size + 1) (.bool true) (.int .u64 (lb 0 y)) (.int .u64 (lb 1 y)) (.int .u64 (lb 2 y)) (.int .u64 (lb 3 y)) := Row5.keep hb1_1 (by repeat (first | (with_reducible assumption) | (with_reducible refine Row5.alloc ?_ _) | (with_reducible refine Row5.drew ?_) | (with_reducible refine Row5.drewN ?_ _)))) | (go_at_call 10; (with_reducible refine (rof y HY.out _).mono ?_); rintro e wf1_2 ⟨s2, rfl, hr1_2, hb1_2⟩; have hx1_2 : Below wf1_1.heap.size wf1_1 wf1_2 := btr (by repeat (first | (with_reducible exact Below.refl _ _) | (with_reducible refine bal ?_ _) | (with_reducible refine Below.drew ?_) | (with_reducible refine bdn ?_ _))) hb1_2; have Xf2 : Row5 wf1_2 w.heap.size (.bool true) (.int .u64 (lb 0 x)) (.int .u64 (lb 1 x)) (.int .u64 (lb 2 x)) (.int .u64 (lb 3 x)) := Row5.keep hb1_2 (by repeat (first | (with_reducible assumption) | (with_reducible refine Row5.alloc ?_ _) | (with_reducible refine Row5.drew ?_) | (with_reducible refine Row5.drewN ?_ _))); have Yf2 : Row5 wf1_2 (w.heap.size + 1) (.bool true) (.int .u64 (lb 0 y)) (.int .u64 (lb 1 y)) (.int .u64 (lb 2 y)) (.int .u64 (lb 3 y)) := Row5.keep hb1_2 (by repeat (first | (with_reducible assumption) | (with_reducible refine Row5.alloc ?_ _) | (with_reducible refine Row5.drew ?_) | (with_reducible refine Row5.drewN ?_ _))); have DXf1_2 : DR wf1_2 s1 x := DR.keep hx1_2 hr1_1) | (go_at_call 89; (with_reducible refine (rcmp_of HC.out L1.out (DR.keep (by repeat (first | (with_reducible exact Below.refl _ _) | (with_reducible refine bal ?_ _) | (with_reducible refine Below.drew ?_) | (with_reducible refine bdn ?_ _))) DXf1_2) (DR.keep (by repeat (first | (with_reducible exact Below.refl _ _) | (with_reducible refine bal ?_ _) | (with_reducible refine Below.drew ?_) | (with_reducible refine bdn ?_ _))) hr1_2)).mono ?_); rintro e wf1_3 ⟨rfl, hb1_3⟩; have hx1_3 : Below wf1_2.heap.size wf1_2 wf1_3 := btr (by repeat (first | (with_reducible exact Below.refl _ _) | (with_reducible refine bal ?_ _) | (with_reducible refine Below.drew ?_) | (with_reducible refine bdn ?_ _))) hb1_3; have Xf3 : Row5 wf1_3 w.heap.size (.bool true) (.int .u64 (lb 0 x)) (.int .u64 (lb 1 x)) (.int .u64 (lb 2 x)) (.int .u64 (lb 3 x)) := Row5.keep hb1_3 (by repeat (first | (with_reducible assumption) | (with_reducible refine Row5.alloc ?_ _) | (with_reducible refine Row5.drew ?_) | (with_reducible refine Row5.drewN ?_ _))); have Yf3 : Row5 wf1_3 (w.heap.size + 1) (.bool true) (.int .u64 (lb 0 y)) (.int .u64 (lb 1 y)) (.int .u64 (lb 2 y)) (.int .u64 (lb 3 y)) := Row5.keep hb1_3 (by repeat (first | (with_reducible assumption) | (with_reducible refine Row5.alloc ?_ _) | (with_reducible refine Row5.drew ?_) | (with_reducible refine Row5.drewN ?_ _))); have DXf1_3 : DR wf1_3 s1 x := DR.keep hx1_3 DXf1_2; have DYf1_3 : DR wf1_3 s2 y := DR.keep hx1_3 hr1_2))
  have BW2 : Below w.heap.size w wf1_1 := btr (by repeat (first | (with_reducible exact BW1) | (with_reducible refine bal ?_ _) | (with_reducible refine Below.drew ?_) | (with_reducible refine bdn ?_ _))) hb1_1
  have X2 : Row5 wf1_1 w.heap.size (.bool true) (.int .u64 (lb 0 x)) (.int .u64 (lb 1 x)) (.int .u64 (lb 2 x)) (.int .u64 (lb 3 x)) := Row5.keep hb1_1 (by repeat (first | (with_reducible exact X1) | (with_reducible refine Row5.alloc ?_ _) | (with_reducible refine Row5.drew ?_)))
  have Y2 : Row5 wf1_1 (w.heap.size + 1) (.bool true) (.int .u64 (lb 0 y)) (.int .u64 (lb 1 y)) (.int .u64 (lb 2 y)) (.int .u64 (lb 3 y)) := Row5.keep hb1_1 (by repeat (first | (with_reducible exact Y1) | (with_reducible refine Row5.alloc ?_ _) | (with_reducible refine Row5.drew ?_)))
  clear X1 Y1 Xf1 Yf1 BW1
  have BW3 : Below w.heap.size w wf1_2 := btr (by repeat (first | (with_reducible exact BW2) | (with_reducible refine bal ?_ _) | (with_reducible refine Below.drew ?_) | (with_reducible refine bdn ?_ _))) hb1_2
  have X3 : Row5 wf1_2 w.heap.size (.bool true) (.int .u64 (lb 0 x)) (.int .u64 (lb 1 x)) (.int .u64 (lb 2 x)) (.int .u64 (lb 3 x)) := Row5.keep hb1_2 (by repeat (first | (with_reducible exact X2) | (with_reducible refine Row5.alloc ?_ _) | (with_reducible refine Row5.drew ?_)))
  have Y3 : Row5 wf1_2 (w.heap.size + 1) (.bool true) (.int .u64 (lb 0 y)) (.int .u64 (lb 1 y)) (.int .u64 (lb 2 y)) (.int .u64 (lb 3 y)) := Row5.keep hb1_2 (by repeat (first | (with_reducible exact Y2) | (with_reducible refine Row5.alloc ?_ _) | (with_reducible refine Row5.drew ?_)))
  clear X2 Y2 Xf2 Yf2 BW2
  have BW4 : Below w.heap.size w wf1_3 := btr (by repeat (first | (with_reducible exact BW3) | (with_reducible refine bal ?_ _) | (with_reducible refine Below.drew ?_) | (with_reducible refine bdn ?_ _))) hb1_3
  have X4 : Row5 wf1_3 w.heap.size (.bool true) (.int .u64 (lb 0 x)) (.int .u64 (lb 1 x)) (.int .u64 (lb 2 x)) (.int .u64 (lb 3 x)) := Row5.keep hb1_3 (by repeat (first | (with_reducible exact X3) | (with_reducible refine Row5.alloc ?_ _) | (with_reducible refine Row5.drew ?_)))
  have Y4 : Row5 wf1_3 (w.heap.size + 1) (.bool true) (.int .u64 (lb 0 y)) (.int .u64 (lb 1 y)) (.int .u64 (lb 2 y)) (.int .u64 (lb 3 y)) := Row5.keep hb1_3 (by repeat (first | (with_reducible exact Y3) | (with_reducible refine Row5.alloc ?_ _) | (with_reducible refine Row5.drew ?_)))
  clear X3 Y3 Xf3 Yf3 BW3
  have DX4 : DR wf1_3 s1 x := DXf1_3
  have DY4 : DR wf1_3 s2 y := DYf1_3
  clear hb1_1 hx1_1
  clear hb1_2 hx1_2
  clear hb1_3 hx1_3
  try clear DXf1_1
  try clear DYf1_1
  try clear DXf1_2
  try clear DYf1_2
  try clear DXf1_3
  try clear DYf1_3
  try clear hr1_1
  try clear hr1_2
  obtain ⟨Xc0, Xc1, Xc2, Xc3, Xc4⟩ := X4.parts
  obtain ⟨Xf0, Xf1, Xf2, Xf3, Xf4⟩ := X4.free
  go_wp2
  go_ret
  exact ⟨rfl, BW4⟩
set_option maxHeartbeats 2000000 in
set_option maxRecDepth 100000 in
theorem rstep_bad (g up : Bool) (x : Nat) (hx : x < 2 ^ 256) (w : World)
    (m1 : ∀ W, Calls Tryd.prog 29 #[I5 g x] W fun e w' => e = .returned (.bool false) ∧ Below W.heap.size W w') :
    Calls Tryd.prog 39 #[I5 g x, .bool up] w fun e w' => e = .returned (.tuple #[.agg #[.bool false, .int .u64 0, .int .u64 0, .int .u64 0, .int .u64 0], .bool false]) ∧ Below w.heap.size w w' := by
  unfold I5 at *
  have M1 := Lib.hid m1; have HX := Lib.hid hx; clear m1 hx
  go_enter Tryd.func39, Tryd.ntmps39
  go_wp2_with fail
  refine (M1.out _).mono ?_
  rintro e w1 ⟨rfl, hb⟩
  have BW1 : Below w.heap.size w w1 := btr (by repeat (first | (with_reducible exact Below.refl _ _) | (with_reducible refine bal ?_ _) | (with_reducible refine Below.drew ?_) | (with_reducible refine bdn ?_ _))) hb
  have X1 : Row5 w1 w.heap.size (.bool g) (.int .u64 (lb 0 x)) (.int .u64 (lb 1 x)) (.int .u64 (lb 2 x)) (.int .u64 (lb 3 x)) := Row5.keep hb (by repeat (first | (with_reducible exact Row5.new _ _ _ _ _ _) | ((with_reducible refine Row5.new' _ ?_ _ _ _ _ _); (simp; done)) | (with_reducible refine Row5.alloc ?_ _) | (with_reducible refine Row5.drew ?_)))
  have R1 : Row5 w1 (w.heap.size + 1) (.bool false) (.int .u64 0) (.int .u64 0) (.int .u64 0) (.int .u64 0) := Row5.keep hb (by repeat (first | (with_reducible exact Row5.new _ _ _ _ _ _) | ((with_reducible refine Row5.new' _ ?_ _ _ _ _ _); (simp; done)) | (with_reducible refine Row5.alloc ?_ _) | (with_reducible refine Row5.drew ?_)))
  clear hb
  obtain ⟨Rc0, Rc1, Rc2, Rc3, Rc4⟩ := R1.parts
  obtain ⟨Rf0, Rf1, Rf2, Rf3, Rf4⟩ := R1.free
  have lt_R := R1.lt
  go_wp2
  exact bodyPost_ret (v := .tuple #[.agg #[.bool false, .int .u64 0, .int .u64 0, .int .u64 0, .int .u64 0], .bool false]) (by simp [results, Tryd.results39, go_sem, Rc0, Rc1, Rc2, Rc3, Rc4]) rfl ⟨rfl, by repeat (first | (with_reducible exact BW1) | (with_reducible refine bal ?_ _) | (with_reducible refine Below.drew ?_) | (with_reducible refine bdn ?_ _) | ((with_reducible refine bsc ?_ ?_ _); rotate_left; (focus (simp only []; omega))))⟩
set_option maxHeartbeats 2000000 in
set_option maxRecDepth 100000 in
theorem rstep_zero (g up : Bool) (x : Nat) (hx : x < 2 ^ 256) (hz : (((digs x).length : Int) == 0) = true) (h : Bool) (y0 y1 y2 y3 : Int) (b : Bool) (kw : ∀ s' W, DR W s' 1 → Calls Tryd.prog 85 #[.bool (!up), s'] W fun e w' => e = .returned (.tuple #[.agg #[.bool h, .int .u64 y0, .int .u64 y1, .int .u64 y2, .int .u64 y3], .bool b]) ∧ Below W.heap.size W w') (w : World)
    (m1 : ∀ W, Calls Tryd.prog 29 #[I5 g x] W fun e w' => e = .returned (.bool true) ∧ Below W.heap.size W w') :
    Calls Tryd.prog 39 #[I5 g x, .bool up] w fun e w' => e = .returned (.tuple #[.agg #[.bool h, .int .u64 y0, .int .u64 y1, .int .u64 y2, .int .u64 y3], .bool b]) ∧ Below w.heap.size w w' := by
  unfold I5 at *
  have M1 := Lib.hid m1; have HX := Lib.hid hx; clear m1 hx
  have KW := Lib.hid kw; clear kw
  go_enter Tryd.func39, Tryd.ntmps39
  go_wp2_with fail
  refine (M1.out _).mono ?_
  rintro e w1 ⟨rfl, hb⟩
  have BW1 : Below w.heap.size w w1 := btr (by repeat (first | (with_reducible exact Below.refl _ _) | (with_reducible refine bal ?_ _) | (with_reducible refine Below.drew ?_) | (with_reducible refine bdn ?_ _))) hb
  have X1 : Row5 w1 w.heap.size (.bool g) (.int .u64 (lb 0 x)) (.int .u64 (lb 1 x)) (.int .u64 (lb 2 x)) (.int .u64 (lb 3 x)) := Row5.keep hb (by repeat (first | (with_reducible exact Row5.new _ _ _ _ _ _) | ((with_reducible refine Row5.new' _ ?_ _ _ _ _ _); (simp; done)) | (with_reducible refine Row5.alloc ?_ _) | (with_reducible refine Row5.drew ?_)))
  have R1 : Row5 w1 (w.heap.size + 1) (.bool false) (.int .u64 0) (.int .u64 0) (.int .u64 0) (.int .u64 0) := Row5.keep hb (by repeat (first | (with_reducible exact Row5.new _ _ _ _ _ _) | ((with_reducible refine Row5.new' _ ?_ _ _ _ _ _); (simp; done)) | (with_reducible refine Row5.alloc ?_ _) | (with_reducible refine Row5.drew ?_)))
  clear hb
  obtain ⟨Xc0, Xc1, Xc2, Xc3, Xc4⟩ := X1.parts
  obtain ⟨Xf0, Xf1, Xf2, Xf3, Xf4⟩ := X1.free
  go_wp2_with fail
  refine (rof x HX.out _).mono ?_
  rintro e w2 ⟨s1, rfl, hr, hb⟩
  have hbX : Below w1.heap.size w1 w2 := btr (by repeat (first | (with_reducible exact Below.refl _ _) | (with_reducible refine bal ?_ _) | (with_reducible refine Below.drew ?_) | (with_reducible refine bdn ?_ _))) hb
  clear hbX
  have DX2 : DR w2 s1 x := hr
  clear hr
  have BW2 : Below w.heap.size w w2 := btr (by repeat (first | (with_reducible exact BW1) | (with_reducible refine bal ?_ _) | (with_reducible refine Below.drew ?_) | (with_reducible refine bdn ?_ _))) hb
  have X2 : Row5 w2 w.heap.size (.bool g) (.int .u64 (lb 0 x)) (.int .u64 (lb 1 x)) (.int .u64 (lb 2 x)) (.int .u64 (lb 3 x)) := Row5.keep hb (by repeat (first | (with_reducible exact X1) | (with_reducible refine Row5.alloc ?_ _) | (with_reducible refine Row5.drew ?_)))
  have R2 : Row5 w2 (w.heap.size + 1) (.bool false) (.int .u64 0) (.int .u64 0) (.int .u64 0) (.int .u64 0) := Row5.keep hb (by repeat (first | (with_reducible exact R1) | (with_reducible refine Row5.alloc ?_ _) | (with_reducible refine Row5.drew ?_)))
  clear X1 R1
  clear BW1
  clear hb
  obtain ⟨A9, c9, rfl, _⟩ := DX2.form
  go_wp2_with fail
  refine (KW.out _ _ (DR.keep (by repeat (first | (with_reducible exact Below.refl _ _) | (with_reducible refine bal ?_ _) | (with_reducible refine Below.drew ?_) | (with_reducible refine bdn ?_ _))) (ten_new w2 1 (by decide) (by decide) 1 rfl))).mono ?_
  rintro e w3 ⟨rfl, hb⟩
  have hbX : Below w2.heap.size w2 w3 := btr (by repeat (first | (with_reducible exact Below.refl _ _) | (with_reducible refine bal ?_ _) | (with_reducible refine Below.drew ?_) | (with_reducible refine bdn ?_ _))) hb
  have DX3 : DR w3 (.slice A9 (digs x).length c9) x := DR.keep hbX DX2
  clear DX2
  clear hbX
  have BW3 : Below w.heap.size w w3 := btr (by repeat (first | (with_reducible exact BW2) | (with_reducible refine bal ?_ _) | (with_reducible refine Below.drew ?_) | (with_reducible refine bdn ?_ _))) hb
  have X3 : Row5 w3 w.heap.size (.bool g) (.int .u64 (lb 0 x)) (.int .u64 (lb 1 x)) (.int .u64 (lb 2 x)) (.int .u64 (lb 3 x)) := Row5.keep hb (by repeat (first | (with_reducible exact X2) | (with_reducible refine Row5.alloc ?_ _) | (with_reducible refine Row5.drew ?_)))
  have R3 : Row5 w3 (w.heap.size + 1) (.bool false) (.int .u64 0) (.int .u64 0) (.int .u64 0) (.int .u64 0) := Row5.keep hb (by repeat (first | (with_reducible exact R2) | (with_reducible refine Row5.alloc ?_ _) | (with_reducible refine Row5.drew ?_)))
  clear X2 R2
  clear BW2
  clear hb
  obtain ⟨Rc0, Rc1, Rc2, Rc3, Rc4⟩ := R3.parts
  obtain ⟨Rf0, Rf1, Rf2, Rf3, Rf4⟩ := R3.free
  have lt_R := R3.lt
  go_wp2
  exact bodyPost_ret (v := .tuple #[.agg #[.bool h, .int .u64 y0, .int .u64 y1, .int .u64 y2, .int .u64 y3], .bool b]) (by simp [results, Tryd.results39, go_sem, Rc0, Rc1, Rc2, Rc3, Rc4]) rfl ⟨rfl, by repeat (first | (with_reducible exact BW3) | (with_reducible refine bal ?_ _) | (with_reducible refine Below.drew ?_) | (with_reducible refine bdn ?_ _) | ((with_reducible refine bsc ?_ ?_ _); rotate_left; (focus (simp only []; omega))))⟩
set_option maxHeartbeats 2000000 in
set_option maxRecDepth 100000 in
theorem rstep_grow_false (x : Nat) (hx : x < 2 ^ 256) (hz : (((digs x).length : Int) == 0) = false) (h : Bool) (y0 y1 y2 y3 : Int) (b : Bool) (kw : ∀ s' W, DR W s' (x + 1) → Calls Tryd.prog 85 #[.bool false, s'] W fun e w' => e = .returned (.tuple #[.agg #[.bool h, .int .u64 y0, .int .u64 y1, .int .u64 y2, .int .u64 y3], .bool b]) ∧ Below W.heap.size W w') (w : World)
    (m1 : ∀ W, Calls Tryd.prog 29 #[I5 false x] W fun e w' => e = .returned (.bool true) ∧ Below W.heap.size W w') :
    Calls Tryd.prog 39 #[I5 false x, .bool true] w fun e w' => e = .returned (.tuple #[.agg #[.bool h, .int .u64 y0, .int .u64 y1, .int .u64 y2, .int .u64 y3], .bool b]) ∧ Below w.heap.size w w' := by
  unfold I5 at *
  have M1 := Lib.hid m1; have HX := Lib.hid hx; clear m1 hx
  have KW := Lib.hid kw; clear kw
  have L1 := Lib.hid (digs_of_eight HX.out)
  have L2 := Lib.hid (digs_of_eight (show 1 < 2 ^ 256 by decide))
  go_enter Tryd.func39, Tryd.ntmps39
  go_wp2_with fail
  refine (M1.out _).mono ?_
  rintro e w1 ⟨rfl, hb⟩
  have BW1 : Below w.heap.size w w1 := btr (by repeat (first | (with_reducible exact Below.refl _ _) | (with_reducible refine bal ?_ _) | (with_reducible refine Below.drew ?_) | (with_reducible refine bdn ?_ _))) hb
  have X1 : Row5 w1 w.heap.size (.bool false) (.int .u64 (lb 0 x)) (.int .u64 (lb 1 x)) (.int .u64 (lb 2 x)) (.int .u64 (lb 3 x)) := Row5.keep hb (by repeat (first | (with_reducible exact Row5.new _ _ _ _ _ _) | ((with_reducible refine Row5.new' _ ?_ _ _ _ _ _); (simp; done)) | (with_reducible refine Row5.alloc ?_ _) | (with_reducible refine Row5.drew ?_)))
  have R1 : Row5 w1 (w.heap.size + 1) (.bool false) (.int .u64 0) (.int .u64 0) (.int .u64 0) (.int .u64 0) := Row5.keep hb (by repeat (first | (with_reducible exact Row5.new _ _ _ _ _ _) | ((with_reducible refine Row5.new' _ ?_ _ _ _ _ _); (simp; done)) | (with_reducible refine Row5.alloc ?_ _) | (with_reducible refine Row5.drew ?_)))
  clear hb
  obtain ⟨Xc0, Xc1, Xc2, Xc3, Xc4⟩ := X1.parts
  obtain ⟨Xf0, Xf1, Xf2, Xf3, Xf4⟩ := X1.free
  go_wp2_with fail
  refine (rof x HX.out _).mono ?_
  rintro e w2 ⟨s1, rfl, hr, hb⟩
  have hbX : Below w1.heap.size w1 w2 := btr (by repeat (first | (with_reducible exact Below.refl _ _) | (with_reducible refine bal ?_ _) | (with_reducible refine Below.drew ?_) | (with_reducible refine bdn ?_ _))) hb
  clear hbX
  have DX2 : DR w2 s1 x := hr
  clear hr
  have BW2 : Below w.heap.size w w2 := btr (by repeat (first | (with_reducible exact BW1) | (with_reducible refine bal ?_ _) | (with_reducible refine Below.drew ?_) | (with_reducible refine bdn ?_ _))) hb
  have X2 : Row5 w2 w.heap.size (.bool false) (.int .u64 (lb 0 x)) (.int .u64 (lb 1 x)) (.int .u64 (lb 2 x)) (.int .u64 (lb 3 x)) := Row5.keep hb (by repeat (first | (with_reducible exact X1) | (with_reducible refine Row5.alloc ?_ _) | (with_reducible refine Row5.drew ?_)))
  have R2 : Row5 w2 (w.heap.size + 1) (.bool false) (.int .u64 0) (.int .u64 0) (.int .u64 0) (.int .u64 0) := Row5.keep hb (by repeat (first | (with_reducible exact R1) | (with_reducible refine Row5.alloc ?_ _) | (with_reducible refine Row5.drew ?_)))
  clear X1 R1
  clear BW1
  clear hb
  obtain ⟨A9, c9, rfl, _⟩ := DX2.form
  obtain ⟨Xc0, Xc1, Xc2, Xc3, Xc4⟩ := X2.parts
  obtain ⟨Xf0, Xf1, Xf2, Xf3, Xf4⟩ := X2.free
  go_upto_region 7 with (fail)
  go_name_world w3 hw3
  have BW3 : Below w.heap.size w w3 := by rw [← hw3]; repeat (first | (with_reducible exact BW2) | (with_reducible refine bal ?_ _) | (with_reducible refine Below.drew ?_) | (with_reducible refine bdn ?_ _))
  have hbX : Below w2.heap.size w2 w3 := by rw [← hw3]; repeat (first | (with_reducible exact Below.refl _ _) | (with_reducible refine bal ?_ _) | (with_reducible refine Below.drew ?_) | (with_reducible refine bdn ?_ _))
  have DX3 : DR w3 (.slice A9 (digs x).length c9) x := DR.keep hbX DX2
  clear hbX DX2
  have X3 : Row5 w3 w.heap.size (.bool false) (.int .u64 (lb 0 x)) (.int .u64 (lb 1 x)) (.int .u64 (lb 2 x)) (.int .u64 (lb 3 x)) := by rw [← hw3]; exact (by repeat (first | (with_reducible exact X2) | (with_reducible refine Row5.alloc ?_ _) | (with_reducible refine Row5.drew ?_)))
  have R3 : Row5 w3 (w.heap.size + 1) (.bool false) (.int .u64 0) (.int .u64 0) (.int .u64 0) (.int .u64 0) := by rw [← hw3]; exact (by repeat (first | (with_reducible exact R2) | (with_reducible refine Row5.alloc ?_ _) | (with_reducible refine Row5.drew ?_)))
  clear X2 R2
  clear BW2
  clear hw3
  have lt_X := X3.lt
  have lt_R := R3.lt
  obtain ⟨Xc0, Xc1, Xc2, Xc3, Xc4⟩ := X3.parts
  obtain ⟨Xf0, Xf1, Xf2, Xf3, Xf4⟩ := X3.free
  go_region_held3 (fun w' => w'.cell? ⟨w.heap.size, 0, none⟩ = some (.bool false) ∧ w'.cell? ⟨w.heap.size, 1, none⟩ = some (.int .u64 (lb 0 x)) ∧ w'.cell? ⟨w.heap.size, 2, none⟩ = some (.int .u64 (lb 1 x)) ∧ w'.cell? ⟨w.heap.size, 3, none⟩ = some (.int .u64 (lb 2 x)) ∧ w'.cell? ⟨w.heap.size, 4, none⟩ = some (.int .u64 (lb 3 x)))
    ((refine Row5.parts ?_; (repeat (first | (with_reducible assumption) | (with_reducible refine Row5.alloc ?_ _) | (with_reducible refine Row5.drew ?_) | (with_reducible refine Row5.drewN ?_ _) | ((with_reducible refine Row5.set ?_ ?_ _); rotate_left; (focus (omega))))); done))
    (first | (go_at_call 86; (with_reducible refine (radd (DR.keep (by repeat (first | (with_reducible exact Below.refl _ _) | (with_reducible refine bal ?_ _) | (with_reducible refine Below.drew ?_) | (with_reducible refine bdn ?_ _))) DX3) (DR.keep (by repeat (first | (with_reducible exact Below.refl _ _) | (with_reducible refine bal ?_ _) | (with_reducible refine Below.drew ?_) | (with_reducible refine bdn ?_ _))) (ten_new w3 1 (by decide) (by decide) 1 rfl)) L1.out L2.out).mono ?_); rintro e wa ⟨sa, rfl, hra, hba⟩; have ba : Below w.heap.size w wa := btr (by repeat (first | (with_reducible exact BW3) | (with_reducible refine bal ?_ _) | (with_reducible refine Below.drew ?_) | (with_reducible refine bdn ?_ _))) hba; have Xa : Row5 wa w.heap.size (.bool false) (.int .u64 (lb 0 x)) (.int .u64 (lb 1 x)) (.int .u64 (lb 2 x)) (.int .u64 (lb 3 x)) := Row5.keep hba (by repeat (first | (with_reducible exact X3) | (with_reducible refine Row5.alloc ?_ _) | (with_reducible refine Row5.drew ?_) | (with_reducible refine Row5.drewN ?_ _))); have Ra : Row5 wa (w.heap.size + 1) (.bool false) (.int .u64 0) (.int .u64 0) (.int .u64 0) (.int .u64 0) := Row5.keep hba (by repeat (first | (with_reducible exact R3) | (with_reducible refine Row5.alloc ?_ _) | (with_reducible refine Row5.drew ?_) | (with_reducible refine Row5.drewN ?_ _))); obtain ⟨xa0, xa1, xa2, xa3, xa4⟩ := Xa.parts) | (go_at_call 85; (with_reducible refine (KW.out _ _ (DR.keep (by repeat (first | (with_reducible exact Below.refl _ _) | (with_reducible refine bal ?_ _) | (with_reducible refine Below.drew ?_) | (with_reducible refine bdn ?_ _))) hra)).mono ?_); rintro e wb ⟨rfl, hbb⟩; have bb : Below w.heap.size w wb := btr (by repeat (first | (with_reducible exact ba) | (with_reducible refine bal ?_ _) | (with_reducible refine Below.drew ?_) | (with_reducible refine bdn ?_ _))) hbb; have Rb : Row5 wb (w.heap.size + 1) (.bool false) (.int .u64 0) (.int .u64 0) (.int .u64 0) (.int .u64 0) := Row5.keep hbb (by repeat (first | (with_reducible exact Ra) | (with_reducible refine Row5.alloc ?_ _) | (with_reducible refine Row5.drew ?_) | (with_reducible refine Row5.drewN ?_ _))); have Xb : Row5 wb w.heap.size (.bool false) (.int .u64 (lb 0 x)) (.int .u64 (lb 1 x)) (.int .u64 (lb 2 x)) (.int .u64 (lb 3 x)) := Row5.keep hbb (by repeat (first | (with_reducible exact Xa) | (with_reducible refine Row5.alloc ?_ _) | (with_reducible refine Row5.drew ?_) | (with_reducible refine Row5.drewN ?_ _))); obtain ⟨rb0, rb1, rb2, rb3, rb4⟩ := Rb.parts; obtain ⟨rg0, rg1, rg2, rg3, rg4⟩ := Rb.free; have ltb := Rb.lt; have ltc := Xb.lt; have nbx : ¬ w.heap.size + 1 = w.heap.size := by omega))
  all_goals
    go_wp2
    exact bodyPost_ret (v := .tuple #[.agg #[.bool h, .int .u64 y0, .int .u64 y1, .int .u64 y2, .int .u64 y3], .bool b]) (by simp [results, Tryd.results39, go_sem, rb0, rb1, rb2, rb3, rb4]) rfl ⟨rfl, by repeat (first | (with_reducible exact bb) | (with_reducible refine bal ?_ _) | (with_reducible refine Below.drew ?_) | (with_reducible refine bdn ?_ _) | ((with_reducible refine bsc ?_ ?_ _); rotate_left; (focus (simp only []; omega))))⟩
set_option maxHeartbeats 2000000 in
set_option maxRecDepth 100000 in
theorem rstep_grow_true (x : Nat) (hx : x < 2 ^ 256) (hz : (((digs x).length : Int) == 0) = false) (h : Bool) (y0 y1 y2 y3 : Int) (b : Bool) (kw : ∀ s' W, DR W s' (x + 1) → Calls Tryd.prog 85 #[.bool true, s'] W fun e w' => e = .returned (.tuple #[.agg #[.bool h, .int .u64 y0, .int .u64 y1, .int .u64 y2, .int .u64 y3], .bool b]) ∧ Below W.heap.size W w') (w : World)
    (m1 : ∀ W, Calls Tryd.prog 29 #[I5 true x] W fun e w' => e = .returned (.bool true) ∧ Below W.heap.size W w') :
    Calls Tryd.prog 39 #[I5 true x, .bool false] w fun e w' => e = .returned (.tuple #[.agg #[.bool h, .int .u64 y0, .int .u64 y1, .int .u64 y2, .int .u64 y3], .bool b]) ∧ Below w.heap.size w w' := by
  unfold I5 at *
  have M1 := Lib.hid m1; have HX := Lib.hid hx; clear m1 hx
  have KW := Lib.hid kw; clear kw
  have L1 := Lib.hid (digs_of_eight HX.out)
  have L2 := Lib.hid (digs_of_eight (show 1 < 2 ^ 256 by decide))
  go_enter Tryd.func39, Tryd.ntmps39
  go_wp2_with fail
  refine (M1.out _).mono ?_
  rintro e w1 ⟨rfl, hb⟩
  have BW1 : Below w.heap.size w w1 := btr (by repeat (first | (with_reducible exact Below.refl _ _) | (with_reducible refine bal ?_ _) | (with_reducible refine Below.drew ?_) | (with_reducible refine bdn ?_ _))) hb
  have X1 : Row5 w1 w.heap.size (.bool true) (.int .u64 (lb 0 x)) (.int .u64 (lb 1 x)) (.int .u64 (lb 2 x)) (.int .u64 (lb 3 x)) := Row5.keep hb (by repeat (first | (with_reducible exact Row5.new _ _ _ _ _ _) | ((with_reducible refine Row5.new' _ ?_ _ _ _ _ _); (simp; done)) | (with_reducible refine Row5.alloc ?_ _) | (with_reducible refine Row5.drew ?_)))
  have R1 : Row5 w1 (w.heap.size + 1) (.bool false) (.int .u64 0) (.int .u64 0) (.int .u64 0) (.int .u64 0) := Row5.keep hb (by repeat (first | (with_reducible exact Row5.new _ _ _ _ _ _) | ((with_reducible refine Row5.new' _ ?_ _ _ _ _ _); (simp; done)) | (with_reducible refine Row5.alloc ?_ _) | (with_reducible refine Row5.drew ?_)))
  clear hb
  obtain ⟨Xc0, Xc1, Xc2, Xc3, Xc4⟩ := X1.parts
  obtain ⟨Xf0, Xf1, Xf2, Xf3, Xf4⟩ := X1.free
  go_wp2_with fail
  refine (rof x HX.out _).mono ?_
  rintro e w2 ⟨s1, rfl, hr, hb⟩
  have hbX : Below w1.heap.size w1 w2 := btr (by repeat (first | (with_reducible exact Below.refl _ _) | (with_reducible refine bal ?_ _) | (with_reducible refine Below.drew ?_) | (with_reducible refine bdn ?_ _))) hb
  clear hbX
  have DX2 : DR w2 s1 x := hr
  clear hr
  have BW2 : Below w.heap.size w w2 := btr (by repeat (first | (with_reducible exact BW1) | (with_reducible refine bal ?_ _) | (with_reducible refine Below.drew ?_) | (with_reducible refine bdn ?_ _))) hb
  have X2 : Row5 w2 w.heap.size (.bool true) (.int .u64 (lb 0 x)) (.int .u64 (lb 1 x)) (.int .u64 (lb 2 x)) (.int .u64 (lb 3 x)) := Row5.keep hb (by repeat (first | (with_reducible exact X1) | (with_reducible refine Row5.alloc ?_ _) | (with_reducible refine Row5.drew ?_)))
  have R2 : Row5 w2 (w.heap.size + 1) (.bool false) (.int .u64 0) (.int .u64 0) (.int .u64 0) (.int .u64 0) := Row5.keep hb (by repeat (first | (with_reducible exact R1) | (with_reducible refine Row5.alloc ?_ _) | (with_reducible refine Row5.drew ?_)))
  clear X1 R1
  clear BW1
  clear hb
  obtain ⟨A9, c9, rfl, _⟩ := DX2.form
  obtain ⟨Xc0, Xc1, Xc2, Xc3, Xc4⟩ := X2.parts
  obtain ⟨Xf0, Xf1, Xf2, Xf3, Xf4⟩ := X2.free
  go_upto_region 7 with (fail)
  go_name_world w3 hw3
  have BW3 : Below w.heap.size w w3 := by rw [← hw3]; repeat (first | (with_reducible exact BW2) | (with_reducible refine bal ?_ _) | (with_reducible refine Below.drew ?_) | (with_reducible refine bdn ?_ _))
  have hbX : Below w2.heap.size w2 w3 := by rw [← hw3]; repeat (first | (with_reducible exact Below.refl _ _) | (with_reducible refine bal ?_ _) | (with_reducible refine Below.drew ?_) | (with_reducible refine bdn ?_ _))
  have DX3 : DR w3 (.slice A9 (digs x).length c9) x := DR.keep hbX DX2
  clear hbX DX2
  have X3 : Row5 w3 w.heap.size (.bool true) (.int .u64 (lb 0 x)) (.int .u64 (lb 1 x)) (.int .u64 (lb 2 x)) (.int .u64 (lb 3 x)) := by rw [← hw3]; exact (by repeat (first | (with_reducible exact X2) | (with_reducible refine Row5.alloc ?_ _) | (with_reducible refine Row5.drew ?_)))
  have R3 : Row5 w3 (w.heap.size + 1) (.bool false) (.int .u64 0) (.int .u64 0) (.int .u64 0) (.int .u64 0) := by rw [← hw3]; exact (by repeat (first | (with_reducible exact R2) | (with_reducible refine Row5.alloc ?_ _) | (with_reducible refine Row5.drew ?_)))
  clear X2 R2
  clear BW2
  clear hw3
  have lt_X := X3.lt
  have lt_R := R3.lt
  obtain ⟨Xc0, Xc1, Xc2, Xc3, Xc4⟩ := X3.parts
  obtain ⟨Xf0, Xf1, Xf2, Xf3, Xf4⟩ := X3.free
  go_region_held3 (fun w' => w'.cell? ⟨w.heap.size, 0, none⟩ = some (.bool true) ∧ w'.cell? ⟨w.heap.size, 1, none⟩ = some (.int .u64 (lb 0 x)) ∧ w'.cell? ⟨w.heap.size, 2, none⟩ = some (.int .u64 (lb 1 x)) ∧ w'.cell? ⟨w.heap.size, 3, none⟩ = some (.int .u64 (lb 2 x)) ∧ w'.cell? ⟨w.heap.size, 4, none⟩ = some (.int .u64 (lb 3 x)))
    ((refine Row5.parts ?_; (repeat (first | (with_reducible assumption) | (with_reducible refine Row5.alloc ?_ _) | (with_reducible refine Row5.drew ?_) | (with_reducible refine Row5.drewN ?_ _) | ((with_reducible refine Row5.set ?_ ?_ _); rotate_left; (focus (omega))))); done))
    (first | (go_at_call 86; (with_reducible refine (radd (DR.keep (by repeat (first | (with_reducible exact Below.refl _ _) | (with_reducible refine bal ?_ _) | (with_reducible refine Below.drew ?_) | (with_reducible refine bdn ?_ _))) DX3) (DR.keep (by repeat (first | (with_reducible exact Below.refl _ _) | (with_reducible refine bal ?_ _) | (with_reducible refine Below.drew ?_) | (with_reducible refine bdn ?_ _))) (ten_new w3 1 (by decide) (by decide) 1 rfl)) L1.out L2.out).mono ?_); rintro e wa ⟨sa, rfl, hra, hba⟩; have ba : Below w.heap.size w wa := btr (by repeat (first | (with_reducible exact BW3) | (with_reducible refine bal ?_ _) | (with_reducible refine Below.drew ?_) | (with_reducible refine bdn ?_ _))) hba; have Xa : Row5 wa w.heap.size (.bool true) (.int .u64 (lb 0 x)) (.int .u64 (lb 1 x)) (.int .u64 (lb 2 x)) (.int .u64 (lb 3 x)) := Row5.keep hba (by repeat (first | (with_reducible exact X3) | (with_reducible refine Row5.alloc ?_ _) | (with_reducible refine Row5.drew ?_) | (with_reducible refine Row5.drewN ?_ _))); have Ra : Row5 wa (w.heap.size + 1) (.bool false) (.int .u64 0) (.int .u64 0) (.int .u64 0) (.int .u64 0) := Row5.keep hba (by repeat (first | (with_reducible exact R3) | (with_reducible refine Row5.alloc ?_ _) | (with_reducible refine Row5.drew ?_) | (with_reducible refine Row5.drewN ?_ _))); obtain ⟨xa0, xa1, xa2, xa3, xa4⟩ := Xa.parts) | (go_at_call 85; (with_reducible refine (KW.out _ _ (DR.keep (by repeat (first | (with_reducible exact Below.refl _ _) | (with_reducible refine bal ?_ _) | (with_reducible refine Below.drew ?_) | (with_reducible refine bdn ?_ _))) hra)).mono ?_); rintro e wb ⟨rfl, hbb⟩; have bb : Below w.heap.size w wb := btr (by repeat (first | (with_reducible exact ba) | (with_reducible refine bal ?_ _) | (with_reducible refine Below.drew ?_) | (with_reducible refine bdn ?_ _))) hbb; have Rb : Row5 wb (w.heap.size + 1) (.bool false) (.int .u64 0) (.int .u64 0) (.int .u64 0) (.int .u64 0) := Row5.keep hbb (by repeat (first | (with_reducible exact Ra) | (with_reducible refine Row5.alloc ?_ _) | (with_reducible refine Row5.drew ?_) | (with_reducible refine Row5.drewN ?_ _))); have Xb : Row5 wb w.heap.size (.bool true) (.int .u64 (lb 0 x)) (.int .u64 (lb 1 x)) (.int .u64 (lb 2 x)) (.int .u64 (lb 3 x)) := Row5.keep hbb (by repeat (first | (with_reducible exact Xa) | (with_reducible refine Row5.alloc ?_ _) | (with_reducible refine Row5.drew ?_) | (with_reducible refine Row5.drewN ?_ _))); obtain ⟨rb0, rb1, rb2, rb3, rb4⟩ := Rb.parts; obtain ⟨rg0, rg1, rg2, rg3, rg4⟩ := Rb.free; have ltb := Rb.lt; have ltc := Xb.lt; have nbx : ¬ w.heap.size + 1 = w.heap.size := by omega))
  all_goals
    go_wp2
    exact bodyPost_ret (v := .tuple #[.agg #[.bool h, .int .u64 y0, .int .u64 y1, .int .u64 y2, .int .u64 y3], .bool b]) (by simp [results, Tryd.results39, go_sem, rb0, rb1, rb2, rb3, rb4]) rfl ⟨rfl, by repeat (first | (with_reducible exact bb) | (with_reducible refine bal ?_ _) | (with_reducible refine Below.drew ?_) | (with_reducible refine bdn ?_ _) | ((with_reducible refine bsc ?_ ?_ _); rotate_left; (focus (simp only []; omega))))⟩
set_option maxHeartbeats 2000000 in
set_option maxRecDepth 100000 in
theorem rstep_less_true (x : Nat) (hx : x < 2 ^ 256) (hz : (((digs x).length : Int) == 0) = false) (hle : 1 ≤ x) (h : Bool) (y0 y1 y2 y3 : Int) (b : Bool) (kw : ∀ s' W, DR W s' (x - 1) → Calls Tryd.prog 85 #[.bool true, s'] W fun e w' => e = .returned (.tuple #[.agg #[.bool h, .int .u64 y0, .int .u64 y1, .int .u64 y2, .int .u64 y3], .bool b]) ∧ Below W.heap.size W w') (w : World)
    (m1 : ∀ W, Calls Tryd.prog 29 #[I5 true x] W fun e w' => e = .returned (.bool true) ∧ Below W.heap.size W w') :
    Calls Tryd.prog 39 #[I5 true x, .bool true] w fun e w' => e = .returned (.tuple #[.agg #[.bool h, .int .u64 y0, .int .u64 y1, .int .u64 y2, .int .u64 y3], .bool b]) ∧ Below w.heap.size w w' := by
  unfold I5 at *
  have M1 := Lib.hid m1; have HX := Lib.hid hx; clear m1 hx
  have KW := Lib.hid kw; clear kw
  have L1 := Lib.hid (digs_of_eight HX.out)
  have L2 := Lib.hid (digs_of_eight (show 1 < 2 ^ 256 by decide))
  go_enter Tryd.func39, Tryd.ntmps39
  go_wp2_with fail
  refine (M1.out _).mono ?_
  rintro e w1 ⟨rfl, hb⟩
  have BW1 : Below w.heap.size w w1 := btr (by repeat (first | (with_reducible exact Below.refl _ _) | (with_reducible refine bal ?_ _) | (with_reducible refine Below.drew ?_) | (with_reducible refine bdn ?_ _))) hb
  have X1 : Row5 w1 w.heap.size (.bool true) (.int .u64 (lb 0 x)) (.int .u64 (lb 1 x)) (.int .u64 (lb 2 x)) (.int .u64 (lb 3 x)) := Row5.keep hb (by repeat (first | (with_reducible exact Row5.new _ _ _ _ _ _) | ((with_reducible refine Row5.new' _ ?_ _ _ _ _ _); (simp; done)) | (with_reducible refine Row5.alloc ?_ _) | (with_reducible refine Row5.drew ?_)))
  have R1 : Row5 w1 (w.heap.size + 1) (.bool false) (.int .u64 0) (.int .u64 0) (.int .u64 0) (.int .u64 0) := Row5.keep hb (by repeat (first | (with_reducible exact Row5.new _ _ _ _ _ _) | ((with_reducible refine Row5.new' _ ?_ _ _ _ _ _); (simp; done)) | (with_reducible refine Row5.alloc ?_ _) | (with_reducible refine Row5.drew ?_)))
  clear hb
  obtain ⟨Xc0, Xc1, Xc2, Xc3, Xc4⟩ := X1.parts
  obtain ⟨Xf0, Xf1, Xf2, Xf3, Xf4⟩ := X1.free
  go_wp2_with fail
  refine (rof x HX.out _).mono ?_
  rintro e w2 ⟨s1, rfl, hr, hb⟩
  have hbX : Below w1.heap.size w1 w2 := btr (by repeat (first | (with_reducible exact Below.refl _ _) | (with_reducible refine bal ?_ _) | (with_reducible refine Below.drew ?_) | (with_reducible refine bdn ?_ _))) hb
  clear hbX
  have DX2 : DR w2 s1 x := hr
  clear hr
  have BW2 : Below w.heap.size w w2 := btr (by repeat (first | (with_reducible exact BW1) | (with_reducible refine bal ?_ _) | (with_reducible refine Below.drew ?_) | (with_reducible refine bdn ?_ _))) hb
  have X2 : Row5 w2 w.heap.size (.bool true) (.int .u64 (lb 0 x)) (.int .u64 (lb 1 x)) (.int .u64 (lb 2 x)) (.int .u64 (lb 3 x)) := Row5.keep hb (by repeat (first | (with_reducible exact X1) | (with_reducible refine Row5.alloc ?_ _) | (with_reducible refine Row5.drew ?_)))
  have R2 : Row5 w2 (w.heap.size + 1) (.bool false) (.int .u64 0) (.int .u64 0) (.int .u64 0) (.int .u64 0) := Row5.keep hb (by repeat (first | (with_reducible exact R1) | (with_reducible refine Row5.alloc ?_ _) | (with_reducible refine Row5.drew ?_)))
  clear X1 R1
  clear BW1
  clear hb
  obtain ⟨A9, c9, rfl, _⟩ := DX2.form
  obtain ⟨Xc0, Xc1, Xc2, Xc3, Xc4⟩ := X2.parts
  obtain ⟨Xf0, Xf1, Xf2, Xf3, Xf4⟩ := X2.free
  go_upto_region 8 with (fail)
  go_name_world w3 hw3
  have BW3 : Below w.heap.size w w3 := by rw [← hw3]; repeat (first | (with_reducible exact BW2) | (with_reducible refine bal ?_ _) | (with_reducible refine Below.drew ?_) | (with_reducible refine bdn ?_ _))
  have hbX : Below w2.heap.size w2 w3 := by rw [← hw3]; repeat (first | (with_reducible exact Below.refl _ _) | (with_reducible refine bal ?_ _) | (with_reducible refine Below.drew ?_) | (with_reducible refine bdn ?_ _))
  have DX3 : DR w3 (.slice A9 (digs x).length c9) x := DR.keep hbX DX2
  clear hbX DX2
  have X3 : Row5 w3 w.heap.size (.bool true) (.int .u64 (lb 0 x)) (.int .u64 (lb 1 x)) (.int .u64 (lb 2 x)) (.int .u64 (lb 3 x)) := by rw [← hw3]; exact (by repeat (first | (with_reducible exact X2) | (with_reducible refine Row5.alloc ?_ _) | (with_reducible refine Row5.drew ?_)))
  have R3 : Row5 w3 (w.heap.size + 1) (.bool false) (.int .u64 0) (.int .u64 0) (.int .u64 0) (.int .u64 0) := by rw [← hw3]; exact (by repeat (first | (with_reducible exact R2) | (with_reducible refine Row5.alloc ?_ _) | (with_reducible refine Row5.drew ?_)))
  clear X2 R2
  clear BW2
  clear hw3
  have lt_X := X3.lt
  have lt_R := R3.lt
  obtain ⟨Xc0, Xc1, Xc2, Xc3, Xc4⟩ := X3.parts
  obtain ⟨Xf0, Xf1, Xf2, Xf3, Xf4⟩ := X3.free
  go_region_held3 (fun w' => w'.cell? ⟨w.heap.size, 0, none⟩ = some (.bool true) ∧ w'.cell? ⟨w.heap.size, 1, none⟩ = some (.int .u64 (lb 0 x)) ∧ w'.cell? ⟨w.heap.size, 2, none⟩ = some (.int .u64 (lb 1 x)) ∧ w'.cell? ⟨w.heap.size, 3, none⟩ = some (.int .u64 (lb 2 x)) ∧ w'.cell? ⟨w.heap.size, 4, none⟩ = some (.int .u64 (lb 3 x)))
    ((refine Row5.parts ?_; (repeat (first | (with_reducible assumption) | (with_reducible refine Row5.alloc ?_ _) | (with_reducible refine Row5.drew ?_) | (with_reducible refine Row5.drewN ?_ _) | ((with_reducible refine Row5.set ?_ ?_ _); rotate_left; (focus (omega))))); done))
    (first | (go_at_call 87; (with_reducible refine (rsub (DR.keep (by repeat (first | (with_reducible exact Below.refl _ _) | (with_reducible refine bal ?_ _) | (with_reducible refine Below.drew ?_) | (with_reducible refine bdn ?_ _))) DX3) (DR.keep (by repeat (first | (with_reducible exact Below.refl _ _) | (with_reducible refine bal ?_ _) | (with_reducible refine Below.drew ?_) | (with_reducible refine bdn ?_ _))) (ten_new w3 1 (by decide) (by decide) 1 rfl)) L1.out hle).mono ?_); rintro e wa ⟨sa, rfl, hra, hba⟩; have ba : Below w.heap.size w wa := btr (by repeat (first | (with_reducible exact BW3) | (with_reducible refine bal ?_ _) | (with_reducible refine Below.drew ?_) | (with_reducible refine bdn ?_ _))) hba; have Xa : Row5 wa w.heap.size (.bool true) (.int .u64 (lb 0 x)) (.int .u64 (lb 1 x)) (.int .u64 (lb 2 x)) (.int .u64 (lb 3 x)) := Row5.keep hba (by repeat (first | (with_reducible exact X3) | (with_reducible refine Row5.alloc ?_ _) | (with_reducible refine Row5.drew ?_) | (with_reducible refine Row5.drewN ?_ _))); have Ra : Row5 wa (w.heap.size + 1) (.bool false) (.int .u64 0) (.int .u64 0) (.int .u64 0) (.int .u64 0) := Row5.keep hba (by repeat (first | (with_reducible exact R3) | (with_reducible refine Row5.alloc ?_ _) | (with_reducible refine Row5.drew ?_) | (with_reducible refine Row5.drewN ?_ _))); obtain ⟨xa0, xa1, xa2, xa3, xa4⟩ := Xa.parts) | (go_at_call 85; (with_reducible refine (KW.out _ _ (DR.keep (by repeat (first | (with_reducible exact Below.refl _ _) | (with_reducible refine bal ?_ _) | (with_reducible refine Below.drew ?_) | (with_reducible refine bdn ?_ _))) hra)).mono ?_); rintro e wb ⟨rfl, hbb⟩; have bb : Below w.heap.size w wb := btr (by repeat (first | (with_reducible exact ba) | (with_reducible refine bal ?_ _) | (with_reducible refine Below.drew ?_) | (with_reducible refine bdn ?_ _))) hbb; have Rb : Row5 wb (w.heap.size + 1) (.bool false) (.int .u64 0) (.int .u64 0) (.int .u64 0) (.int .u64 0) := Row5.keep hbb (by repeat (first | (with_reducible exact Ra) | (with_reducible refine Row5.alloc ?_ _) | (with_reducible refine Row5.drew ?_) | (with_reducible refine Row5.drewN ?_ _))); have Xb : Row5 wb w.heap.size (.bool true) (.int .u64 (lb 0 x)) (.int .u64 (lb 1 x)) (.int .u64 (lb 2 x)) (.int .u64 (lb 3 x)) := Row5.keep hbb (by repeat (first | (with_reducible exact Xa) | (with_reducible refine Row5.alloc ?_ _) | (with_reducible refine Row5.drew ?_) | (with_reducible refine Row5.drewN ?_ _))); obtain ⟨rb0, rb1, rb2, rb3, rb4⟩ := Rb.parts; obtain ⟨rg0, rg1, rg2, rg3, rg4⟩ := Rb.free; have ltb := Rb.lt; have ltc := Xb.lt; have nbx : ¬ w.heap.size + 1 = w.heap.size := by omega))
  all_goals
    go_wp2
    exact bodyPost_ret (v := .tuple #[.agg #[.bool h, .int .u64 y0, .int .u64 y1, .int .u64 y2, .int .u64 y3], .bool b]) (by simp [results, Tryd.results39, go_sem, rb0, rb1, rb2, rb3, rb4]) rfl ⟨rfl, by repeat (first | (with_reducible exact bb) | (with_reducible refine bal ?_ _) | (with_reducible refine Below.drew ?_) | (with_reducible refine bdn ?_ _) | ((with_reducible refine bsc ?_ ?_ _); rotate_left; (focus (simp only []; omega))))⟩
set_option maxHeartbeats 2000000 in
set_option maxRecDepth 100000 in
theorem rstep_less_false (x : Nat) (hx : x < 2 ^ 256) (hz : (((digs x).length : Int) == 0) = false) (hle : 1 ≤ x) (h : Bool) (y0 y1 y2 y3 : Int) (b : Bool) (kw : ∀ s' W, DR W s' (x - 1) → Calls Tryd.prog 85 #[.bool false, s'] W fun e w' => e = .returned (.tuple #[.agg #[.bool h, .int .u64 y0, .int .u64 y1, .int .u64 y2, .int .u64 y3], .bool b]) ∧ Below W.heap.size W w') (w : World)
    (m1 : ∀ W, Calls Tryd.prog 29 #[I5 false x] W fun e w' => e = .returned (.bool true) ∧ Below W.heap.size W w') :
    Calls Tryd.prog 39 #[I5 false x, .bool false] w fun e w' => e = .returned (.tuple #[.agg #[.bool h, .int .u64 y0, .int .u64 y1, .int .u64 y2, .int .u64 y3], .bool b]) ∧ Below w.heap.size w w' := by
  unfold I5 at *
  have M1 := Lib.hid m1; have HX := Lib.hid hx; clear m1 hx
  have KW := Lib.hid kw; clear kw
  have L1 := Lib.hid (digs_of_eight HX.out)
  have L2 := Lib.hid (digs_of_eight (show 1 < 2 ^ 256 by decide))
  go_enter Tryd.func39, Tryd.ntmps39
  go_wp2_with fail
  refine (M1.out _).mono ?_
  rintro e w1 ⟨rfl, hb⟩
  have BW1 : Below w.heap.size w w1 := btr (by repeat (first | (with_reducible exact Below.refl _ _) | (with_reducible refine bal ?_ _) | (with_reducible refine Below.drew ?_) | (with_reducible refine bdn ?_ _))) hb
  have X1 : Row5 w1 w.heap.size (.bool false) (.int .u64 (lb 0 x)) (.int .u64 (lb 1 x)) (.int .u64 (lb 2 x)) (.int .u64 (lb 3 x)) := Row5.keep hb (by repeat (first | (with_reducible exact Row5.new _ _ _ _ _ _) | ((with_reducible refine Row5.new' _ ?_ _ _ _ _ _); (simp; done)) | (with_reducible refine Row5.alloc ?_ _) | (with_reducible refine Row5.drew ?_)))
  have R1 : Row5 w1 (w.heap.size + 1) (.bool false) (.int .u64 0) (.int .u64 0) (.int .u64 0) (.int .u64 0) := Row5.keep hb (by repeat (first | (with_reducible exact Row5.new _ _ _ _ _ _) | ((with_reducible refine Row5.new' _ ?_ _ _ _ _ _); (simp; done)) | (with_reducible refine Row5.alloc ?_ _) | (with_reducible refine Row5.drew ?_)))
  clear hb
  obtain ⟨Xc0, Xc1, Xc2, Xc3, Xc4⟩ := X1.parts
  obtain ⟨Xf0, Xf1, Xf2, Xf3, Xf4⟩ := X1.free
  go_wp2_with fail
  refine (rof x HX.out _).mono ?_
  rintro e w2 ⟨s1, rfl, hr, hb⟩
  have hbX : Below w1.heap.size w1 w2 := btr (by repeat (first | (with_reducible exact Below.refl _ _) | (with_reducible refine bal ?_ _) | (with_reducible refine Below.drew ?_) | (with_reducible refine bdn ?_ _))) hb
  clear hbX
  have DX2 : DR w2 s1 x := hr
  clear hr
  have BW2 : Below w.heap.size w w2 := btr (by repeat (first | (with_reducible exact BW1) | (with_reducible refine bal ?_ _) | (with_reducible refine Below.drew ?_) | (with_reducible refine bdn ?_ _))) hb
  have X2 : Row5 w2 w.heap.size (.bool false) (.int .u64 (lb 0 x)) (.int .u64 (lb 1 x)) (.int .u64 (lb 2 x)) (.int .u64 (lb 3 x)) := Row5.keep hb (by repeat (first | (with_reducible exact X1) | (with_reducible refine Row5.alloc ?_ _) | (with_reducible refine Row5.drew ?_)))
  have R2 : Row5 w2 (w.heap.size + 1) (.bool false) (.int .u64 0) (.int .u64 0) (.int .u64 0) (.int .u64 0) := Row5.keep hb (by repeat (first | (with_reducible exact R1) | (with_reducible refine Row5.alloc ?_ _) | (with_reducible refine Row5.drew ?_)))
  clear X1 R1
  clear BW1
  clear hb
  obtain ⟨A9, c9, rfl, _⟩ := DX2.form
  obtain ⟨Xc0, Xc1, Xc2, Xc3, Xc4⟩ := X2.parts
  obtain ⟨Xf0, Xf1, Xf2, Xf3, Xf4⟩ := X2.free
  go_upto_region 8 with (fail)
  go_name_world w3 hw3
  have BW3 : Below w.heap.size w w3 := by rw [← hw3]; repeat (first | (with_reducible exact BW2) | (with_reducible refine bal ?_ _) | (with_reducible refine Below.drew ?_) | (with_reducible refine bdn ?_ _))
  have hbX : Below w2.heap.size w2 w3 := by rw [← hw3]; repeat (first | (with_reducible exact Below.refl _ _) | (with_reducible refine bal ?_ _) | (with_reducible refine Below.drew ?_) | (with_reducible refine bdn ?_ _))
  have DX3 : DR w3 (.slice A9 (digs x).length c9) x := DR.keep hbX DX2
  clear hbX DX2
  have X3 : Row5 w3 w.heap.size (.bool false) (.int .u64 (lb 0 x)) (.int .u64 (lb 1 x)) (.int .u64 (lb 2 x)) (.int .u64 (lb 3 x)) := by rw [← hw3]; exact (by repeat (first | (with_reducible exact X2) | (with_reducible refine Row5.alloc ?_ _) | (with_reducible refine Row5.drew ?_)))
  have R3 : Row5 w3 (w.heap.size + 1) (.bool false) (.int .u64 0) (.int .u64 0) (.int .u64 0) (.int .u64 0) := by rw [← hw3]; exact (by repeat (first | (with_reducible exact R2) | (with_reducible refine Row5.alloc ?_ _) | (with_reducible refine Row5.drew ?_)))
  clear X2 R2
  clear BW2
  clear hw3
  have lt_X := X3.lt
  have lt_R := R3.lt
  obtain ⟨Xc0, Xc1, Xc2, Xc3, Xc4⟩ := X3.parts
  obtain ⟨Xf0, Xf1, Xf2, Xf3, Xf4⟩ := X3.free
  go_region_held3 (fun w' => w'.cell? ⟨w.heap.size, 0, none⟩ = some (.bool false) ∧ w'.cell? ⟨w.heap.size, 1, none⟩ = some (.int .u64 (lb 0 x)) ∧ w'.cell? ⟨w.heap.size, 2, none⟩ = some (.int .u64 (lb 1 x)) ∧ w'.cell? ⟨w.heap.size, 3, none⟩ = some (.int .u64 (lb 2 x)) ∧ w'.cell? ⟨w.heap.size, 4, none⟩ = some (.int .u64 (lb 3 x)))
    ((refine Row5.parts ?_; (repeat (first | (with_reducible assumption) | (with_reducible refine Row5.alloc ?_ _) | (with_reducible refine Row5.drew ?_) | (with_reducible refine Row5.drewN ?_ _) | ((with_reducible refine Row5.set ?_ ?_ _); rotate_left; (focus (omega))))); done))
    (first | (go_at_call 87; (with_reducible refine (rsub (DR.keep (by repeat (first | (with_reducible exact Below.refl _ _) | (with_reducible refine bal ?_ _) | (with_reducible refine Below.drew ?_) | (with_reducible refine bdn ?_ _))) DX3) (DR.keep (by repeat (first | (with_reducible exact Below.refl _ _) | (with_reducible refine bal ?_ _) | (with_reducible refine Below.drew ?_) | (with_reducible refine bdn ?_ _))) (ten_new w3 1 (by decide) (by decide) 1 rfl)) L1.out hle).mono ?_); rintro e wa ⟨sa, rfl, hra, hba⟩; have ba : Below w.heap.size w wa := btr (by repeat (first | (with_reducible exact BW3) | (with_reducible refine bal ?_ _) | (with_reducible refine Below.drew ?_) | (with_reducible refine bdn ?_ _))) hba; have Xa : Row5 wa w.heap.size (.bool false) (.int .u64 (lb 0 x)) (.int .u64 (lb 1 x)) (.int .u64 (lb 2 x)) (.int .u64 (lb 3 x)) := Row5.keep hba (by repeat (first | (with_reducible exact X3) | (with_reducible refine Row5.alloc ?_ _) | (with_reducible refine Row5.drew ?_) | (with_reducible refine Row5.drewN ?_ _))); have Ra : Row5 wa (w.heap.size + 1) (.bool false) (.int .u64 0) (.int .u64 0) (.int .u64 0) (.int .u64 0) := Row5.keep hba (by repeat (first | (with_reducible exact R3) | (with_reducible refine Row5.alloc ?_ _) | (with_reducible refine Row5.drew ?_) | (with_reducible refine Row5.drewN ?_ _))); obtain ⟨xa0, xa1, xa2, xa3, xa4⟩ := Xa.parts) | (go_at_call 85; (with_reducible refine (KW.out _ _ (DR.keep (by repeat (first | (with_reducible exact Below.refl _ _) | (with_reducible refine bal ?_ _) | (with_reducible refine Below.drew ?_) | (with_reducible refine bdn ?_ _))) hra)).mono ?_); rintro e wb ⟨rfl, hbb⟩; have bb : Below w.heap.size w wb := btr (by repeat (first | (with_reducible exact ba) | (with_reducible refine bal ?_ _) | (with_reducible refine Below.drew ?_) | (with_reducible refine bdn ?_ _))) hbb; have Rb : Row5 wb (w.heap.size + 1) (.bool false) (.int .u64 0) (.int .u64 0) (.int .u64 0) (.int .u64 0) := Row5.keep hbb (by repeat (first | (with_reducible exact Ra) | (with_reducible refine Row5.alloc ?_ _) | (with_reducible refine Row5.drew ?_) | (with_reducible refine Row5.drewN ?_ _))); have Xb : Row5 wb w.heap.size (.bool false) (.int .u64 (lb 0 x)) (.int .u64 (lb 1 x)) (.int .u64 (lb 2 x)) (.int .u64 (lb 3 x)) := Row5.keep hbb (by repeat (first | (with_reducible exact Xa) | (with_reducible refine Row5.alloc ?_ _) | (with_reducible refine Row5.drew ?_) | (with_reducible refine Row5.drewN ?_ _))); obtain ⟨rb0, rb1, rb2, rb3, rb4⟩ := Rb.parts; obtain ⟨rg0, rg1, rg2, rg3, rg4⟩ := Rb.free; have ltb := Rb.lt; have ltc := Xb.lt; have nbx : ¬ w.heap.size + 1 = w.heap.size := by omega))
  all_goals
    go_wp2
    exact bodyPost_ret (v := .tuple #[.agg #[.bool h, .int .u64 y0, .int .u64 y1, .int .u64 y2, .int .u64 y3], .bool b]) (by simp [results, Tryd.results39, go_sem, rb0, rb1, rb2, rb3, rb4]) rfl ⟨rfl, by repeat (first | (with_reducible exact bb) | (with_reducible refine bal ?_ _) | (with_reducible refine Below.drew ?_) | (with_reducible refine bdn ?_ _) | ((with_reducible refine bsc ?_ ?_ _); rotate_left; (focus (simp only []; omega))))⟩
end Go.Proofs.YtngmdncidieclaaDoor
end
section
namespace Go.Proofs.YtngmdncidieclaaDoor
open Go.RowKit Go.Shelf
open Go.Sort (grow)
attribute [local go_sem ↓] eql_nat neq_nat eql_int5 neq_int5

set_option maxHeartbeats 4000000 in
set_option maxRecDepth 100000 in
theorem numbers_tt (g h vg ng pg tb ub nb pb : Bool) (x y vn un nn pn : Nat) (v u tv uv c : Int) (w : World) (hT : Tabs w)
    (q1 : eq5 vg (lb 0 vn) (lb 1 vn) (lb 2 vn) (lb 3 vn) vg (lb 0 vn) (lb 1 vn) (lb 2 vn) (lb 3 vn) = true) (q2 : eq5 false (lb 0 un) (lb 1 un) (lb 2 un) (lb 3 un) false (lb 0 un) (lb 1 un) (lb 2 un) (lb 3 un) = true) (q3 : eq5 ng (lb 0 nn) (lb 1 nn) (lb 2 nn) (lb 3 nn) ng (lb 0 nn) (lb 1 nn) (lb 2 nn) (lb 3 nn) = true) (q4 : eq5 pg (lb 0 pn) (lb 1 pn) (lb 2 pn) (lb 3 pn) pg (lb 0 pn) (lb 1 pn) (lb 2 pn) (lb 3 pn) = true)
    (k1 : ∀ W, Calls Tryd.prog 28 #[I5 g x] W fun e w' => e = .returned (.bool true) ∧ Below W.heap.size W w')
    (k2 : ∀ W, Calls Tryd.prog 29 #[I5 g x] W fun e w' => e = .returned (.bool true) ∧ Below W.heap.size W w')
    (k3 : ∀ W, Calls Tryd.prog 30 #[.int .i64 v] W fun e w' => e = .returned (I5 vg vn) ∧ Below W.heap.size W w')
    (k4 : ∀ W, Calls Tryd.prog 31 #[.int .i64 v] W fun e w' => e = .returned (I5 vg vn) ∧ Below W.heap.size W w')
    (k5 : ∀ W, Calls Tryd.prog 32 #[.int .u64 u] W fun e w' => e = .returned (I5 false un) ∧ Below W.heap.size W w')
    (k6 : ∀ W, Calls Tryd.prog 33 #[.int .u64 u] W fun e w' => e = .returned (I5 false un) ∧ Below W.heap.size W w')
    (k7 : ∀ W, Calls Tryd.prog 34 #[I5 g x] W fun e w' => e = .returned (.tuple #[.int .i64 tv, .bool tb]) ∧ Below W.heap.size W w')
    (k8 : ∀ W, Calls Tryd.prog 35 #[I5 g x] W fun e w' => e = .returned (.tuple #[.int .i64 tv, .bool tb]) ∧ Below W.heap.size W w')
    (k9 : ∀ W, Calls Tryd.prog 36 #[I5 g x] W fun e w' => e = .returned (.tuple #[.int .u64 uv, .bool ub]) ∧ Below W.heap.size W w')
    (k10 : ∀ W, Calls Tryd.prog 37 #[I5 g x] W fun e w' => e = .returned (.tuple #[.int .u64 uv, .bool ub]) ∧ Below W.heap.size W w')
    (k11 : ∀ W, Calls Tryd.prog 38 #[I5 g x] W fun e w' => e = .returned (.tuple #[I5 ng nn, .bool nb]) ∧ Below W.heap.size W w')
    (k12 : ∀ W, Calls Tryd.prog 39 #[I5 g x, .bool true] W fun e w' => e = .returned (.tuple #[I5 ng nn, .bool nb]) ∧ Below W.heap.size W w')
    (k13 : ∀ W, Calls Tryd.prog 40 #[I5 g x] W fun e w' => e = .returned (.tuple #[I5 pg pn, .bool pb]) ∧ Below W.heap.size W w')
    (k14 : ∀ W, Calls Tryd.prog 39 #[I5 g x, .bool false] W fun e w' => e = .returned (.tuple #[I5 pg pn, .bool pb]) ∧ Below W.heap.size W w')
    (k15 : ∀ W, Calls Tryd.prog 29 #[I5 h y] W fun e w' => e = .returned (.bool true) ∧ Below W.heap.size W w')
    (k16 : ∀ W, Calls Tryd.prog 41 #[I5 g x, I5 h y] W fun e w' => e = .returned (.int .i64 c) ∧ Below W.heap.size W w')
    (k17 : ∀ W, Calls Tryd.prog 43 #[I5 g x, I5 h y] W fun e w' => e = .returned (.int .i64 c) ∧ Below W.heap.size W w') :
    Calls Tryd.prog 5 #[I5 g x, I5 h y, .int .i64 v, .int .u64 u] w fun e w' => e = .returned (.bool true) ∧ Below w.heap.size w w' := by
  unfold I5 at *
  have HT := Lib.hid hT; have K1 := Lib.hid k1; have K2 := Lib.hid k2; have K3 := Lib.hid k3; have K4 := Lib.hid k4; have K5 := Lib.hid k5; have K6 := Lib.hid k6; have K7 := Lib.hid k7; have K8 := Lib.hid k8; have K9 := Lib.hid k9; have K10 := Lib.hid k10; have K11 := Lib.hid k11; have K12 := Lib.hid k12; have K13 := Lib.hid k13; have K14 := Lib.hid k14; have K15 := Lib.hid k15; have K16 := Lib.hid k16; have K17 := Lib.hid k17; have Q3 := Lib.hid q3; have Q4 := Lib.hid q4; clear hT q3 q4 k1 k2 k3 k4 k5 k6 k7 k8 k9 k10 k11 k12 k13 k14 k15 k16 k17
  have e1 : (tb != tb) = false := bne_self_eq_false tb; have e2 : (ub != ub) = false := bne_self_eq_false ub; have e3 : (nb != nb) = false := bne_self_eq_false nb; have e4 : (pb != pb) = false := bne_self_eq_false pb
  have e5 : (tv != tv) = false := bne_self_eq_false tv; have e6 : (uv != uv) = false := bne_self_eq_false uv
  go_enter Tryd.func5, Tryd.ntmps5
  go_upto_region 1 with (fail)
  go_name_world w1 hw1
  have BW1 : Below w.heap.size w w1 := by rw [← hw1]; repeat (first | (with_reducible exact Below.refl _ _) | (with_reducible refine bal ?_ _) | (with_reducible refine Below.drew ?_) | (with_reducible refine bdn ?_ _))
  have X1 : Row5 w1 w.heap.size (.bool g) (.int .u64 (lb 0 x)) (.int .u64 (lb 1 x)) (.int .u64 (lb 2 x)) (.int .u64 (lb 3 x)) := by rw [← hw1]; exact (by repeat (first | (with_reducible exact Row5.new _ _ _ _ _ _) | ((with_reducible refine Row5.new' _ ?_ _ _ _ _ _); (simp; done)) | (with_reducible refine Row5.alloc ?_ _) | (with_reducible refine Row5.drew ?_)))
  have Y1 : Row5 w1 (w.heap.size + 1) (.bool h) (.int .u64 (lb 0 y)) (.int .u64 (lb 1 y)) (.int .u64 (lb 2 y)) (.int .u64 (lb 3 y)) := by rw [← hw1]; exact (by repeat (first | (with_reducible exact Row5.new _ _ _ _ _ _) | ((with_reducible refine Row5.new' _ ?_ _ _ _ _ _); (simp; done)) | (with_reducible refine Row5.alloc ?_ _) | (with_reducible refine Row5.drew ?_)))
  clear hw1
  obtain ⟨qX0, qX1, qX2, qX3, qX4⟩ := X1.parts
  have gX0 := cell_regrown qX0
  have gX1 := cell_regrown qX1
  have gX2 := cell_regrown qX2
  have gX3 := cell_regrown qX3
  have gX4 := cell_regrown qX4
  clear qX0 qX1 qX2 qX3 qX4
  have cq0 := fun (d : Nat) (os : Array Obj) => Calls.regrown_of (w := w1) (d := d) (os := os) (K1.out _)
  have cq1 := fun (d : Nat) (os : Array Obj) => Calls.regrown_of (w := w1) (d := d) (os := os) (K2.out _)
  have cq2 := fun (d : Nat) (os : Array Obj) => Calls.regrown_of (w := w1) (d := d) (os := os) (K3.out _)
  have cq3 := fun (d : Nat) (os : Array Obj) => Calls.regrown_of (w := w1) (d := d) (os := os) (K4.out _)
  have cq4 := fun (d : Nat) (os : Array Obj) => Calls.regrown_of (w := w1) (d := d) (os := os) (K5.out _)
  have cq5 := fun (d : Nat) (os : Array Obj) => Calls.regrown_of (w := w1) (d := d) (os := os) (K6.out _)
  refine wp_region_quiet_below (by kernel_rfl) (by kernel_rfl) ?_
  repeat (first | go_big_quiet_step ((first | (with_reducible exact cq0 _ _) | (with_reducible exact cq1 _ _) | (with_reducible exact cq2 _ _) | (with_reducible exact cq3 _ _) | (with_reducible exact cq4 _ _) | (with_reducible exact cq5 _ _))) | quiet_step (first | (with_reducible exact cq0 _ _) | (with_reducible exact cq1 _ _) | (with_reducible exact cq2 _ _) | (with_reducible exact cq3 _ _) | (with_reducible exact cq4 _ _) | (with_reducible exact cq5 _ _)))
  refine wpQuiet_nil ?_
  intro _ hw'
  obtain ⟨⟨dq, osq⟩, hw''⟩ := hw'
  subst hw''
  clear gX0 gX1 gX2 gX3 gX4 cq0 cq1 cq2 cq3 cq4 cq5
  have hb := below_regrown w1 dq osq
  generalize grow (redrawn w1 dq) osq = w2 at *
  have BW2 : Below w.heap.size w w2 := btr BW1 hb
  have X2 : Row5 w2 w.heap.size (.bool g) (.int .u64 (lb 0 x)) (.int .u64 (lb 1 x)) (.int .u64 (lb 2 x)) (.int .u64 (lb 3 x)) := Row5.keep hb X1
  have Y2 : Row5 w2 (w.heap.size + 1) (.bool h) (.int .u64 (lb 0 y)) (.int .u64 (lb 1 y)) (.int .u64 (lb 2 y)) (.int .u64 (lb 3 y)) := Row5.keep hb Y1
  clear X1 Y1 BW1 hb
  clear q1 q2
  obtain ⟨Xc0, Xc1, Xc2, Xc3, Xc4⟩ := X2.parts
  obtain ⟨Xf0, Xf1, Xf2, Xf3, Xf4⟩ := X2.free
  go_wp2_with fail
  refine (K7.out _).mono ?_
  rintro e w3 ⟨rfl, hb⟩
  have BW3 : Below w.heap.size w w3 := btr (by repeat (first | (with_reducible exact BW2) | (with_reducible refine bal ?_ _) | (with_reducible refine Below.drew ?_) | (with_reducible refine bdn ?_ _))) hb
  have X3 : Row5 w3 w.heap.size (.bool g) (.int .u64 (lb 0 x)) (.int .u64 (lb 1 x)) (.int .u64 (lb 2 x)) (.int .u64 (lb 3 x)) := Row5.keep hb (by repeat (first | (with_reducible exact X2) | (with_reducible refine Row5.alloc ?_ _) | (with_reducible refine Row5.drew ?_)))
  have Y3 : Row5 w3 (w.heap.size + 1) (.bool h) (.int .u64 (lb 0 y)) (.int .u64 (lb 1 y)) (.int .u64 (lb 2 y)) (.int .u64 (lb 3 y)) := Row5.keep hb (by repeat (first | (with_reducible exact Y2) | (with_reducible refine Row5.alloc ?_ _) | (with_reducible refine Row5.drew ?_)))
  clear X2 Y2
  clear BW2
  clear hb
  obtain ⟨Xc0, Xc1, Xc2, Xc3, Xc4⟩ := X3.parts
  obtain ⟨Xf0, Xf1, Xf2, Xf3, Xf4⟩ := X3.free
  go_wp2_with fail
  refine (K8.out _).mono ?_
  rintro e w4 ⟨rfl, hb⟩
  have BW4 : Below w.heap.size w w4 := btr (by repeat (first | (with_reducible exact BW3) | (with_reducible refine bal ?_ _) | (with_reducible refine Below.drew ?_) | (with_reducible refine bdn ?_ _))) hb
  have X4 : Row5 w4 w.heap.size (.bool g) (.int .u64 (lb 0 x)) (.int .u64 (lb 1 x)) (.int .u64 (lb 2 x)) (.int .u64 (lb 3 x)) := Row5.keep hb (by repeat (first | (with_reducible exact X3) | (with_reducible refine Row5.alloc ?_ _) | (with_reducible refine Row5.drew ?_)))
  have Y4 : Row5 w4 (w.heap.size + 1) (.bool h) (.int .u64 (lb 0 y)) (.int .u64 (lb 1 y)) (.int .u64 (lb 2 y)) (.int .u64 (lb 3 y)) := Row5.keep hb (by repeat (first | (with_reducible exact Y3) | (with_reducible refine Row5.alloc ?_ _) | (with_reducible refine Row5.drew ?_)))
  clear X3 Y3
  clear BW3
  clear hb
  obtain ⟨Xc0, Xc1, Xc2, Xc3, Xc4⟩ := X4.parts
  obtain ⟨Xf0, Xf1, Xf2, Xf3, Xf4⟩ := X4.free
  go_wp2_with fail
  refine (K9.out _).mono ?_
  rintro e w5 ⟨rfl, hb⟩
  have BW5 : Below w.heap.size w w5 := btr (by repeat (first | (with_reducible exact BW4) | (with_reducible refine bal ?_ _) | (with_reducible refine Below.drew ?_) | (with_reducible refine bdn ?_ _))) hb
  have X5 : Row5 w5 w.heap.size (.bool g) (.int .u64 (lb 0 x)) (.int .u64 (lb 1 x)) (.int .u64 (lb 2 x)) (.int .u64 (lb 3 x)) := Row5.keep hb (by repeat (first | (with_reducible exact X4) | (with_reducible refine Row5.alloc ?_ _) | (with_reducible refine Row5.drew ?_)))
  have Y5 : Row5 w5 (w.heap.size + 1) (.bool h) (.int .u64 (lb 0 y)) (.int .u64 (lb 1 y)) (.int .u64 (lb 2 y)) (.int .u64 (lb 3 y)) := Row5.keep hb (by repeat (first | (with_reducible exact Y4) | (with_reducible refine Row5.alloc ?_ _) | (with_reducible refine Row5.drew ?_)))
  clear X4 Y4
  clear BW4
  clear hb
  obtain ⟨Xc0, Xc1, Xc2, Xc3, Xc4⟩ := X5.parts
  obtain ⟨Xf0, Xf1, Xf2, Xf3, Xf4⟩ := X5.free
  go_wp2_with fail
  refine (K10.out _).mono ?_
  rintro e w6 ⟨rfl, hb⟩
  have BW6 : Below w.heap.size w w6 := btr (by repeat (first | (with_reducible exact BW5) | (with_reducible refine bal ?_ _) | (with_reducible refine Below.drew ?_) | (with_reducible refine bdn ?_ _))) hb
  have X6 : Row5 w6 w.heap.size (.bool g) (.int .u64 (lb 0 x)) (.int .u64 (lb 1 x)) (.int .u64 (lb 2 x)) (.int .u64 (lb 3 x)) := Row5.keep hb (by repeat (first | (with_reducible exact X5) | (with_reducible refine Row5.alloc ?_ _) | (with_reducible refine Row5.drew ?_)))
  have Y6 : Row5 w6 (w.heap.size + 1) (.bool h) (.int .u64 (lb 0 y)) (.int .u64 (lb 1 y)) (.int .u64 (lb 2 y)) (.int .u64 (lb 3 y)) := Row5.keep hb (by repeat (first | (with_reducible exact Y5) | (with_reducible refine Row5.alloc ?_ _) | (with_reducible refine Row5.drew ?_)))
  clear X5 Y5
  clear BW5
  clear hb
  obtain ⟨Xc0, Xc1, Xc2, Xc3, Xc4⟩ := X6.parts
  obtain ⟨Xf0, Xf1, Xf2, Xf3, Xf4⟩ := X6.free
  go_wp2_with fail
  refine (K11.out _).mono ?_
  rintro e w7 ⟨rfl, hb⟩
  have BW7 : Below w.heap.size w w7 := btr (by repeat (first | (with_reducible exact BW6) | (with_reducible refine bal ?_ _) | (with_reducible refine Below.drew ?_) | (with_reducible refine bdn ?_ _))) hb
  have X7 : Row5 w7 w.heap.size (.bool g) (.int .u64 (lb 0 x)) (.int .u64 (lb 1 x)) (.int .u64 (lb 2 x)) (.int .u64 (lb 3 x)) := Row5.keep hb (by repeat (first | (with_reducible exact X6) | (with_reducible refine Row5.alloc ?_ _) | (with_reducible refine Row5.drew ?_)))
  have Y7 : Row5 w7 (w.heap.size + 1) (.bool h) (.int .u64 (lb 0 y)) (.int .u64 (lb 1 y)) (.int .u64 (lb 2 y)) (.int .u64 (lb 3 y)) := Row5.keep hb (by repeat (first | (with_reducible exact Y6) | (with_reducible refine Row5.alloc ?_ _) | (with_reducible refine Row5.drew ?_)))
  clear X6 Y6
  clear BW6
  clear hb
  go_upto_region 10 with (fail)
  go_name_world w8 hw8
  have BW8 : Below w.heap.size w w8 := by rw [← hw8]; repeat (first | (with_reducible exact BW7) | (with_reducible refine bal ?_ _) | (with_reducible refine Below.drew ?_) | (with_reducible refine bdn ?_ _))
  have X8 : Row5 w8 w.heap.size (.bool g) (.int .u64 (lb 0 x)) (.int .u64 (lb 1 x)) (.int .u64 (lb 2 x)) (.int .u64 (lb 3 x)) := by rw [← hw8]; exact (by repeat (first | (with_reducible exact X7) | (with_reducible refine Row5.alloc ?_ _) | (with_reducible refine Row5.drew ?_)))
  have Y8 : Row5 w8 (w.heap.size + 1) (.bool h) (.int .u64 (lb 0 y)) (.int .u64 (lb 1 y)) (.int .u64 (lb 2 y)) (.int .u64 (lb 3 y)) := by rw [← hw8]; exact (by repeat (first | (with_reducible exact Y7) | (with_reducible refine Row5.alloc ?_ _) | (with_reducible refine Row5.drew ?_)))
  have apN_X := X7.lt
  have apN_Y := Y7.lt
  have apN_0 := (BW7).size
  have N8 : Row5 w8 w7.heap.size (.bool ng) (.int .u64 (lb 0 nn)) (.int .u64 (lb 1 nn)) (.int .u64 (lb 2 nn)) (.int .u64 (lb 3 nn)) := by rw [← hw8]; exact (by repeat (first | (with_reducible exact Row5.new _ _ _ _ _ _) | ((with_reducible refine Row5.new' _ ?_ _ _ _ _ _); (simp; done)) | (with_reducible refine Row5.alloc ?_ _) | (with_reducible refine Row5.drew ?_)))
  clear X7 Y7
  clear BW7
  clear hw8
  obtain ⟨Xc0, Xc1, Xc2, Xc3, Xc4⟩ := X8.parts
  obtain ⟨Xf0, Xf1, Xf2, Xf3, Xf4⟩ := X8.free
  go_wp2_with fail
  refine (K12.out _).mono ?_
  rintro e w9 ⟨rfl, hb⟩
  have BW9 : Below w.heap.size w w9 := btr (by repeat (first | (with_reducible exact BW8) | (with_reducible refine bal ?_ _) | (with_reducible refine Below.drew ?_) | (with_reducible refine bdn ?_ _))) hb
  have X9 : Row5 w9 w.heap.size (.bool g) (.int .u64 (lb 0 x)) (.int .u64 (lb 1 x)) (.int .u64 (lb 2 x)) (.int .u64 (lb 3 x)) := Row5.keep hb (by repeat (first | (with_reducible exact X8) | (with_reducible refine Row5.alloc ?_ _) | (with_reducible refine Row5.drew ?_)))
  have Y9 : Row5 w9 (w.heap.size + 1) (.bool h) (.int .u64 (lb 0 y)) (.int .u64 (lb 1 y)) (.int .u64 (lb 2 y)) (.int .u64 (lb 3 y)) := Row5.keep hb (by repeat (first | (with_reducible exact Y8) | (with_reducible refine Row5.alloc ?_ _) | (with_reducible refine Row5.drew ?_)))
  have N9 : Row5 w9 w7.heap.size (.bool ng) (.int .u64 (lb 0 nn)) (.int .u64 (lb 1 nn)) (.int .u64 (lb 2 nn)) (.int .u64 (lb 3 nn)) := Row5.keep hb (by repeat (first | (with_reducible exact N8) | (with_reducible refine Row5.alloc ?_ _) | (with_reducible refine Row5.drew ?_)))
  clear X8 Y8 N8
  clear BW8
  clear hb
  go_upto_region 11 with (fail)
  go_name_world w10 hw10
  have BW10 : Below w.heap.size w w10 := by rw [← hw10]; repeat (first | (with_reducible exact BW9) | (with_reducible refine bal ?_ _) | (with_reducible refine Below.drew ?_) | (with_reducible refine bdn ?_ _))
  have X10 : Row5 w10 w.heap.size (.bool g) (.int .u64 (lb 0 x)) (.int .u64 (lb 1 x)) (.int .u64 (lb 2 x)) (.int .u64 (lb 3 x)) := by rw [← hw10]; exact (by repeat (first | (with_reducible exact X9) | (with_reducible refine Row5.alloc ?_ _) | (with_reducible refine Row5.drew ?_)))
  have Y10 : Row5 w10 (w.heap.size + 1) (.bool h) (.int .u64 (lb 0 y)) (.int .u64 (lb 1 y)) (.int .u64 (lb 2 y)) (.int .u64 (lb 3 y)) := by rw [← hw10]; exact (by repeat (first | (with_reducible exact Y9) | (with_reducible refine Row5.alloc ?_ _) | (with_reducible refine Row5.drew ?_)))
  have N10 : Row5 w10 w7.heap.size (.bool ng) (.int .u64 (lb 0 nn)) (.int .u64 (lb 1 nn)) (.int .u64 (lb 2 nn)) (.int .u64 (lb 3 nn)) := by rw [← hw10]; exact (by repeat (first | (with_reducible exact N9) | (with_reducible refine Row5.alloc ?_ _) | (with_reducible refine Row5.drew ?_)))
  have apS_X := X9.lt
  have apS_Y := Y9.lt
  have apS_N := N9.lt
  have apS_0 := (BW9).size
  have S10 : Row5 w10 w9.heap.size (.bool ng) (.int .u64 (lb 0 nn)) (.int .u64 (lb 1 nn)) (.int .u64 (lb 2 nn)) (.int .u64 (lb 3 nn)) := by rw [← hw10]; exact (by repeat (first | (with_reducible exact Row5.new _ _ _ _ _ _) | ((with_reducible refine Row5.new' _ ?_ _ _ _ _ _); (simp; done)) | (with_reducible refine Row5.alloc ?_ _) | (with_reducible refine Row5.drew ?_)))
  clear X9 Y9 N9
  clear BW9
  clear hw10
  obtain ⟨Xc0, Xc1, Xc2, Xc3, Xc4⟩ := X10.parts
  obtain ⟨Xf0, Xf1, Xf2, Xf3, Xf4⟩ := X10.free
  go_wp2_with fail
  refine (K13.out _).mono ?_
  rintro e w11 ⟨rfl, hb⟩
  have BW11 : Below w.heap.size w w11 := btr (by repeat (first | (with_reducible exact BW10) | (with_reducible refine bal ?_ _) | (with_reducible refine Below.drew ?_) | (with_reducible refine bdn ?_ _))) hb
  have X11 : Row5 w11 w.heap.size (.bool g) (.int .u64 (lb 0 x)) (.int .u64 (lb 1 x)) (.int .u64 (lb 2 x)) (.int .u64 (lb 3 x)) := Row5.keep hb (by repeat (first | (with_reducible exact X10) | (with_reducible refine Row5.alloc ?_ _) | (with_reducible refine Row5.drew ?_)))
  have Y11 : Row5 w11 (w.heap.size + 1) (.bool h) (.int .u64 (lb 0 y)) (.int .u64 (lb 1 y)) (.int .u64 (lb 2 y)) (.int .u64 (lb 3 y)) := Row5.keep hb (by repeat (first | (with_reducible exact Y10) | (with_reducible refine Row5.alloc ?_ _) | (with_reducible refine Row5.drew ?_)))
  have N11 : Row5 w11 w7.heap.size (.bool ng) (.int .u64 (lb 0 nn)) (.int .u64 (lb 1 nn)) (.int .u64 (lb 2 nn)) (.int .u64 (lb 3 nn)) := Row5.keep hb (by repeat (first | (with_reducible exact N10) | (with_reducible refine Row5.alloc ?_ _) | (with_reducible refine Row5.drew ?_)))
  have S11 : Row5 w11 w9.heap.size (.bool ng) (.int .u64 (lb 0 nn)) (.int .u64 (lb 1 nn)) (.int .u64 (lb 2 nn)) (.int .u64 (lb 3 nn)) := Row5.keep hb (by repeat (first | (with_reducible exact S10) | (with_reducible refine Row5.alloc ?_ _) | (with_reducible refine Row5.drew ?_)))
  clear X10 Y10 N10 S10
  clear BW10
  clear hb
  go_upto_region 12 with (fail)
  go_name_world w12 hw12
  have BW12 : Below w.heap.size w w12 := by rw [← hw12]; repeat (first | (with_reducible exact BW11) | (with_reducible refine bal ?_ _) | (with_reducible refine Below.drew ?_) | (with_reducible refine bdn ?_ _))
  have X12 : Row5 w12 w.heap.size (.bool g) (.int .u64 (lb 0 x)) (.int .u64 (lb 1 x)) (.int .u64 (lb 2 x)) (.int .u64 (lb 3 x)) := by rw [← hw12]; exact (by repeat (first | (with_reducible exact X11) | (with_reducible refine Row5.alloc ?_ _) | (with_reducible refine Row5.drew ?_)))
  have Y12 : Row5 w12 (w.heap.size + 1) (.bool h) (.int .u64 (lb 0 y)) (.int .u64 (lb 1 y)) (.int .u64 (lb 2 y)) (.int .u64 (lb 3 y)) := by rw [← hw12]; exact (by repeat (first | (with_reducible exact Y11) | (with_reducible refine Row5.alloc ?_ _) | (with_reducible refine Row5.drew ?_)))
  have N12 : Row5 w12 w7.heap.size (.bool ng) (.int .u64 (lb 0 nn)) (.int .u64 (lb 1 nn)) (.int .u64 (lb 2 nn)) (.int .u64 (lb 3 nn)) := by rw [← hw12]; exact (by repeat (first | (with_reducible exact N11) | (with_reducible refine Row5.alloc ?_ _) | (with_reducible refine Row5.drew ?_)))
  have S12 : Row5 w12 w9.heap.size (.bool ng) (.int .u64 (lb 0 nn)) (.int .u64 (lb 1 nn)) (.int .u64 (lb 2 nn)) (.int .u64 (lb 3 nn)) := by rw [← hw12]; exact (by repeat (first | (with_reducible exact S11) | (with_reducible refine Row5.alloc ?_ _) | (with_reducible refine Row5.drew ?_)))
  have apP_X := X11.lt
  have apP_Y := Y11.lt
  have apP_N := N11.lt
  have apP_S := S11.lt
  have apP_0 := (BW11).size
  have P12 : Row5 w12 w11.heap.size (.bool pg) (.int .u64 (lb 0 pn)) (.int .u64 (lb 1 pn)) (.int .u64 (lb 2 pn)) (.int .u64 (lb 3 pn)) := by rw [← hw12]; exact (by repeat (first | (with_reducible exact Row5.new _ _ _ _ _ _) | ((with_reducible refine Row5.new' _ ?_ _ _ _ _ _); (simp; done)) | (with_reducible refine Row5.alloc ?_ _) | (with_reducible refine Row5.drew ?_)))
  clear X11 Y11 N11 S11
  clear BW11
  clear hw12
  obtain ⟨Xc0, Xc1, Xc2, Xc3, Xc4⟩ := X12.parts
  obtain ⟨Xf0, Xf1, Xf2, Xf3, Xf4⟩ := X12.free
  go_wp2_with fail
  refine (K14.out _).mono ?_
  rintro e w13 ⟨rfl, hb⟩
  have BW13 : Below w.heap.size w w13 := btr (by repeat (first | (with_reducible exact BW12) | (with_reducible refine bal ?_ _) | (with_reducible refine Below.drew ?_) | (with_reducible refine bdn ?_ _))) hb
  have X13 : Row5 w13 w.heap.size (.bool g) (.int .u64 (lb 0 x)) (.int .u64 (lb 1 x)) (.int .u64 (lb 2 x)) (.int .u64 (lb 3 x)) := Row5.keep hb (by repeat (first | (with_reducible exact X12) | (with_reducible refine Row5.alloc ?_ _) | (with_reducible refine Row5.drew ?_)))
  have Y13 : Row5 w13 (w.heap.size + 1) (.bool h) (.int .u64 (lb 0 y)) (.int .u64 (lb 1 y)) (.int .u64 (lb 2 y)) (.int .u64 (lb 3 y)) := Row5.keep hb (by repeat (first | (with_reducible exact Y12) | (with_reducible refine Row5.alloc ?_ _) | (with_reducible refine Row5.drew ?_)))
  have N13 : Row5 w13 w7.heap.size (.bool ng) (.int .u64 (lb 0 nn)) (.int .u64 (lb 1 nn)) (.int .u64 (lb 2 nn)) (.int .u64 (lb 3 nn)) := Row5.keep hb (by repeat (first | (with_reducible exact N12) | (with_reducible refine Row5.alloc ?_ _) | (with_reducible refine Row5.drew ?_)))
  have S13 : Row5 w13 w9.heap.size (.bool ng) (.int .u64 (lb 0 nn)) (.int .u64 (lb 1 nn)) (.int .u64 (lb 2 nn)) (.int .u64 (lb 3 nn)) := Row5.keep hb (by repeat (first | (with_reducible exact S12) | (with_reducible refine Row5.alloc ?_ _) | (with_reducible refine Row5.drew ?_)))
  have P13 : Row5 w13 w11.heap.size (.bool pg) (.int .u64 (lb 0 pn)) (.int .u64 (lb 1 pn)) (.int .u64 (lb 2 pn)) (.int .u64 (lb 3 pn)) := Row5.keep hb (by repeat (first | (with_reducible exact P12) | (with_reducible refine Row5.alloc ?_ _) | (with_reducible refine Row5.drew ?_)))
  clear X12 Y12 N12 S12 P12
  clear BW12
  clear hb
  go_upto_region 13 with (fail)
  go_name_world w14 hw14
  have BW14 : Below w.heap.size w w14 := by rw [← hw14]; repeat (first | (with_reducible exact BW13) | (with_reducible refine bal ?_ _) | (with_reducible refine Below.drew ?_) | (with_reducible refine bdn ?_ _))
  have X14 : Row5 w14 w.heap.size (.bool g) (.int .u64 (lb 0 x)) (.int .u64 (lb 1 x)) (.int .u64 (lb 2 x)) (.int .u64 (lb 3 x)) := by rw [← hw14]; exact (by repeat (first | (with_reducible exact X13) | (with_reducible refine Row5.alloc ?_ _) | (with_reducible refine Row5.drew ?_)))
  have Y14 : Row5 w14 (w.heap.size + 1) (.bool h) (.int .u64 (lb 0 y)) (.int .u64 (lb 1 y)) (.int .u64 (lb 2 y)) (.int .u64 (lb 3 y)) := by rw [← hw14]; exact (by repeat (first | (with_reducible exact Y13) | (with_reducible refine Row5.alloc ?_ _) | (with_reducible refine Row5.drew ?_)))
  have N14 : Row5 w14 w7.heap.size (.bool ng) (.int .u64 (lb 0 nn)) (.int .u64 (lb 1 nn)) (.int .u64 (lb 2 nn)) (.int .u64 (lb 3 nn)) := by rw [← hw14]; exact (by repeat (first | (with_reducible exact N13) | (with_reducible refine Row5.alloc ?_ _) | (with_reducible refine Row5.drew ?_)))
  have S14 : Row5 w14 w9.heap.size (.bool ng) (.int .u64 (lb 0 nn)) (.int .u64 (lb 1 nn)) (.int .u64 (lb 2 nn)) (.int .u64 (lb 3 nn)) := by rw [← hw14]; exact (by repeat (first | (with_reducible exact S13) | (with_reducible refine Row5.alloc ?_ _) | (with_reducible refine Row5.drew ?_)))
  have P14 : Row5 w14 w11.heap.size (.bool pg) (.int .u64 (lb 0 pn)) (.int .u64 (lb 1 pn)) (.int .u64 (lb 2 pn)) (.int .u64 (lb 3 pn)) := by rw [← hw14]; exact (by repeat (first | (with_reducible exact P13) | (with_reducible refine Row5.alloc ?_ _) | (with_reducible refine Row5.drew ?_)))
  have apQ_X := X13.lt
  have apQ_Y := Y13.lt
  have apQ_N := N13.lt
  have apQ_S := S13.lt
  have apQ_P := P13.lt
  have apQ_0 := (BW13).size
  have Q14 : Row5 w14 w13.heap.size (.bool pg) (.int .u64 (lb 0 pn)) (.int .u64 (lb 1 pn)) (.int .u64 (lb 2 pn)) (.int .u64 (lb 3 pn)) := by rw [← hw14]; exact (by repeat (first | (with_reducible exact Row5.new _ _ _ _ _ _) | ((with_reducible refine Row5.new' _ ?_ _ _ _ _ _); (simp; done)) | (with_reducible refine Row5.alloc ?_ _) | (with_reducible refine Row5.drew ?_)))
  clear X13 Y13 N13 S13 P13
  clear BW13
  clear hw14
  obtain ⟨Xc0, Xc1, Xc2, Xc3, Xc4⟩ := X14.parts
  obtain ⟨Xf0, Xf1, Xf2, Xf3, Xf4⟩ := X14.free
  obtain ⟨Nc0, Nc1, Nc2, Nc3, Nc4⟩ := N14.parts
  obtain ⟨Nf0, Nf1, Nf2, Nf3, Nf4⟩ := N14.free
  obtain ⟨Sc0, Sc1, Sc2, Sc3, Sc4⟩ := S14.parts
  obtain ⟨Sf0, Sf1, Sf2, Sf3, Sf4⟩ := S14.free
  obtain ⟨Pc0, Pc1, Pc2, Pc3, Pc4⟩ := P14.parts
  obtain ⟨Pf0, Pf1, Pf2, Pf3, Pf4⟩ := P14.free
  obtain ⟨Qc0, Qc1, Qc2, Qc3, Qc4⟩ := Q14.parts
  obtain ⟨Qf0, Qf1, Qf2, Qf3, Qf4⟩ := Q14.free
  have q3 := Q3.out; have q4 := Q4.out
  go_wp2_with fail
  refine (K2.out _).mono ?_
  rintro e w15 ⟨rfl, hb⟩
  have BW15 : Below w.heap.size w w15 := btr (by repeat (first | (with_reducible exact BW14) | (with_reducible refine bal ?_ _) | (with_reducible refine Below.drew ?_) | (with_reducible refine bdn ?_ _))) hb
  have X15 : Row5 w15 w.heap.size (.bool g) (.int .u64 (lb 0 x)) (.int .u64 (lb 1 x)) (.int .u64 (lb 2 x)) (.int .u64 (lb 3 x)) := Row5.keep hb (by repeat (first | (with_reducible exact X14) | (with_reducible refine Row5.alloc ?_ _) | (with_reducible refine Row5.drew ?_)))
  have Y15 : Row5 w15 (w.heap.size + 1) (.bool h) (.int .u64 (lb 0 y)) (.int .u64 (lb 1 y)) (.int .u64 (lb 2 y)) (.int .u64 (lb 3 y)) := Row5.keep hb (by repeat (first | (with_reducible exact Y14) | (with_reducible refine Row5.alloc ?_ _) | (with_reducible refine Row5.drew ?_)))
  have N15 : Row5 w15 w7.heap.size (.bool ng) (.int .u64 (lb 0 nn)) (.int .u64 (lb 1 nn)) (.int .u64 (lb 2 nn)) (.int .u64 (lb 3 nn)) := Row5.keep hb (by repeat (first | (with_reducible exact N14) | (with_reducible refine Row5.alloc ?_ _) | (with_reducible refine Row5.drew ?_)))
  have S15 : Row5 w15 w9.heap.size (.bool ng) (.int .u64 (lb 0 nn)) (.int .u64 (lb 1 nn)) (.int .u64 (lb 2 nn)) (.int .u64 (lb 3 nn)) := Row5.keep hb (by repeat (first | (with_reducible exact S14) | (with_reducible refine Row5.alloc ?_ _) | (with_reducible refine Row5.drew ?_)))
  have P15 : Row5 w15 w11.heap.size (.bool pg) (.int .u64 (lb 0 pn)) (.int .u64 (lb 1 pn)) (.int .u64 (lb 2 pn)) (.int .u64 (lb 3 pn)) := Row5.keep hb (by repeat (first | (with_reducible exact P14) | (with_reducible refine Row5.alloc ?_ _) | (with_reducible refine Row5.drew ?_)))
  have Q15 : Row5 w15 w13.heap.size (.bool pg) (.int .u64 (lb 0 pn)) (.int .u64 (lb 1 pn)) (.int .u64 (lb 2 pn)) (.int .u64 (lb 3 pn)) := Row5.keep hb (by repeat (first | (with_reducible exact Q14) | (with_reducible refine Row5.alloc ?_ _) | (with_reducible refine Row5.drew ?_)))
  clear X14 Y14 N14 S14 P14 Q14
  clear BW14
  clear hb
  clear q3 q4
  obtain ⟨Yc0, Yc1, Yc2, Yc3, Yc4⟩ := Y15.parts
  obtain ⟨Yf0, Yf1, Yf2, Yf3, Yf4⟩ := Y15.free
  go_wp2_with fail
  refine (K15.out _).mono ?_
  rintro e w16 ⟨rfl, hb⟩
  have BW16 : Below w.heap.size w w16 := btr (by repeat (first | (with_reducible exact BW15) | (with_reducible refine bal ?_ _) | (with_reducible refine Below.drew ?_) | (with_reducible refine bdn ?_ _))) hb
  have X16 : Row5 w16 w.heap.size (.bool g) (.int .u64 (lb 0 x)) (.int .u64 (lb 1 x)) (.int .u64 (lb 2 x)) (.int .u64 (lb 3 x)) := Row5.keep hb (by repeat (first | (with_reducible exact X15) | (with_reducible refine Row5.alloc ?_ _) | (with_reducible refine Row5.drew ?_)))
  have Y16 : Row5 w16 (w.heap.size + 1) (.bool h) (.int .u64 (lb 0 y)) (.int .u64 (lb 1 y)) (.int .u64 (lb 2 y)) (.int .u64 (lb 3 y)) := Row5.keep hb (by repeat (first | (with_reducible exact Y15) | (with_reducible refine Row5.alloc ?_ _) | (with_reducible refine Row5.drew ?_)))
  have N16 : Row5 w16 w7.heap.size (.bool ng) (.int .u64 (lb 0 nn)) (.int .u64 (lb 1 nn)) (.int .u64 (lb 2 nn)) (.int .u64 (lb 3 nn)) := Row5.keep hb (by repeat (first | (with_reducible exact N15) | (with_reducible refine Row5.alloc ?_ _) | (with_reducible refine Row5.drew ?_)))
  have S16 : Row5 w16 w9.heap.size (.bool ng) (.int .u64 (lb 0 nn)) (.int .u64 (lb 1 nn)) (.int .u64 (lb 2 nn)) (.int .u64 (lb 3 nn)) := Row5.keep hb (by repeat (first | (with_reducible exact S15) | (with_reducible refine Row5.alloc ?_ _) | (with_reducible refine Row5.drew ?_)))
  have P16 : Row5 w16 w11.heap.size (.bool pg) (.int .u64 (lb 0 pn)) (.int .u64 (lb 1 pn)) (.int .u64 (lb 2 pn)) (.int .u64 (lb 3 pn)) := Row5.keep hb (by repeat (first | (with_reducible exact P15) | (with_reducible refine Row5.alloc ?_ _) | (with_reducible refine Row5.drew ?_)))
  have Q16 : Row5 w16 w13.heap.size (.bool pg) (.int .u64 (lb 0 pn)) (.int .u64 (lb 1 pn)) (.int .u64 (lb 2 pn)) (.int .u64 (lb 3 pn)) := Row5.keep hb (by repeat (first | (with_reducible exact Q15) | (with_reducible refine Row5.alloc ?_ _) | (with_reducible refine Row5.drew ?_)))
  clear X15 Y15 N15 S15 P15 Q15
  clear BW15
  clear hb
  obtain ⟨Xc0, Xc1, Xc2, Xc3, Xc4⟩ := X16.parts
  obtain ⟨Xf0, Xf1, Xf2, Xf3, Xf4⟩ := X16.free
  obtain ⟨Yc0, Yc1, Yc2, Yc3, Yc4⟩ := Y16.parts
  obtain ⟨Yf0, Yf1, Yf2, Yf3, Yf4⟩ := Y16.free
  go_wp2_with fail
  refine (K16.out _).mono ?_
  rintro e w17 ⟨rfl, hb⟩
  have BW17 : Below w.heap.size w w17 := btr (by repeat (first | (with_reducible exact BW16) | (with_reducible refine bal ?_ _) | (with_reducible refine Below.drew ?_) | (with_reducible refine bdn ?_ _))) hb
  have X17 : Row5 w17 w.heap.size (.bool g) (.int .u64 (lb 0 x)) (.int .u64 (lb 1 x)) (.int .u64 (lb 2 x)) (.int .u64 (lb 3 x)) := Row5.keep hb (by repeat (first | (with_reducible exact X16) | (with_reducible refine Row5.alloc ?_ _) | (with_reducible refine Row5.drew ?_)))
  have Y17 : Row5 w17 (w.heap.size + 1) (.bool h) (.int .u64 (lb 0 y)) (.int .u64 (lb 1 y)) (.int .u64 (lb 2 y)) (.int .u64 (lb 3 y)) := Row5.keep hb (by repeat (first | (with_reducible exact Y16) | (with_reducible refine Row5.alloc ?_ _) | (with_reducible refine Row5.drew ?_)))
  have N17 : Row5 w17 w7.heap.size (.bool ng) (.int .u64 (lb 0 nn)) (.int .u64 (lb 1 nn)) (.int .u64 (lb 2 nn)) (.int .u64 (lb 3 nn)) := Row5.keep hb (by repeat (first | (with_reducible exact N16) | (with_reducible refine Row5.alloc ?_ _) | (with_reducible refine Row5.drew ?_)))
  have S17 : Row5 w17 w9.heap.size (.bool ng) (.int .u64 (lb 0 nn)) (.int .u64 (lb 1 nn)) (.int .u64 (lb 2 nn)) (.int .u64 (lb 3 nn)) := Row5.keep hb (by repeat (first | (with_reducible exact S16) | (with_reducible refine Row5.alloc ?_ _) | (with_reducible refine Row5.drew ?_)))
  have P17 : Row5 w17 w11.heap.size (.bool pg) (.int .u64 (lb 0 pn)) (.int .u64 (lb 1 pn)) (.int .u64 (lb 2 pn)) (.int .u64 (lb 3 pn)) := Row5.keep hb (by repeat (first | (with_reducible exact P16) | (with_reducible refine Row5.alloc ?_ _) | (with_reducible refine Row5.drew ?_)))
  have Q17 : Row5 w17 w13.heap.size (.bool pg) (.int .u64 (lb 0 pn)) (.int .u64 (lb 1 pn)) (.int .u64 (lb 2 pn)) (.int .u64 (lb 3 pn)) := Row5.keep hb (by repeat (first | (with_reducible exact Q16) | (with_reducible refine Row5.alloc ?_ _) | (with_reducible refine Row5.drew ?_)))
  clear X16 Y16 N16 S16 P16 Q16
  clear BW16
  clear hb
  go_wp2_with fail
  refine (told2_true _ (tabs_on HT.out (by repeat (first | (with_reducible exact BW17) | (with_reducible refine bal ?_ _) | (with_reducible refine Below.drew ?_) | (with_reducible refine bdn ?_ _))))).mono ?_
  rintro e w18 ⟨rfl, hb⟩
  have BW18 : Below w.heap.size w w18 := btr (by repeat (first | (with_reducible exact BW17) | (with_reducible refine bal ?_ _) | (with_reducible refine Below.drew ?_) | (with_reducible refine bdn ?_ _))) hb
  have X18 : Row5 w18 w.heap.size (.bool g) (.int .u64 (lb 0 x)) (.int .u64 (lb 1 x)) (.int .u64 (lb 2 x)) (.int .u64 (lb 3 x)) := Row5.keep hb (by repeat (first | (with_reducible exact X17) | (with_reducible refine Row5.alloc ?_ _) | (with_reducible refine Row5.drew ?_)))
  have Y18 : Row5 w18 (w.heap.size + 1) (.bool h) (.int .u64 (lb 0 y)) (.int .u64 (lb 1 y)) (.int .u64 (lb 2 y)) (.int .u64 (lb 3 y)) := Row5.keep hb (by repeat (first | (with_reducible exact Y17) | (with_reducible refine Row5.alloc ?_ _) | (with_reducible refine Row5.drew ?_)))
  have N18 : Row5 w18 w7.heap.size (.bool ng) (.int .u64 (lb 0 nn)) (.int .u64 (lb 1 nn)) (.int .u64 (lb 2 nn)) (.int .u64 (lb 3 nn)) := Row5.keep hb (by repeat (first | (with_reducible exact N17) | (with_reducible refine Row5.alloc ?_ _) | (with_reducible refine Row5.drew ?_)))
  have S18 : Row5 w18 w9.heap.size (.bool ng) (.int .u64 (lb 0 nn)) (.int .u64 (lb 1 nn)) (.int .u64 (lb 2 nn)) (.int .u64 (lb 3 nn)) := Row5.keep hb (by repeat (first | (with_reducible exact S17) | (with_reducible refine Row5.alloc ?_ _) | (with_reducible refine Row5.drew ?_)))
  have P18 : Row5 w18 w11.heap.size (.bool pg) (.int .u64 (lb 0 pn)) (.int .u64 (lb 1 pn)) (.int .u64 (lb 2 pn)) (.int .u64 (lb 3 pn)) := Row5.keep hb (by repeat (first | (with_reducible exact P17) | (with_reducible refine Row5.alloc ?_ _) | (with_reducible refine Row5.drew ?_)))
  have Q18 : Row5 w18 w13.heap.size (.bool pg) (.int .u64 (lb 0 pn)) (.int .u64 (lb 1 pn)) (.int .u64 (lb 2 pn)) (.int .u64 (lb 3 pn)) := Row5.keep hb (by repeat (first | (with_reducible exact Q17) | (with_reducible refine Row5.alloc ?_ _) | (with_reducible refine Row5.drew ?_)))
  clear X17 Y17 N17 S17 P17 Q17
  clear BW17
  clear hb
  obtain ⟨Xc0, Xc1, Xc2, Xc3, Xc4⟩ := X18.parts
  obtain ⟨Xf0, Xf1, Xf2, Xf3, Xf4⟩ := X18.free
  obtain ⟨Yc0, Yc1, Yc2, Yc3, Yc4⟩ := Y18.parts
  obtain ⟨Yf0, Yf1, Yf2, Yf3, Yf4⟩ := Y18.free
  go_wp2_with fail
  refine (K17.out _).mono ?_
  rintro e w19 ⟨rfl, hb⟩
  have BW19 : Below w.heap.size w w19 := btr (by repeat (first | (with_reducible exact BW18) | (with_reducible refine bal ?_ _) | (with_reducible refine Below.drew ?_) | (with_reducible refine bdn ?_ _))) hb
  have X19 : Row5 w19 w.heap.size (.bool g) (.int .u64 (lb 0 x)) (.int .u64 (lb 1 x)) (.int .u64 (lb 2 x)) (.int .u64 (lb 3 x)) := Row5.keep hb (by repeat (first | (with_reducible exact X18) | (with_reducible refine Row5.alloc ?_ _) | (with_reducible refine Row5.drew ?_)))
  have Y19 : Row5 w19 (w.heap.size + 1) (.bool h) (.int .u64 (lb 0 y)) (.int .u64 (lb 1 y)) (.int .u64 (lb 2 y)) (.int .u64 (lb 3 y)) := Row5.keep hb (by repeat (first | (with_reducible exact Y18) | (with_reducible refine Row5.alloc ?_ _) | (with_reducible refine Row5.drew ?_)))
  have N19 : Row5 w19 w7.heap.size (.bool ng) (.int .u64 (lb 0 nn)) (.int .u64 (lb 1 nn)) (.int .u64 (lb 2 nn)) (.int .u64 (lb 3 nn)) := Row5.keep hb (by repeat (first | (with_reducible exact N18) | (with_reducible refine Row5.alloc ?_ _) | (with_reducible refine Row5.drew ?_)))
  have S19 : Row5 w19 w9.heap.size (.bool ng) (.int .u64 (lb 0 nn)) (.int .u64 (lb 1 nn)) (.int .u64 (lb 2 nn)) (.int .u64 (lb 3 nn)) := Row5.keep hb (by repeat (first | (with_reducible exact S18) | (with_reducible refine Row5.alloc ?_ _) | (with_reducible refine Row5.drew ?_)))
  have P19 : Row5 w19 w11.heap.size (.bool pg) (.int .u64 (lb 0 pn)) (.int .u64 (lb 1 pn)) (.int .u64 (lb 2 pn)) (.int .u64 (lb 3 pn)) := Row5.keep hb (by repeat (first | (with_reducible exact P18) | (with_reducible refine Row5.alloc ?_ _) | (with_reducible refine Row5.drew ?_)))
  have Q19 : Row5 w19 w13.heap.size (.bool pg) (.int .u64 (lb 0 pn)) (.int .u64 (lb 1 pn)) (.int .u64 (lb 2 pn)) (.int .u64 (lb 3 pn)) := Row5.keep hb (by repeat (first | (with_reducible exact Q18) | (with_reducible refine Row5.alloc ?_ _) | (with_reducible refine Row5.drew ?_)))
  clear X18 Y18 N18 S18 P18 Q18
  clear BW18
  clear hb
  go_wp2
  go_ret
  exact ⟨rfl, BW19⟩
set_option maxHeartbeats 4000000 in
set_option maxRecDepth 100000 in
theorem numbers_tf (g h vg ng pg tb ub nb pb : Bool) (x y vn un nn pn : Nat) (v u tv uv : Int) (w : World) (hT : Tabs w)
    (q1 : eq5 vg (lb 0 vn) (lb 1 vn) (lb 2 vn) (lb 3 vn) vg (lb 0 vn) (lb 1 vn) (lb 2 vn) (lb 3 vn) = true) (q2 : eq5 false (lb 0 un) (lb 1 un) (lb 2 un) (lb 3 un) false (lb 0 un) (lb 1 un) (lb 2 un) (lb 3 un) = true) (q3 : eq5 ng (lb 0 nn) (lb 1 nn) (lb 2 nn) (lb 3 nn) ng (lb 0 nn) (lb 1 nn) (lb 2 nn) (lb 3 nn) = true) (q4 : eq5 pg (lb 0 pn) (lb 1 pn) (lb 2 pn) (lb 3 pn) pg (lb 0 pn) (lb 1 pn) (lb 2 pn) (lb 3 pn) = true)
    (k1 : ∀ W, Calls Tryd.prog 28 #[I5 g x] W fun e w' => e = .returned (.bool true) ∧ Below W.heap.size W w')
    (k2 : ∀ W, Calls Tryd.prog 29 #[I5 g x] W fun e w' => e = .returned (.bool true) ∧ Below W.heap.size W w')
    (k3 : ∀ W, Calls Tryd.prog 30 #[.int .i64 v] W fun e w' => e = .returned (I5 vg vn) ∧ Below W.heap.size W w')
    (k4 : ∀ W, Calls Tryd.prog 31 #[.int .i64 v] W fun e w' => e = .returned (I5 vg vn) ∧ Below W.heap.size W w')
    (k5 : ∀ W, Calls Tryd.prog 32 #[.int .u64 u] W fun e w' => e = .returned (I5 false un) ∧ Below W.heap.size W w')
    (k6 : ∀ W, Calls Tryd.prog 33 #[.int .u64 u] W fun e w' => e = .returned (I5 false un) ∧ Below W.heap.size W w')
    (k7 : ∀ W, Calls Tryd.prog 34 #[I5 g x] W fun e w' => e = .returned (.tuple #[.int .i64 tv, .bool tb]) ∧ Below W.heap.size W w')
    (k8 : ∀ W, Calls Tryd.prog 35 #[I5 g x] W fun e w' => e = .returned (.tuple #[.int .i64 tv, .bool tb]) ∧ Below W.heap.size W w')
    (k9 : ∀ W, Calls Tryd.prog 36 #[I5 g x] W fun e w' => e = .returned (.tuple #[.int .u64 uv, .bool ub]) ∧ Below W.heap.size W w')
    (k10 : ∀ W, Calls Tryd.prog 37 #[I5 g x] W fun e w' => e = .returned (.tuple #[.int .u64 uv, .bool ub]) ∧ Below W.heap.size W w')
    (k11 : ∀ W, Calls Tryd.prog 38 #[I5 g x] W fun e w' => e = .returned (.tuple #[I5 ng nn, .bool nb]) ∧ Below W.heap.size W w')
    (k12 : ∀ W, Calls Tryd.prog 39 #[I5 g x, .bool true] W fun e w' => e = .returned (.tuple #[I5 ng nn, .bool nb]) ∧ Below W.heap.size W w')
    (k13 : ∀ W, Calls Tryd.prog 40 #[I5 g x] W fun e w' => e = .returned (.tuple #[I5 pg pn, .bool pb]) ∧ Below W.heap.size W w')
    (k14 : ∀ W, Calls Tryd.prog 39 #[I5 g x, .bool false] W fun e w' => e = .returned (.tuple #[I5 pg pn, .bool pb]) ∧ Below W.heap.size W w')
    (k15 : ∀ W, Calls Tryd.prog 29 #[I5 h y] W fun e w' => e = .returned (.bool false) ∧ Below W.heap.size W w')
    (k17 : ∀ W, Calls Tryd.prog 43 #[I5 g x, I5 h y] W fun e w' => e = .returned (.int .i64 0) ∧ Below W.heap.size W w') :
    Calls Tryd.prog 5 #[I5 g x, I5 h y, .int .i64 v, .int .u64 u] w fun e w' => e = .returned (.bool true) ∧ Below w.heap.size w w' := by
  unfold I5 at *
  have HT := Lib.hid hT; have K1 := Lib.hid k1; have K2 := Lib.hid k2; have K3 := Lib.hid k3; have K4 := Lib.hid k4; have K5 := Lib.hid k5; have K6 := Lib.hid k6; have K7 := Lib.hid k7; have K8 := Lib.hid k8; have K9 := Lib.hid k9; have K10 := Lib.hid k10; have K11 := Lib.hid k11; have K12 := Lib.hid k12; have K13 := Lib.hid k13; have K14 := Lib.hid k14; have K15 := Lib.hid k15; have K17 := Lib.hid k17; have Q3 := Lib.hid q3; have Q4 := Lib.hid q4; clear hT q3 q4 k1 k2 k3 k4 k5 k6 k7 k8 k9 k10 k11 k12 k13 k14 k15 k17
  have e1 : (tb != tb) = false := bne_self_eq_false tb; have e2 : (ub != ub) = false := bne_self_eq_false ub; have e3 : (nb != nb) = false := bne_self_eq_false nb; have e4 : (pb != pb) = false := bne_self_eq_false pb
  have e5 : (tv != tv) = false := bne_self_eq_false tv; have e6 : (uv != uv) = false := bne_self_eq_false uv
  go_enter Tryd.func5, Tryd.ntmps5
  go_upto_region 1 with (fail)
  go_name_world w1 hw1
  have BW1 : Below w.heap.size w w1 := by rw [← hw1]; repeat (first | (with_reducible exact Below.refl _ _) | (with_reducible refine bal ?_ _) | (with_reducible refine Below.drew ?_) | (with_reducible refine bdn ?_ _))
  have X1 : Row5 w1 w.heap.size (.bool g) (.int .u64 (lb 0 x)) (.int .u64 (lb 1 x)) (.int .u64 (lb 2 x)) (.int .u64 (lb 3 x)) := by rw [← hw1]; exact (by repeat (first | (with_reducible exact Row5.new _ _ _ _ _ _) | ((with_reducible refine Row5.new' _ ?_ _ _ _ _ _); (simp; done)) | (with_reducible refine Row5.alloc ?_ _) | (with_reducible refine Row5.drew ?_)))
  have Y1 : Row5 w1 (w.heap.size + 1) (.bool h) (.int .u64 (lb 0 y)) (.int .u64 (lb 1 y)) (.int .u64 (lb 2 y)) (.int .u64 (lb 3 y)) := by rw [← hw1]; exact (by repeat (first | (with_reducible exact Row5.new _ _ _ _ _ _) | ((with_reducible refine Row5.new' _ ?_ _ _ _ _ _); (simp; done)) | (with_reducible refine Row5.alloc ?_ _) | (with_reducible refine Row5.drew ?_)))
  clear hw1
  obtain ⟨qX0, qX1, qX2, qX3, qX4⟩ := X1.parts
  have gX0 := cell_regrown qX0
  have gX1 := cell_regrown qX1
  have gX2 := cell_regrown qX2
  have gX3 := cell_regrown qX3
  have gX4 := cell_regrown qX4
  clear qX0 qX1 qX2 qX3 qX4
  have cq0 := fun (d : Nat) (os : Array Obj) => Calls.regrown_of (w := w1) (d := d) (os := os) (K1.out _)
  have cq1 := fun (d : Nat) (os : Array Obj) => Calls.regrown_of (w := w1) (d := d) (os := os) (K2.out _)
  have cq2 := fun (d : Nat) (os : Array Obj) => Calls.regrown_of (w := w1) (d := d) (os := os) (K3.out _)
  have cq3 := fun (d : Nat) (os : Array Obj) => Calls.regrown_of (w := w1) (d := d) (os := os) (K4.out _)
  have cq4 := fun (d : Nat) (os : Array Obj) => Calls.regrown_of (w := w1) (d := d) (os := os) (K5.out _)
  have cq5 := fun (d : Nat) (os : Array Obj) => Calls.regrown_of (w := w1) (d := d) (os := os) (K6.out _)
  refine wp_region_quiet_below (by kernel_rfl) (by kernel_rfl) ?_
  repeat (first | go_big_quiet_step ((first | (with_reducible exact cq0 _ _) | (with_reducible exact cq1 _ _) | (with_reducible exact cq2 _ _) | (with_reducible exact cq3 _ _) | (with_reducible exact cq4 _ _) | (with_reducible exact cq5 _ _))) | quiet_step (first | (with_reducible exact cq0 _ _) | (with_reducible exact cq1 _ _) | (with_reducible exact cq2 _ _) | (with_reducible exact cq3 _ _) | (with_reducible exact cq4 _ _) | (with_reducible exact cq5 _ _)))
  refine wpQuiet_nil ?_
  intro _ hw'
  obtain ⟨⟨dq, osq⟩, hw''⟩ := hw'
  subst hw''
  clear gX0 gX1 gX2 gX3 gX4 cq0 cq1 cq2 cq3 cq4 cq5
  have hb := below_regrown w1 dq osq
  generalize grow (redrawn w1 dq) osq = w2 at *
  have BW2 : Below w.heap.size w w2 := btr BW1 hb
  have X2 : Row5 w2 w.heap.size (.bool g) (.int .u64 (lb 0 x)) (.int .u64 (lb 1 x)) (.int .u64 (lb 2 x)) (.int .u64 (lb 3 x)) := Row5.keep hb X1
  have Y2 : Row5 w2 (w.heap.size + 1) (.bool h) (.int .u64 (lb 0 y)) (.int .u64 (lb 1 y)) (.int .u64 (lb 2 y)) (.int .u64 (lb 3 y)) := Row5.keep hb Y1
  clear X1 Y1 BW1 hb
  clear q1 q2
  obtain ⟨Xc0, Xc1, Xc2, Xc3, Xc4⟩ := X2.parts
  obtain ⟨Xf0, Xf1, Xf2, Xf3, Xf4⟩ := X2.free
  go_wp2_with fail
  refine (K7.out _).mono ?_
  rintro e w3 ⟨rfl, hb⟩
  have BW3 : Below w.heap.size w w3 := btr (by repeat (first | (with_reducible exact BW2) | (with_reducible refine bal ?_ _) | (with_reducible refine Below.drew ?_) | (with_reducible refine bdn ?_ _))) hb
  have X3 : Row5 w3 w.heap.size (.bool g) (.int .u64 (lb 0 x)) (.int .u64 (lb 1 x)) (.int .u64 (lb 2 x)) (.int .u64 (lb 3 x)) := Row5.keep hb (by repeat (first | (with_reducible exact X2) | (with_reducible refine Row5.alloc ?_ _) | (with_reducible refine Row5.drew ?_)))
  have Y3 : Row5 w3 (w.heap.size + 1) (.bool h) (.int .u64 (lb 0 y)) (.int .u64 (lb 1 y)) (.int .u64 (lb 2 y)) (.int .u64 (lb 3 y)) := Row5.keep hb (by repeat (first | (with_reducible exact Y2) | (with_reducible refine Row5.alloc ?_ _) | (with_reducible refine Row5.drew ?_)))
  clear X2 Y2
  clear BW2
  clear hb
  obtain ⟨Xc0, Xc1, Xc2, Xc3, Xc4⟩ := X3.parts
  obtain ⟨Xf0, Xf1, Xf2, Xf3, Xf4⟩ := X3.free
  go_wp2_with fail
  refine (K8.out _).mono ?_
  rintro e w4 ⟨rfl, hb⟩
  have BW4 : Below w.heap.size w w4 := btr (by repeat (first | (with_reducible exact BW3) | (with_reducible refine bal ?_ _) | (with_reducible refine Below.drew ?_) | (with_reducible refine bdn ?_ _))) hb
  have X4 : Row5 w4 w.heap.size (.bool g) (.int .u64 (lb 0 x)) (.int .u64 (lb 1 x)) (.int .u64 (lb 2 x)) (.int .u64 (lb 3 x)) := Row5.keep hb (by repeat (first | (with_reducible exact X3) | (with_reducible refine Row5.alloc ?_ _) | (with_reducible refine Row5.drew ?_)))
  have Y4 : Row5 w4 (w.heap.size + 1) (.bool h) (.int .u64 (lb 0 y)) (.int .u64 (lb 1 y)) (.int .u64 (lb 2 y)) (.int .u64 (lb 3 y)) := Row5.keep hb (by repeat (first | (with_reducible exact Y3) | (with_reducible refine Row5.alloc ?_ _) | (with_reducible refine Row5.drew ?_)))
  clear X3 Y3
  clear BW3
  clear hb
  obtain ⟨Xc0, Xc1, Xc2, Xc3, Xc4⟩ := X4.parts
  obtain ⟨Xf0, Xf1, Xf2, Xf3, Xf4⟩ := X4.free
  go_wp2_with fail
  refine (K9.out _).mono ?_
  rintro e w5 ⟨rfl, hb⟩
  have BW5 : Below w.heap.size w w5 := btr (by repeat (first | (with_reducible exact BW4) | (with_reducible refine bal ?_ _) | (with_reducible refine Below.drew ?_) | (with_reducible refine bdn ?_ _))) hb
  have X5 : Row5 w5 w.heap.size (.bool g) (.int .u64 (lb 0 x)) (.int .u64 (lb 1 x)) (.int .u64 (lb 2 x)) (.int .u64 (lb 3 x)) := Row5.keep hb (by repeat (first | (with_reducible exact X4) | (with_reducible refine Row5.alloc ?_ _) | (with_reducible refine Row5.drew ?_)))
  have Y5 : Row5 w5 (w.heap.size + 1) (.bool h) (.int .u64 (lb 0 y)) (.int .u64 (lb 1 y)) (.int .u64 (lb 2 y)) (.int .u64 (lb 3 y)) := Row5.keep hb (by repeat (first | (with_reducible exact Y4) | (with_reducible refine Row5.alloc ?_ _) | (with_reducible refine Row5.drew ?_)))
  clear X4 Y4
  clear BW4
  clear hb
  obtain ⟨Xc0, Xc1, Xc2, Xc3, Xc4⟩ := X5.parts
  obtain ⟨Xf0, Xf1, Xf2, Xf3, Xf4⟩ := X5.free
  go_wp2_with fail
  refine (K10.out _).mono ?_
  rintro e w6 ⟨rfl, hb⟩
  have BW6 : Below w.heap.size w w6 := btr (by repeat (first | (with_reducible exact BW5) | (with_reducible refine bal ?_ _) | (with_reducible refine Below.drew ?_) | (with_reducible refine bdn ?_ _))) hb
  have X6 : Row5 w6 w.heap.size (.bool g) (.int .u64 (lb 0 x)) (.int .u64 (lb 1 x)) (.int .u64 (lb 2 x)) (.int .u64 (lb 3 x)) := Row5.keep hb (by repeat (first | (with_reducible exact X5) | (with_reducible refine Row5.alloc ?_ _) | (with_reducible refine Row5.drew ?_)))
  have Y6 : Row5 w6 (w.heap.size + 1) (.bool h) (.int .u64 (lb 0 y)) (.int .u64 (lb 1 y)) (.int .u64 (lb 2 y)) (.int .u64 (lb 3 y)) := Row5.keep hb (by repeat (first | (with_reducible exact Y5) | (with_reducible refine Row5.alloc ?_ _) | (with_reducible refine Row5.drew ?_)))
  clear X5 Y5
  clear BW5
  clear hb
  obtain ⟨Xc0, Xc1, Xc2, Xc3, Xc4⟩ := X6.parts
  obtain ⟨Xf0, Xf1, Xf2, Xf3, Xf4⟩ := X6.free
  go_wp2_with fail
  refine (K11.out _).mono ?_
  rintro e w7 ⟨rfl, hb⟩
  have BW7 : Below w.heap.size w w7 := btr (by repeat (first | (with_reducible exact BW6) | (with_reducible refine bal ?_ _) | (with_reducible refine Below.drew ?_) | (with_reducible refine bdn ?_ _))) hb
  have X7 : Row5 w7 w.heap.size (.bool g) (.int .u64 (lb 0 x)) (.int .u64 (lb 1 x)) (.int .u64 (lb 2 x)) (.int .u64 (lb 3 x)) := Row5.keep hb (by repeat (first | (with_reducible exact X6) | (with_reducible refine Row5.alloc ?_ _) | (with_reducible refine Row5.drew ?_)))
  have Y7 : Row5 w7 (w.heap.size + 1) (.bool h) (.int .u64 (lb 0 y)) (.int .u64 (lb 1 y)) (.int .u64 (lb 2 y)) (.int .u64 (lb 3 y)) := Row5.keep hb (by repeat (first | (with_reducible exact Y6) | (with_reducible refine Row5.alloc ?_ _) | (with_reducible refine Row5.drew ?_)))
  clear X6 Y6
  clear BW6
  clear hb
  go_upto_region 10 with (fail)
  go_name_world w8 hw8
  have BW8 : Below w.heap.size w w8 := by rw [← hw8]; repeat (first | (with_reducible exact BW7) | (with_reducible refine bal ?_ _) | (with_reducible refine Below.drew ?_) | (with_reducible refine bdn ?_ _))
  have X8 : Row5 w8 w.heap.size (.bool g) (.int .u64 (lb 0 x)) (.int .u64 (lb 1 x)) (.int .u64 (lb 2 x)) (.int .u64 (lb 3 x)) := by rw [← hw8]; exact (by repeat (first | (with_reducible exact X7) | (with_reducible refine Row5.alloc ?_ _) | (with_reducible refine Row5.drew ?_)))
  have Y8 : Row5 w8 (w.heap.size + 1) (.bool h) (.int .u64 (lb 0 y)) (.int .u64 (lb 1 y)) (.int .u64 (lb 2 y)) (.int .u64 (lb 3 y)) := by rw [← hw8]; exact (by repeat (first | (with_reducible exact Y7) | (with_reducible refine Row5.alloc ?_ _) | (with_reducible refine Row5.drew ?_)))
  have apN_X := X7.lt
  have apN_Y := Y7.lt
  have apN_0 := (BW7).size
  have N8 : Row5 w8 w7.heap.size (.bool ng) (.int .u64 (lb 0 nn)) (.int .u64 (lb 1 nn)) (.int .u64 (lb 2 nn)) (.int .u64 (lb 3 nn)) := by rw [← hw8]; exact (by repeat (first | (with_reducible exact Row5.new _ _ _ _ _ _) | ((with_reducible refine Row5.new' _ ?_ _ _ _ _ _); (simp; done)) | (with_reducible refine Row5.alloc ?_ _) | (with_reducible refine Row5.drew ?_)))
  clear X7 Y7
  clear BW7
  clear hw8
  obtain ⟨Xc0, Xc1, Xc2, Xc3, Xc4⟩ := X8.parts
  obtain ⟨Xf0, Xf1, Xf2, Xf3, Xf4⟩ := X8.free
  go_wp2_with fail
  refine (K12.out _).mono ?_
  rintro e w9 ⟨rfl, hb⟩
  have BW9 : Below w.heap.size w w9 := btr (by repeat (first | (with_reducible exact BW8) | (with_reducible refine bal ?_ _) | (with_reducible refine Below.drew ?_) | (with_reducible refine bdn ?_ _))) hb
  have X9 : Row5 w9 w.heap.size (.bool g) (.int .u64 (lb 0 x)) (.int .u64 (lb 1 x)) (.int .u64 (lb 2 x)) (.int .u64 (lb 3 x)) := Row5.keep hb (by repeat (first | (with_reducible exact X8) | (with_reducible refine Row5.alloc ?_ _) | (with_reducible refine Row5.drew ?_)))
  have Y9 : Row5 w9 (w.heap.size + 1) (.bool h) (.int .u64 (lb 0 y)) (.int .u64 (lb 1 y)) (.int .u64 (lb 2 y)) (.int .u64 (lb 3 y)) := Row5.keep hb (by repeat (first | (with_reducible exact Y8) | (with_reducible refine Row5.alloc ?_ _) | (with_reducible refine Row5.drew ?_)))
  have N9 : Row5 w9 w7.heap.size (.bool ng) (.int .u64 (lb 0 nn)) (.int .u64 (lb 1 nn)) (.int .u64 (lb 2 nn)) (.int .u64 (lb 3 nn)) := Row5.keep hb (by repeat (first | (with_reducible exact N8) | (with_reducible refine Row5.alloc ?_ _) | (with_reducible refine Row5.drew ?_)))
  clear X8 Y8 N8
  clear BW8
  clear hb
  go_upto_region 11 with (fail)
  go_name_world w10 hw10
  have BW10 : Below w.heap.size w w10 := by rw [← hw10]; repeat (first | (with_reducible exact BW9) | (with_reducible refine bal ?_ _) | (with_reducible refine Below.drew ?_) | (with_reducible refine bdn ?_ _))
  have X10 : Row5 w10 w.heap.size (.bool g) (.int .u64 (lb 0 x)) (.int .u64 (lb 1 x)) (.int .u64 (lb 2 x)) (.int .u64 (lb 3 x)) := by rw [← hw10]; exact (by repeat (first | (with_reducible exact X9) | (with_reducible refine Row5.alloc ?_ _) | (with_reducible refine Row5.drew ?_)))
  have Y10 : Row5 w10 (w.heap.size + 1) (.bool h) (.int .u64 (lb 0 y)) (.int .u64 (lb 1 y)) (.int .u64 (lb 2 y)) (.int .u64 (lb 3 y)) := by rw [← hw10]; exact (by repeat (first | (with_reducible exact Y9) | (with_reducible refine Row5.alloc ?_ _) | (with_reducible refine Row5.drew ?_)))
  have N10 : Row5 w10 w7.heap.size (.bool ng) (.int .u64 (lb 0 nn)) (.int .u64 (lb 1 nn)) (.int .u64 (lb 2 nn)) (.int .u64 (lb 3 nn)) := by rw [← hw10]; exact (by repeat (first | (with_reducible exact N9) | (with_reducible refine Row5.alloc ?_ _) | (with_reducible refine Row5.drew ?_)))
  have apS_X := X9.lt
  have apS_Y := Y9.lt
  have apS_N := N9.lt
  have apS_0 := (BW9).size
  have S10 : Row5 w10 w9.heap.size (.bool ng) (.int .u64 (lb 0 nn)) (.int .u64 (lb 1 nn)) (.int .u64 (lb 2 nn)) (.int .u64 (lb 3 nn)) := by rw [← hw10]; exact (by repeat (first | (with_reducible exact Row5.new _ _ _ _ _ _) | ((with_reducible refine Row5.new' _ ?_ _ _ _ _ _); (simp; done)) | (with_reducible refine Row5.alloc ?_ _) | (with_reducible refine Row5.drew ?_)))
  clear X9 Y9 N9
  clear BW9
  clear hw10
  obtain ⟨Xc0, Xc1, Xc2, Xc3, Xc4⟩ := X10.parts
  obtain ⟨Xf0, Xf1, Xf2, Xf3, Xf4⟩ := X10.free
  go_wp2_with fail
  refine (K13.out _).mono ?_
  rintro e w11 ⟨rfl, hb⟩
  have BW11 : Below w.heap.size w w11 := btr (by repeat (first | (with_reducible exact BW10) | (with_reducible refine bal ?_ _) | (with_reducible refine Below.drew ?_) | (with_reducible refine bdn ?_ _))) hb
  have X11 : Row5 w11 w.heap.size (.bool g) (.int .u64 (lb 0 x)) (.int .u64 (lb 1 x)) (.int .u64 (lb 2 x)) (.int .u64 (lb 3 x)) := Row5.keep hb (by repeat (first | (with_reducible exact X10) | (with_reducible refine Row5.alloc ?_ _) | (with_reducible refine Row5.drew ?_)))
  have Y11 : Row5 w11 (w.heap.size + 1) (.bool h) (.int .u64 (lb 0 y)) (.int .u64 (lb 1 y)) (.int .u64 (lb 2 y)) (.int .u64 (lb 3 y)) := Row5.keep hb (by repeat (first | (with_reducible exact Y10) | (with_reducible refine Row5.alloc ?_ _) | (with_reducible refine Row5.drew ?_)))
  have N11 : Row5 w11 w7.heap.size (.bool ng) (.int .u64 (lb 0 nn)) (.int .u64 (lb 1 nn)) (.int .u64 (lb 2 nn)) (.int .u64 (lb 3 nn)) := Row5.keep hb (by repeat (first | (with_reducible exact N10) | (with_reducible refine Row5.alloc ?_ _) | (with_reducible refine Row5.drew ?_)))
  have S11 : Row5 w11 w9.heap.size (.bool ng) (.int .u64 (lb 0 nn)) (.int .u64 (lb 1 nn)) (.int .u64 (lb 2 nn)) (.int .u64 (lb 3 nn)) := Row5.keep hb (by repeat (first | (with_reducible exact S10) | (with_reducible refine Row5.alloc ?_ _) | (with_reducible refine Row5.drew ?_)))
  clear X10 Y10 N10 S10
  clear BW10
  clear hb
  go_upto_region 12 with (fail)
  go_name_world w12 hw12
  have BW12 : Below w.heap.size w w12 := by rw [← hw12]; repeat (first | (with_reducible exact BW11) | (with_reducible refine bal ?_ _) | (with_reducible refine Below.drew ?_) | (with_reducible refine bdn ?_ _))
  have X12 : Row5 w12 w.heap.size (.bool g) (.int .u64 (lb 0 x)) (.int .u64 (lb 1 x)) (.int .u64 (lb 2 x)) (.int .u64 (lb 3 x)) := by rw [← hw12]; exact (by repeat (first | (with_reducible exact X11) | (with_reducible refine Row5.alloc ?_ _) | (with_reducible refine Row5.drew ?_)))
  have Y12 : Row5 w12 (w.heap.size + 1) (.bool h) (.int .u64 (lb 0 y)) (.int .u64 (lb 1 y)) (.int .u64 (lb 2 y)) (.int .u64 (lb 3 y)) := by rw [← hw12]; exact (by repeat (first | (with_reducible exact Y11) | (with_reducible refine Row5.alloc ?_ _) | (with_reducible refine Row5.drew ?_)))
  have N12 : Row5 w12 w7.heap.size (.bool ng) (.int .u64 (lb 0 nn)) (.int .u64 (lb 1 nn)) (.int .u64 (lb 2 nn)) (.int .u64 (lb 3 nn)) := by rw [← hw12]; exact (by repeat (first | (with_reducible exact N11) | (with_reducible refine Row5.alloc ?_ _) | (with_reducible refine Row5.drew ?_)))
  have S12 : Row5 w12 w9.heap.size (.bool ng) (.int .u64 (lb 0 nn)) (.int .u64 (lb 1 nn)) (.int .u64 (lb 2 nn)) (.int .u64 (lb 3 nn)) := by rw [← hw12]; exact (by repeat (first | (with_reducible exact S11) | (with_reducible refine Row5.alloc ?_ _) | (with_reducible refine Row5.drew ?_)))
  have apP_X := X11.lt
  have apP_Y := Y11.lt
  have apP_N := N11.lt
  have apP_S := S11.lt
  have apP_0 := (BW11).size
  have P12 : Row5 w12 w11.heap.size (.bool pg) (.int .u64 (lb 0 pn)) (.int .u64 (lb 1 pn)) (.int .u64 (lb 2 pn)) (.int .u64 (lb 3 pn)) := by rw [← hw12]; exact (by repeat (first | (with_reducible exact Row5.new _ _ _ _ _ _) | ((with_reducible refine Row5.new' _ ?_ _ _ _ _ _); (simp; done)) | (with_reducible refine Row5.alloc ?_ _) | (with_reducible refine Row5.drew ?_)))
  clear X11 Y11 N11 S11
  clear BW11
  clear hw12
  obtain ⟨Xc0, Xc1, Xc2, Xc3, Xc4⟩ := X12.parts
  obtain ⟨Xf0, Xf1, Xf2, Xf3, Xf4⟩ := X12.free
  go_wp2_with fail
  refine (K14.out _).mono ?_
  rintro e w13 ⟨rfl, hb⟩
  have BW13 : Below w.heap.size w w13 := btr (by repeat (first | (with_reducible exact BW12) | (with_reducible refine bal ?_ _) | (with_reducible refine Below.drew ?_) | (with_reducible refine bdn ?_ _))) hb
  have X13 : Row5 w13 w.heap.size (.bool g) (.int .u64 (lb 0 x)) (.int .u64 (lb 1 x)) (.int .u64 (lb 2 x)) (.int .u64 (lb 3 x)) := Row5.keep hb (by repeat (first | (with_reducible exact X12) | (with_reducible refine Row5.alloc ?_ _) | (with_reducible refine Row5.drew ?_)))
  have Y13 : Row5 w13 (w.heap.size + 1) (.bool h) (.int .u64 (lb 0 y)) (.int .u64 (lb 1 y)) (.int .u64 (lb 2 y)) (.int .u64 (lb 3 y)) := Row5.keep hb (by repeat (first | (with_reducible exact Y12) | (with_reducible refine Row5.alloc ?_ _) | (with_reducible refine Row5.drew ?_)))
  have N13 : Row5 w13 w7.heap.size (.bool ng) (.int .u64 (lb 0 nn)) (.int .u64 (lb 1 nn)) (.int .u64 (lb 2 nn)) (.int .u64 (lb 3 nn)) := Row5.keep hb (by repeat (first | (with_reducible exact N12) | (with_reducible refine Row5.alloc ?_ _) | (with_reducible refine Row5.drew ?_)))
  have S13 : Row5 w13 w9.heap.size (.bool ng) (.int .u64 (lb 0 nn)) (.int .u64 (lb 1 nn)) (.int .u64 (lb 2 nn)) (.int .u64 (lb 3 nn)) := Row5.keep hb (by repeat (first | (with_reducible exact S12) | (with_reducible refine Row5.alloc ?_ _) | (with_reducible refine Row5.drew ?_)))
  have P13 : Row5 w13 w11.heap.size (.bool pg) (.int .u64 (lb 0 pn)) (.int .u64 (lb 1 pn)) (.int .u64 (lb 2 pn)) (.int .u64 (lb 3 pn)) := Row5.keep hb (by repeat (first | (with_reducible exact P12) | (with_reducible refine Row5.alloc ?_ _) | (with_reducible refine Row5.drew ?_)))
  clear X12 Y12 N12 S12 P12
  clear BW12
  clear hb
  go_upto_region 13 with (fail)
  go_name_world w14 hw14
  have BW14 : Below w.heap.size w w14 := by rw [← hw14]; repeat (first | (with_reducible exact BW13) | (with_reducible refine bal ?_ _) | (with_reducible refine Below.drew ?_) | (with_reducible refine bdn ?_ _))
  have X14 : Row5 w14 w.heap.size (.bool g) (.int .u64 (lb 0 x)) (.int .u64 (lb 1 x)) (.int .u64 (lb 2 x)) (.int .u64 (lb 3 x)) := by rw [← hw14]; exact (by repeat (first | (with_reducible exact X13) | (with_reducible refine Row5.alloc ?_ _) | (with_reducible refine Row5.drew ?_)))
  have Y14 : Row5 w14 (w.heap.size + 1) (.bool h) (.int .u64 (lb 0 y)) (.int .u64 (lb 1 y)) (.int .u64 (lb 2 y)) (.int .u64 (lb 3 y)) := by rw [← hw14]; exact (by repeat (first | (with_reducible exact Y13) | (with_reducible refine Row5.alloc ?_ _) | (with_reducible refine Row5.drew ?_)))
  have N14 : Row5 w14 w7.heap.size (.bool ng) (.int .u64 (lb 0 nn)) (.int .u64 (lb 1 nn)) (.int .u64 (lb 2 nn)) (.int .u64 (lb 3 nn)) := by rw [← hw14]; exact (by repeat (first | (with_reducible exact N13) | (with_reducible refine Row5.alloc ?_ _) | (with_reducible refine Row5.drew ?_)))
  have S14 : Row5 w14 w9.heap.size (.bool ng) (.int .u64 (lb 0 nn)) (.int .u64 (lb 1 nn)) (.int .u64 (lb 2 nn)) (.int .u64 (lb 3 nn)) := by rw [← hw14]; exact (by repeat (first | (with_reducible exact S13) | (with_reducible refine Row5.alloc ?_ _) | (with_reducible refine Row5.drew ?_)))
  have P14 : Row5 w14 w11.heap.size (.bool pg) (.int .u64 (lb 0 pn)) (.int .u64 (lb 1 pn)) (.int .u64 (lb 2 pn)) (.int .u64 (lb 3 pn)) := by rw [← hw14]; exact (by repeat (first | (with_reducible exact P13) | (with_reducible refine Row5.alloc ?_ _) | (with_reducible refine Row5.drew ?_)))
  have apQ_X := X13.lt
  have apQ_Y := Y13.lt
  have apQ_N := N13.lt
  have apQ_S := S13.lt
  have apQ_P := P13.lt
  have apQ_0 := (BW13).size
  have Q14 : Row5 w14 w13.heap.size (.bool pg) (.int .u64 (lb 0 pn)) (.int .u64 (lb 1 pn)) (.int .u64 (lb 2 pn)) (.int .u64 (lb 3 pn)) := by rw [← hw14]; exact (by repeat (first | (with_reducible exact Row5.new _ _ _ _ _ _) | ((with_reducible refine Row5.new' _ ?_ _ _ _ _ _); (simp; done)) | (with_reducible refine Row5.alloc ?_ _) | (with_reducible refine Row5.drew ?_)))
  clear X13 Y13 N13 S13 P13
  clear BW13
  clear hw14
  obtain ⟨Xc0, Xc1, Xc2, Xc3, Xc4⟩ := X14.parts
  obtain ⟨Xf0, Xf1, Xf2, Xf3, Xf4⟩ := X14.free
  obtain ⟨Nc0, Nc1, Nc2, Nc3, Nc4⟩ := N14.parts
  obtain ⟨Nf0, Nf1, Nf2, Nf3, Nf4⟩ := N14.free
  obtain ⟨Sc0, Sc1, Sc2, Sc3, Sc4⟩ := S14.parts
  obtain ⟨Sf0, Sf1, Sf2, Sf3, Sf4⟩ := S14.free
  obtain ⟨Pc0, Pc1, Pc2, Pc3, Pc4⟩ := P14.parts
  obtain ⟨Pf0, Pf1, Pf2, Pf3, Pf4⟩ := P14.free
  obtain ⟨Qc0, Qc1, Qc2, Qc3, Qc4⟩ := Q14.parts
  obtain ⟨Qf0, Qf1, Qf2, Qf3, Qf4⟩ := Q14.free
  have q3 := Q3.out; have q4 := Q4.out
  go_wp2_with fail
  refine (K2.out _).mono ?_
  rintro e w15 ⟨rfl, hb⟩
  have BW15 : Below w.heap.size w w15 := btr (by repeat (first | (with_reducible exact BW14) | (with_reducible refine bal ?_ _) | (with_reducible refine Below.drew ?_) | (with_reducible refine bdn ?_ _))) hb
  have X15 : Row5 w15 w.heap.size (.bool g) (.int .u64 (lb 0 x)) (.int .u64 (lb 1 x)) (.int .u64 (lb 2 x)) (.int .u64 (lb 3 x)) := Row5.keep hb (by repeat (first | (with_reducible exact X14) | (with_reducible refine Row5.alloc ?_ _) | (with_reducible refine Row5.drew ?_)))
  have Y15 : Row5 w15 (w.heap.size + 1) (.bool h) (.int .u64 (lb 0 y)) (.int .u64 (lb 1 y)) (.int .u64 (lb 2 y)) (.int .u64 (lb 3 y)) := Row5.keep hb (by repeat (first | (with_reducible exact Y14) | (with_reducible refine Row5.alloc ?_ _) | (with_reducible refine Row5.drew ?_)))
  have N15 : Row5 w15 w7.heap.size (.bool ng) (.int .u64 (lb 0 nn)) (.int .u64 (lb 1 nn)) (.int .u64 (lb 2 nn)) (.int .u64 (lb 3 nn)) := Row5.keep hb (by repeat (first | (with_reducible exact N14) | (with_reducible refine Row5.alloc ?_ _) | (with_reducible refine Row5.drew ?_)))
  have S15 : Row5 w15 w9.heap.size (.bool ng) (.int .u64 (lb 0 nn)) (.int .u64 (lb 1 nn)) (.int .u64 (lb 2 nn)) (.int .u64 (lb 3 nn)) := Row5.keep hb (by repeat (first | (with_reducible exact S14) | (with_reducible refine Row5.alloc ?_ _) | (with_reducible refine Row5.drew ?_)))
  have P15 : Row5 w15 w11.heap.size (.bool pg) (.int .u64 (lb 0 pn)) (.int .u64 (lb 1 pn)) (.int .u64 (lb 2 pn)) (.int .u64 (lb 3 pn)) := Row5.keep hb (by repeat (first | (with_reducible exact P14) | (with_reducible refine Row5.alloc ?_ _) | (with_reducible refine Row5.drew ?_)))
  have Q15 : Row5 w15 w13.heap.size (.bool pg) (.int .u64 (lb 0 pn)) (.int .u64 (lb 1 pn)) (.int .u64 (lb 2 pn)) (.int .u64 (lb 3 pn)) := Row5.keep hb (by repeat (first | (with_reducible exact Q14) | (with_reducible refine Row5.alloc ?_ _) | (with_reducible refine Row5.drew ?_)))
  clear X14 Y14 N14 S14 P14 Q14
  clear BW14
  clear hb
  clear q3 q4
  obtain ⟨Yc0, Yc1, Yc2, Yc3, Yc4⟩ := Y15.parts
  obtain ⟨Yf0, Yf1, Yf2, Yf3, Yf4⟩ := Y15.free
  go_wp2_with fail
  refine (K15.out _).mono ?_
  rintro e w16 ⟨rfl, hb⟩
  have BW16 : Below w.heap.size w w16 := btr (by repeat (first | (with_reducible exact BW15) | (with_reducible refine bal ?_ _) | (with_reducible refine Below.drew ?_) | (with_reducible refine bdn ?_ _))) hb
  have X16 : Row5 w16 w.heap.size (.bool g) (.int .u64 (lb 0 x)) (.int .u64 (lb 1 x)) (.int .u64 (lb 2 x)) (.int .u64 (lb 3 x)) := Row5.keep hb (by repeat (first | (with_reducible exact X15) | (with_reducible refine Row5.alloc ?_ _) | (with_reducible refine Row5.drew ?_)))
  have Y16 : Row5 w16 (w.heap.size + 1) (.bool h) (.int .u64 (lb 0 y)) (.int .u64 (lb 1 y)) (.int .u64 (lb 2 y)) (.int .u64 (lb 3 y)) := Row5.keep hb (by repeat (first | (with_reducible exact Y15) | (with_reducible refine Row5.alloc ?_ _) | (with_reducible refine Row5.drew ?_)))
  have N16 : Row5 w16 w7.heap.size (.bool ng) (.int .u64 (lb 0 nn)) (.int .u64 (lb 1 nn)) (.int .u64 (lb 2 nn)) (.int .u64 (lb 3 nn)) := Row5.keep hb (by repeat (first | (with_reducible exact N15) | (with_reducible refine Row5.alloc ?_ _) | (with_reducible refine Row5.drew ?_)))
  have S16 : Row5 w16 w9.heap.size (.bool ng) (.int .u64 (lb 0 nn)) (.int .u64 (lb 1 nn)) (.int .u64 (lb 2 nn)) (.int .u64 (lb 3 nn)) := Row5.keep hb (by repeat (first | (with_reducible exact S15) | (with_reducible refine Row5.alloc ?_ _) | (with_reducible refine Row5.drew ?_)))
  have P16 : Row5 w16 w11.heap.size (.bool pg) (.int .u64 (lb 0 pn)) (.int .u64 (lb 1 pn)) (.int .u64 (lb 2 pn)) (.int .u64 (lb 3 pn)) := Row5.keep hb (by repeat (first | (with_reducible exact P15) | (with_reducible refine Row5.alloc ?_ _) | (with_reducible refine Row5.drew ?_)))
  have Q16 : Row5 w16 w13.heap.size (.bool pg) (.int .u64 (lb 0 pn)) (.int .u64 (lb 1 pn)) (.int .u64 (lb 2 pn)) (.int .u64 (lb 3 pn)) := Row5.keep hb (by repeat (first | (with_reducible exact Q15) | (with_reducible refine Row5.alloc ?_ _) | (with_reducible refine Row5.drew ?_)))
  clear X15 Y15 N15 S15 P15 Q15
  clear BW15
  clear hb
  go_wp2_with fail
  refine (told2_true _ (tabs_on HT.out (by repeat (first | (with_reducible exact BW16) | (with_reducible refine bal ?_ _) | (with_reducible refine Below.drew ?_) | (with_reducible refine bdn ?_ _))))).mono ?_
  rintro e w17 ⟨rfl, hb⟩
  have BW17 : Below w.heap.size w w17 := btr (by repeat (first | (with_reducible exact BW16) | (with_reducible refine bal ?_ _) | (with_reducible refine Below.drew ?_) | (with_reducible refine bdn ?_ _))) hb
  have X17 : Row5 w17 w.heap.size (.bool g) (.int .u64 (lb 0 x)) (.int .u64 (lb 1 x)) (.int .u64 (lb 2 x)) (.int .u64 (lb 3 x)) := Row5.keep hb (by repeat (first | (with_reducible exact X16) | (with_reducible refine Row5.alloc ?_ _) | (with_reducible refine Row5.drew ?_)))
  have Y17 : Row5 w17 (w.heap.size + 1) (.bool h) (.int .u64 (lb 0 y)) (.int .u64 (lb 1 y)) (.int .u64 (lb 2 y)) (.int .u64 (lb 3 y)) := Row5.keep hb (by repeat (first | (with_reducible exact Y16) | (with_reducible refine Row5.alloc ?_ _) | (with_reducible refine Row5.drew ?_)))
  have N17 : Row5 w17 w7.heap.size (.bool ng) (.int .u64 (lb 0 nn)) (.int .u64 (lb 1 nn)) (.int .u64 (lb 2 nn)) (.int .u64 (lb 3 nn)) := Row5.keep hb (by repeat (first | (with_reducible exact N16) | (with_reducible refine Row5.alloc ?_ _) | (with_reducible refine Row5.drew ?_)))
  have S17 : Row5 w17 w9.heap.size (.bool ng) (.int .u64 (lb 0 nn)) (.int .u64 (lb 1 nn)) (.int .u64 (lb 2 nn)) (.int .u64 (lb 3 nn)) := Row5.keep hb (by repeat (first | (with_reducible exact S16) | (with_reducible refine Row5.alloc ?_ _) | (with_reducible refine Row5.drew ?_)))
  have P17 : Row5 w17 w11.heap.size (.bool pg) (.int .u64 (lb 0 pn)) (.int .u64 (lb 1 pn)) (.int .u64 (lb 2 pn)) (.int .u64 (lb 3 pn)) := Row5.keep hb (by repeat (first | (with_reducible exact P16) | (with_reducible refine Row5.alloc ?_ _) | (with_reducible refine Row5.drew ?_)))
  have Q17 : Row5 w17 w13.heap.size (.bool pg) (.int .u64 (lb 0 pn)) (.int .u64 (lb 1 pn)) (.int .u64 (lb 2 pn)) (.int .u64 (lb 3 pn)) := Row5.keep hb (by repeat (first | (with_reducible exact Q16) | (with_reducible refine Row5.alloc ?_ _) | (with_reducible refine Row5.drew ?_)))
  clear X16 Y16 N16 S16 P16 Q16
  clear BW16
  clear hb
  obtain ⟨Xc0, Xc1, Xc2, Xc3, Xc4⟩ := X17.parts
  obtain ⟨Xf0, Xf1, Xf2, Xf3, Xf4⟩ := X17.free
  obtain ⟨Yc0, Yc1, Yc2, Yc3, Yc4⟩ := Y17.parts
  obtain ⟨Yf0, Yf1, Yf2, Yf3, Yf4⟩ := Y17.free
  go_wp2_with fail
  refine (K17.out _).mono ?_
  rintro e w18 ⟨rfl, hb⟩
  have BW18 : Below w.heap.size w w18 := btr (by repeat (first | (with_reducible exact BW17) | (with_reducible refine bal ?_ _) | (with_reducible refine Below.drew ?_) | (with_reducible refine bdn ?_ _))) hb
  have X18 : Row5 w18 w.heap.size (.bool g) (.int .u64 (lb 0 x)) (.int .u64 (lb 1 x)) (.int .u64 (lb 2 x)) (.int .u64 (lb 3 x)) := Row5.keep hb (by repeat (first | (with_reducible exact X17) | (with_reducible refine Row5.alloc ?_ _) | (with_reducible refine Row5.drew ?_)))
  have Y18 : Row5 w18 (w.heap.size + 1) (.bool h) (.int .u64 (lb 0 y)) (.int .u64 (lb 1 y)) (.int .u64 (lb 2 y)) (.int .u64 (lb 3 y)) := Row5.keep hb (by repeat (first | (with_reducible exact Y17) | (with_reducible refine Row5.alloc ?_ _) | (with_reducible refine Row5.drew ?_)))
  have N18 : Row5 w18 w7.heap.size (.bool ng) (.int .u64 (lb 0 nn)) (.int .u64 (lb 1 nn)) (.int .u64 (lb 2 nn)) (.int .u64 (lb 3 nn)) := Row5.keep hb (by repeat (first | (with_reducible exact N17) | (with_reducible refine Row5.alloc ?_ _) | (with_reducible refine Row5.drew ?_)))
  have S18 : Row5 w18 w9.heap.size (.bool ng) (.int .u64 (lb 0 nn)) (.int .u64 (lb 1 nn)) (.int .u64 (lb 2 nn)) (.int .u64 (lb 3 nn)) := Row5.keep hb (by repeat (first | (with_reducible exact S17) | (with_reducible refine Row5.alloc ?_ _) | (with_reducible refine Row5.drew ?_)))
  have P18 : Row5 w18 w11.heap.size (.bool pg) (.int .u64 (lb 0 pn)) (.int .u64 (lb 1 pn)) (.int .u64 (lb 2 pn)) (.int .u64 (lb 3 pn)) := Row5.keep hb (by repeat (first | (with_reducible exact P17) | (with_reducible refine Row5.alloc ?_ _) | (with_reducible refine Row5.drew ?_)))
  have Q18 : Row5 w18 w13.heap.size (.bool pg) (.int .u64 (lb 0 pn)) (.int .u64 (lb 1 pn)) (.int .u64 (lb 2 pn)) (.int .u64 (lb 3 pn)) := Row5.keep hb (by repeat (first | (with_reducible exact Q17) | (with_reducible refine Row5.alloc ?_ _) | (with_reducible refine Row5.drew ?_)))
  clear X17 Y17 N17 S17 P17 Q17
  clear BW17
  clear hb
  go_wp2
  go_ret
  exact ⟨rfl, BW18⟩
set_option maxHeartbeats 4000000 in
set_option maxRecDepth 100000 in
theorem numbers_f (g h vg ng pg tb ub nb pb : Bool) (x y vn un nn pn : Nat) (v u tv uv : Int) (w : World) (hT : Tabs w)
    (q1 : eq5 vg (lb 0 vn) (lb 1 vn) (lb 2 vn) (lb 3 vn) vg (lb 0 vn) (lb 1 vn) (lb 2 vn) (lb 3 vn) = true) (q2 : eq5 false (lb 0 un) (lb 1 un) (lb 2 un) (lb 3 un) false (lb 0 un) (lb 1 un) (lb 2 un) (lb 3 un) = true) (q3 : eq5 ng (lb 0 nn) (lb 1 nn) (lb 2 nn) (lb 3 nn) ng (lb 0 nn) (lb 1 nn) (lb 2 nn) (lb 3 nn) = true) (q4 : eq5 pg (lb 0 pn) (lb 1 pn) (lb 2 pn) (lb 3 pn) pg (lb 0 pn) (lb 1 pn) (lb 2 pn) (lb 3 pn) = true)
    (k1 : ∀ W, Calls Tryd.prog 28 #[I5 g x] W fun e w' => e = .returned (.bool false) ∧ Below W.heap.size W w')
    (k2 : ∀ W, Calls Tryd.prog 29 #[I5 g x] W fun e w' => e = .returned (.bool false) ∧ Below W.heap.size W w')
    (k3 : ∀ W, Calls Tryd.prog 30 #[.int .i64 v] W fun e w' => e = .returned (I5 vg vn) ∧ Below W.heap.size W w')
    (k4 : ∀ W, Calls Tryd.prog 31 #[.int .i64 v] W fun e w' => e = .returned (I5 vg vn) ∧ Below W.heap.size W w')
    (k5 : ∀ W, Calls Tryd.prog 32 #[.int .u64 u] W fun e w' => e = .returned (I5 false un) ∧ Below W.heap.size W w')
    (k6 : ∀ W, Calls Tryd.prog 33 #[.int .u64 u] W fun e w' => e = .returned (I5 false un) ∧ Below W.heap.size W w')
    (k7 : ∀ W, Calls Tryd.prog 34 #[I5 g x] W fun e w' => e = .returned (.tuple #[.int .i64 tv, .bool tb]) ∧ Below W.heap.size W w')
    (k8 : ∀ W, Calls Tryd.prog 35 #[I5 g x] W fun e w' => e = .returned (.tuple #[.int .i64 tv, .bool tb]) ∧ Below W.heap.size W w')
    (k9 : ∀ W, Calls Tryd.prog 36 #[I5 g x] W fun e w' => e = .returned (.tuple #[.int .u64 uv, .bool ub]) ∧ Below W.heap.size W w')
    (k10 : ∀ W, Calls Tryd.prog 37 #[I5 g x] W fun e w' => e = .returned (.tuple #[.int .u64 uv, .bool ub]) ∧ Below W.heap.size W w')
    (k11 : ∀ W, Calls Tryd.prog 38 #[I5 g x] W fun e w' => e = .returned (.tuple #[I5 ng nn, .bool nb]) ∧ Below W.heap.size W w')
    (k12 : ∀ W, Calls Tryd.prog 39 #[I5 g x, .bool true] W fun e w' => e = .returned (.tuple #[I5 ng nn, .bool nb]) ∧ Below W.heap.size W w')
    (k13 : ∀ W, Calls Tryd.prog 40 #[I5 g x] W fun e w' => e = .returned (.tuple #[I5 pg pn, .bool pb]) ∧ Below W.heap.size W w')
    (k14 : ∀ W, Calls Tryd.prog 39 #[I5 g x, .bool false] W fun e w' => e = .returned (.tuple #[I5 pg pn, .bool pb]) ∧ Below W.heap.size W w')
    (k17 : ∀ W, Calls Tryd.prog 43 #[I5 g x, I5 h y] W fun e w' => e = .returned (.int .i64 0) ∧ Below W.heap.size W w') :
    Calls Tryd.prog 5 #[I5 g x, I5 h y, .int .i64 v, .int .u64 u] w fun e w' => e = .returned (.bool true) ∧ Below w.heap.size w w' := by
  unfold I5 at *
  have HT := Lib.hid hT; have K1 := Lib.hid k1; have K2 := Lib.hid k2; have K3 := Lib.hid k3; have K4 := Lib.hid k4; have K5 := Lib.hid k5; have K6 := Lib.hid k6; have K7 := Lib.hid k7; have K8 := Lib.hid k8; have K9 := Lib.hid k9; have K10 := Lib.hid k10; have K11 := Lib.hid k11; have K12 := Lib.hid k12; have K13 := Lib.hid k13; have K14 := Lib.hid k14; have K17 := Lib.hid k17; have Q3 := Lib.hid q3; have Q4 := Lib.hid q4; clear hT q3 q4 k1 k2 k3 k4 k5 k6 k7 k8 k9 k10 k11 k12 k13 k14 k17
  have e1 : (tb != tb) = false := bne_self_eq_false tb; have e2 : (ub != ub) = false := bne_self_eq_false ub; have e3 : (nb != nb) = false := bne_self_eq_false nb; have e4 : (pb != pb) = false := bne_self_eq_false pb
  have e5 : (tv != tv) = false := bne_self_eq_false tv; have e6 : (uv != uv) = false := bne_self_eq_false uv
  go_enter Tryd.func5, Tryd.ntmps5
  go_upto_region 1 with (fail)
  go_name_world w1 hw1
  have BW1 : Below w.heap.size w w1 := by rw [← hw1]; repeat (first | (with_reducible exact Below.refl _ _) | (with_reducible refine bal ?_ _) | (with_reducible refine Below.drew ?_) | (with_reducible refine bdn ?_ _))
  have X1 : Row5 w1 w.heap.size (.bool g) (.int .u64 (lb 0 x)) (.int .u64 (lb 1 x)) (.int .u64 (lb 2 x)) (.int .u64 (lb 3 x)) := by rw [← hw1]; exact (by repeat (first | (with_reducible exact Row5.new _ _ _ _ _ _) | ((with_reducible refine Row5.new' _ ?_ _ _ _ _ _); (simp; done)) | (with_reducible refine Row5.alloc ?_ _) | (with_reducible refine Row5.drew ?_)))
  have Y1 : Row5 w1 (w.heap.size + 1) (.bool h) (.int .u64 (lb 0 y)) (.int .u64 (lb 1 y)) (.int .u64 (lb 2 y)) (.int .u64 (lb 3 y)) := by rw [← hw1]; exact (by repeat (first | (with_reducible exact Row5.new _ _ _ _ _ _) | ((with_reducible refine Row5.new' _ ?_ _ _ _ _ _); (simp; done)) | (with_reducible refine Row5.alloc ?_ _) | (with_reducible refine Row5.drew ?_)))
  clear hw1
  obtain ⟨qX0, qX1, qX2, qX3, qX4⟩ := X1.parts
  have gX0 := cell_regrown qX0
  have gX1 := cell_regrown qX1
  have gX2 := cell_regrown qX2
  have gX3 := cell_regrown qX3
  have gX4 := cell_regrown qX4
  clear qX0 qX1 qX2 qX3 qX4
  have cq0 := fun (d : Nat) (os : Array Obj) => Calls.regrown_of (w := w1) (d := d) (os := os) (K1.out _)
  have cq1 := fun (d : Nat) (os : Array Obj) => Calls.regrown_of (w := w1) (d := d) (os := os) (K2.out _)
  have cq2 := fun (d : Nat) (os : Array Obj) => Calls.regrown_of (w := w1) (d := d) (os := os) (K3.out _)
  have cq3 := fun (d : Nat) (os : Array Obj) => Calls.regrown_of (w := w1) (d := d) (os := os) (K4.out _)
  have cq4 := fun (d : Nat) (os : Array Obj) => Calls.regrown_of (w := w1) (d := d) (os := os) (K5.out _)
  have cq5 := fun (d : Nat) (os : Array Obj) => Calls.regrown_of (w := w1) (d := d) (os := os) (K6.out _)
  refine wp_region_quiet_below (by kernel_rfl) (by kernel_rfl) ?_
  repeat (first | go_big_quiet_step ((first | (with_reducible exact cq0 _ _) | (with_reducible exact cq1 _ _) | (with_reducible exact cq2 _ _) | (with_reducible exact cq3 _ _) | (with_reducible exact cq4 _ _) | (with_reducible exact cq5 _ _))) | quiet_step (first | (with_reducible exact cq0 _ _) | (with_reducible exact cq1 _ _) | (with_reducible exact cq2 _ _) | (with_reducible exact cq3 _ _) | (with_reducible exact cq4 _ _) | (with_reducible exact cq5 _ _)))
  refine wpQuiet_nil ?_
  intro _ hw'
  obtain ⟨⟨dq, osq⟩, hw''⟩ := hw'
  subst hw''
  clear gX0 gX1 gX2 gX3 gX4 cq0 cq1 cq2 cq3 cq4 cq5
  have hb := below_regrown w1 dq osq
  generalize grow (redrawn w1 dq) osq = w2 at *
  have BW2 : Below w.heap.size w w2 := btr BW1 hb
  have X2 : Row5 w2 w.heap.size (.bool g) (.int .u64 (lb 0 x)) (.int .u64 (lb 1 x)) (.int .u64 (lb 2 x)) (.int .u64 (lb 3 x)) := Row5.keep hb X1
  have Y2 : Row5 w2 (w.heap.size + 1) (.bool h) (.int .u64 (lb 0 y)) (.int .u64 (lb 1 y)) (.int .u64 (lb 2 y)) (.int .u64 (lb 3 y)) := Row5.keep hb Y1
  clear X1 Y1 BW1 hb
  clear q1 q2
  obtain ⟨Xc0, Xc1, Xc2, Xc3, Xc4⟩ := X2.parts
  obtain ⟨Xf0, Xf1, Xf2, Xf3, Xf4⟩ := X2.free
  go_wp2_with fail
  refine (K7.out _).mono ?_
  rintro e w3 ⟨rfl, hb⟩
  have BW3 : Below w.heap.size w w3 := btr (by repeat (first | (with_reducible exact BW2) | (with_reducible refine bal ?_ _) | (with_reducible refine Below.drew ?_) | (with_reducible refine bdn ?_ _))) hb
  have X3 : Row5 w3 w.heap.size (.bool g) (.int .u64 (lb 0 x)) (.int .u64 (lb 1 x)) (.int .u64 (lb 2 x)) (.int .u64 (lb 3 x)) := Row5.keep hb (by repeat (first | (with_reducible exact X2) | (with_reducible refine Row5.alloc ?_ _) | (with_reducible refine Row5.drew ?_)))
  have Y3 : Row5 w3 (w.heap.size + 1) (.bool h) (.int .u64 (lb 0 y)) (.int .u64 (lb 1 y)) (.int .u64 (lb 2 y)) (.int .u64 (lb 3 y)) := Row5.keep hb (by repeat (first | (with_reducible exact Y2) | (with_reducible refine Row5.alloc ?_ _) | (with_reducible refine Row5.drew ?_)))
  clear X2 Y2
  clear BW2
  clear hb
  obtain ⟨Xc0, Xc1, Xc2, Xc3, Xc4⟩ := X3.parts
  obtain ⟨Xf0, Xf1, Xf2, Xf3, Xf4⟩ := X3.free
  go_wp2_with fail
  refine (K8.out _).mono ?_
  rintro e w4 ⟨rfl, hb⟩
  have BW4 : Below w.heap.size w w4 := btr (by repeat (first | (with_reducible exact BW3) | (with_reducible refine bal ?_ _) | (with_reducible refine Below.drew ?_) | (with_reducible refine bdn ?_ _))) hb
  have X4 : Row5 w4 w.heap.size (.bool g) (.int .u64 (lb 0 x)) (.int .u64 (lb 1 x)) (.int .u64 (lb 2 x)) (.int .u64 (lb 3 x)) := Row5.keep hb (by repeat (first | (with_reducible exact X3) | (with_reducible refine Row5.alloc ?_ _) | (with_reducible refine Row5.drew ?_)))
  have Y4 : Row5 w4 (w.heap.size + 1) (.bool h) (.int .u64 (lb 0 y)) (.int .u64 (lb 1 y)) (.int .u64 (lb 2 y)) (.int .u64 (lb 3 y)) := Row5.keep hb (by repeat (first | (with_reducible exact Y3) | (with_reducible refine Row5.alloc ?_ _) | (with_reducible refine Row5.drew ?_)))
  clear X3 Y3
  clear BW3
  clear hb
  obtain ⟨Xc0, Xc1, Xc2, Xc3, Xc4⟩ := X4.parts
  obtain ⟨Xf0, Xf1, Xf2, Xf3, Xf4⟩ := X4.free
  go_wp2_with fail
  refine (K9.out _).mono ?_
  rintro e w5 ⟨rfl, hb⟩
  have BW5 : Below w.heap.size w w5 := btr (by repeat (first | (with_reducible exact BW4) | (with_reducible refine bal ?_ _) | (with_reducible refine Below.drew ?_) | (with_reducible refine bdn ?_ _))) hb
  have X5 : Row5 w5 w.heap.size (.bool g) (.int .u64 (lb 0 x)) (.int .u64 (lb 1 x)) (.int .u64 (lb 2 x)) (.int .u64 (lb 3 x)) := Row5.keep hb (by repeat (first | (with_reducible exact X4) | (with_reducible refine Row5.alloc ?_ _) | (with_reducible refine Row5.drew ?_)))
  have Y5 : Row5 w5 (w.heap.size + 1) (.bool h) (.int .u64 (lb 0 y)) (.int .u64 (lb 1 y)) (.int .u64 (lb 2 y)) (.int .u64 (lb 3 y)) := Row5.keep hb (by repeat (first | (with_reducible exact Y4) | (with_reducible refine Row5.alloc ?_ _) | (with_reducible refine Row5.drew ?_)))
  clear X4 Y4
  clear BW4
  clear hb
  obtain ⟨Xc0, Xc1, Xc2, Xc3, Xc4⟩ := X5.parts
  obtain ⟨Xf0, Xf1, Xf2, Xf3, Xf4⟩ := X5.free
  go_wp2_with fail
  refine (K10.out _).mono ?_
  rintro e w6 ⟨rfl, hb⟩
  have BW6 : Below w.heap.size w w6 := btr (by repeat (first | (with_reducible exact BW5) | (with_reducible refine bal ?_ _) | (with_reducible refine Below.drew ?_) | (with_reducible refine bdn ?_ _))) hb
  have X6 : Row5 w6 w.heap.size (.bool g) (.int .u64 (lb 0 x)) (.int .u64 (lb 1 x)) (.int .u64 (lb 2 x)) (.int .u64 (lb 3 x)) := Row5.keep hb (by repeat (first | (with_reducible exact X5) | (with_reducible refine Row5.alloc ?_ _) | (with_reducible refine Row5.drew ?_)))
  have Y6 : Row5 w6 (w.heap.size + 1) (.bool h) (.int .u64 (lb 0 y)) (.int .u64 (lb 1 y)) (.int .u64 (lb 2 y)) (.int .u64 (lb 3 y)) := Row5.keep hb (by repeat (first | (with_reducible exact Y5) | (with_reducible refine Row5.alloc ?_ _) | (with_reducible refine Row5.drew ?_)))
  clear X5 Y5
  clear BW5
  clear hb
  obtain ⟨Xc0, Xc1, Xc2, Xc3, Xc4⟩ := X6.parts
  obtain ⟨Xf0, Xf1, Xf2, Xf3, Xf4⟩ := X6.free
  go_wp2_with fail
  refine (K11.out _).mono ?_
  rintro e w7 ⟨rfl, hb⟩
  have BW7 : Below w.heap.size w w7 := btr (by repeat (first | (with_reducible exact BW6) | (with_reducible refine bal ?_ _) | (with_reducible refine Below.drew ?_) | (with_reducible refine bdn ?_ _))) hb
  have X7 : Row5 w7 w.heap.size (.bool g) (.int .u64 (lb 0 x)) (.int .u64 (lb 1 x)) (.int .u64 (lb 2 x)) (.int .u64 (lb 3 x)) := Row5.keep hb (by repeat (first | (with_reducible exact X6) | (with_reducible refine Row5.alloc ?_ _) | (with_reducible refine Row5.drew ?_)))
  have Y7 : Row5 w7 (w.heap.size + 1) (.bool h) (.int .u64 (lb 0 y)) (.int .u64 (lb 1 y)) (.int .u64 (lb 2 y)) (.int .u64 (lb 3 y)) := Row5.keep hb (by repeat (first | (with_reducible exact Y6) | (with_reducible refine Row5.alloc ?_ _) | (with_reducible refine Row5.drew ?_)))
  clear X6 Y6
  clear BW6
  clear hb
  go_upto_region 10 with (fail)
  go_name_world w8 hw8
  have BW8 : Below w.heap.size w w8 := by rw [← hw8]; repeat (first | (with_reducible exact BW7) | (with_reducible refine bal ?_ _) | (with_reducible refine Below.drew ?_) | (with_reducible refine bdn ?_ _))
  have X8 : Row5 w8 w.heap.size (.bool g) (.int .u64 (lb 0 x)) (.int .u64 (lb 1 x)) (.int .u64 (lb 2 x)) (.int .u64 (lb 3 x)) := by rw [← hw8]; exact (by repeat (first | (with_reducible exact X7) | (with_reducible refine Row5.alloc ?_ _) | (with_reducible refine Row5.drew ?_)))
  have Y8 : Row5 w8 (w.heap.size + 1) (.bool h) (.int .u64 (lb 0 y)) (.int .u64 (lb 1 y)) (.int .u64 (lb 2 y)) (.int .u64 (lb 3 y)) := by rw [← hw8]; exact (by repeat (first | (with_reducible exact Y7) | (with_reducible refine Row5.alloc ?_ _) | (with_reducible refine Row5.drew ?_)))
  have apN_X := X7.lt
  have apN_Y := Y7.lt
  have apN_0 := (BW7).size
  have N8 : Row5 w8 w7.heap.size (.bool ng) (.int .u64 (lb 0 nn)) (.int .u64 (lb 1 nn)) (.int .u64 (lb 2 nn)) (.int .u64 (lb 3 nn)) := by rw [← hw8]; exact (by repeat (first | (with_reducible exact Row5.new _ _ _ _ _ _) | ((with_reducible refine Row5.new' _ ?_ _ _ _ _ _); (simp; done)) | (with_reducible refine Row5.alloc ?_ _) | (with_reducible refine Row5.drew ?_)))
  clear X7 Y7
  clear BW7
  clear hw8
  obtain ⟨Xc0, Xc1, Xc2, Xc3, Xc4⟩ := X8.parts
  obtain ⟨Xf0, Xf1, Xf2, Xf3, Xf4⟩ := X8.free
  go_wp2_with fail
  refine (K12.out _).mono ?_
  rintro e w9 ⟨rfl, hb⟩
  have BW9 : Below w.heap.size w w9 := btr (by repeat (first | (with_reducible exact BW8) | (with_reducible refine bal ?_ _) | (with_reducible refine Below.drew ?_) | (with_reducible refine bdn ?_ _))) hb
  have X9 : Row5 w9 w.heap.size (.bool g) (.int .u64 (lb 0 x)) (.int .u64 (lb 1 x)) (.int .u64 (lb 2 x)) (.int .u64 (lb 3 x)) := Row5.keep hb (by repeat (first | (with_reducible exact X8) | (with_reducible refine Row5.alloc ?_ _) | (with_reducible refine Row5.drew ?_)))
  have Y9 : Row5 w9 (w.heap.size + 1) (.bool h) (.int .u64 (lb 0 y)) (.int .u64 (lb 1 y)) (.int .u64 (lb 2 y)) (.int .u64 (lb 3 y)) := Row5.keep hb (by repeat (first | (with_reducible exact Y8) | (with_reducible refine Row5.alloc ?_ _) | (with_reducible refine Row5.drew ?_)))
  have N9 : Row5 w9 w7.heap.size (.bool ng) (.int .u64 (lb 0 nn)) (.int .u64 (lb 1 nn)) (.int .u64 (lb 2 nn)) (.int .u64 (lb 3 nn)) := Row5.keep hb (by repeat (first | (with_reducible exact N8) | (with_reducible refine Row5.alloc ?_ _) | (with_reducible refine Row5.drew ?_)))
  clear X8 Y8 N8
  clear BW8
  clear hb
  go_upto_region 11 with (fail)
  go_name_world w10 hw10
  have BW10 : Below w.heap.size w w10 := by rw [← hw10]; repeat (first | (with_reducible exact BW9) | (with_reducible refine bal ?_ _) | (with_reducible refine Below.drew ?_) | (with_reducible refine bdn ?_ _))
  have X10 : Row5 w10 w.heap.size (.bool g) (.int .u64 (lb 0 x)) (.int .u64 (lb 1 x)) (.int .u64 (lb 2 x)) (.int .u64 (lb 3 x)) := by rw [← hw10]; exact (by repeat (first | (with_reducible exact X9) | (with_reducible refine Row5.alloc ?_ _) | (with_reducible refine Row5.drew ?_)))
  have Y10 : Row5 w10 (w.heap.size + 1) (.bool h) (.int .u64 (lb 0 y)) (.int .u64 (lb 1 y)) (.int .u64 (lb 2 y)) (.int .u64 (lb 3 y)) := by rw [← hw10]; exact (by repeat (first | (with_reducible exact Y9) | (with_reducible refine Row5.alloc ?_ _) | (with_reducible refine Row5.drew ?_)))
  have N10 : Row5 w10 w7.heap.size (.bool ng) (.int .u64 (lb 0 nn)) (.int .u64 (lb 1 nn)) (.int .u64 (lb 2 nn)) (.int .u64 (lb 3 nn)) := by rw [← hw10]; exact (by repeat (first | (with_reducible exact N9) | (with_reducible refine Row5.alloc ?_ _) | (with_reducible refine Row5.drew ?_)))
  have apS_X := X9.lt
  have apS_Y := Y9.lt
  have apS_N := N9.lt
  have apS_0 := (BW9).size
  have S10 : Row5 w10 w9.heap.size (.bool ng) (.int .u64 (lb 0 nn)) (.int .u64 (lb 1 nn)) (.int .u64 (lb 2 nn)) (.int .u64 (lb 3 nn)) := by rw [← hw10]; exact (by repeat (first | (with_reducible exact Row5.new _ _ _ _ _ _) | ((with_reducible refine Row5.new' _ ?_ _ _ _ _ _); (simp; done)) | (with_reducible refine Row5.alloc ?_ _) | (with_reducible refine Row5.drew ?_)))
  clear X9 Y9 N9
  clear BW9
  clear hw10
  obtain ⟨Xc0, Xc1, Xc2, Xc3, Xc4⟩ := X10.parts
  obtain ⟨Xf0, Xf1, Xf2, Xf3, Xf4⟩ := X10.free
  go_wp2_with fail
  refine (K13.out _).mono ?_
  rintro e w11 ⟨rfl, hb⟩
  have BW11 : Below w.heap.size w w11 := btr (by repeat (first | (with_reducible exact BW10) | (with_reducible refine bal ?_ _) | (with_reducible refine Below.drew ?_) | (with_reducible refine bdn ?_ _))) hb
  have X11 : Row5 w11 w.heap.size (.bool g) (.int .u64 (lb 0 x)) (.int .u64 (lb 1 x)) (.int .u64 (lb 2 x)) (.int .u64 (lb 3 x)) := Row5.keep hb (by repeat (first | (with_reducible exact X10) | (with_reducible refine Row5.alloc ?_ _) | (with_reducible refine Row5.drew ?_)))
  have Y11 : Row5 w11 (w.heap.size + 1) (.bool h) (.int .u64 (lb 0 y)) (.int .u64 (lb 1 y)) (.int .u64 (lb 2 y)) (.int .u64 (lb 3 y)) := Row5.keep hb (by repeat (first | (with_reducible exact Y10) | (with_reducible refine Row5.alloc ?_ _) | (with_reducible refine Row5.drew ?_)))
  have N11 : Row5 w11 w7.heap.size (.bool ng) (.int .u64 (lb 0 nn)) (.int .u64 (lb 1 nn)) (.int .u64 (lb 2 nn)) (.int .u64 (lb 3 nn)) := Row5.keep hb (by repeat (first | (with_reducible exact N10) | (with_reducible refine Row5.alloc ?_ _) | (with_reducible refine Row5.drew ?_)))
  have S11 : Row5 w11 w9.heap.size (.bool ng) (.int .u64 (lb 0 nn)) (.int .u64 (lb 1 nn)) (.int .u64 (lb 2 nn)) (.int .u64 (lb 3 nn)) := Row5.keep hb (by repeat (first | (with_reducible exact S10) | (with_reducible refine Row5.alloc ?_ _) | (with_reducible refine Row5.drew ?_)))
  clear X10 Y10 N10 S10
  clear BW10
  clear hb
  go_upto_region 12 with (fail)
  go_name_world w12 hw12
  have BW12 : Below w.heap.size w w12 := by rw [← hw12]; repeat (first | (with_reducible exact BW11) | (with_reducible refine bal ?_ _) | (with_reducible refine Below.drew ?_) | (with_reducible refine bdn ?_ _))
  have X12 : Row5 w12 w.heap.size (.bool g) (.int .u64 (lb 0 x)) (.int .u64 (lb 1 x)) (.int .u64 (lb 2 x)) (.int .u64 (lb 3 x)) := by rw [← hw12]; exact (by repeat (first | (with_reducible exact X11) | (with_reducible refine Row5.alloc ?_ _) | (with_reducible refine Row5.drew ?_)))
  have Y12 : Row5 w12 (w.heap.size + 1) (.bool h) (.int .u64 (lb 0 y)) (.int .u64 (lb 1 y)) (.int .u64 (lb 2 y)) (.int .u64 (lb 3 y)) := by rw [← hw12]; exact (by repeat (first | (with_reducible exact Y11) | (with_reducible refine Row5.alloc ?_ _) | (with_reducible refine Row5.drew ?_)))
  have N12 : Row5 w12 w7.heap.size (.bool ng) (.int .u64 (lb 0 nn)) (.int .u64 (lb 1 nn)) (.int .u64 (lb 2 nn)) (.int .u64 (lb 3 nn)) := by rw [← hw12]; exact (by repeat (first | (with_reducible exact N11) | (with_reducible refine Row5.alloc ?_ _) | (with_reducible refine Row5.drew ?_)))
  have S12 : Row5 w12 w9.heap.size (.bool ng) (.int .u64 (lb 0 nn)) (.int .u64 (lb 1 nn)) (.int .u64 (lb 2 nn)) (.int .u64 (lb 3 nn)) := by rw [← hw12]; exact (by repeat (first | (with_reducible exact S11) | (with_reducible refine Row5.alloc ?_ _) | (with_reducible refine Row5.drew ?_)))
  have apP_X := X11.lt
  have apP_Y := Y11.lt
  have apP_N := N11.lt
  have apP_S := S11.lt
  have apP_0 := (BW11).size
  have P12 : Row5 w12 w11.heap.size (.bool pg) (.int .u64 (lb 0 pn)) (.int .u64 (lb 1 pn)) (.int .u64 (lb 2 pn)) (.int .u64 (lb 3 pn)) := by rw [← hw12]; exact (by repeat (first | (with_reducible exact Row5.new _ _ _ _ _ _) | ((with_reducible refine Row5.new' _ ?_ _ _ _ _ _); (simp; done)) | (with_reducible refine Row5.alloc ?_ _) | (with_reducible refine Row5.drew ?_)))
  clear X11 Y11 N11 S11
  clear BW11
  clear hw12
  obtain ⟨Xc0, Xc1, Xc2, Xc3, Xc4⟩ := X12.parts
  obtain ⟨Xf0, Xf1, Xf2, Xf3, Xf4⟩ := X12.free
  go_wp2_with fail
  refine (K14.out _).mono ?_
  rintro e w13 ⟨rfl, hb⟩
  have BW13 : Below w.heap.size w w13 := btr (by repeat (first | (with_reducible exact BW12) | (with_reducible refine bal ?_ _) | (with_reducible refine Below.drew ?_) | (with_reducible refine bdn ?_ _))) hb
  have X13 : Row5 w13 w.heap.size (.bool g) (.int .u64 (lb 0 x)) (.int .u64 (lb 1 x)) (.int .u64 (lb 2 x)) (.int .u64 (lb 3 x)) := Row5.keep hb (by repeat (first | (with_reducible exact X12) | (with_reducible refine Row5.alloc ?_ _) | (with_reducible refine Row5.drew ?_)))
  have Y13 : Row5 w13 (w.heap.size + 1) (.bool h) (.int .u64 (lb 0 y)) (.int .u64 (lb 1 y)) (.int .u64 (lb 2 y)) (.int .u64 (lb 3 y)) := Row5.keep hb (by repeat (first | (with_reducible exact Y12) | (with_reducible refine Row5.alloc ?_ _) | (with_reducible refine Row5.drew ?_)))
  have N13 : Row5 w13 w7.heap.size (.bool ng) (.int .u64 (lb 0 nn)) (.int .u64 (lb 1 nn)) (.int .u64 (lb 2 nn)) (.int .u64 (lb 3 nn)) := Row5.keep hb (by repeat (first | (with_reducible exact N12) | (with_reducible refine Row5.alloc ?_ _) | (with_reducible refine Row5.drew ?_)))
  have S13 : Row5 w13 w9.heap.size (.bool ng) (.int .u64 (lb 0 nn)) (.int .u64 (lb 1 nn)) (.int .u64 (lb 2 nn)) (.int .u64 (lb 3 nn)) := Row5.keep hb (by repeat (first | (with_reducible exact S12) | (with_reducible refine Row5.alloc ?_ _) | (with_reducible refine Row5.drew ?_)))
  have P13 : Row5 w13 w11.heap.size (.bool pg) (.int .u64 (lb 0 pn)) (.int .u64 (lb 1 pn)) (.int .u64 (lb 2 pn)) (.int .u64 (lb 3 pn)) := Row5.keep hb (by repeat (first | (with_reducible exact P12) | (with_reducible refine Row5.alloc ?_ _) | (with_reducible refine Row5.drew ?_)))
  clear X12 Y12 N12 S12 P12
  clear BW12
  clear hb
  go_upto_region 13 with (fail)
  go_name_world w14 hw14
  have BW14 : Below w.heap.size w w14 := by rw [← hw14]; repeat (first | (with_reducible exact BW13) | (with_reducible refine bal ?_ _) | (with_reducible refine Below.drew ?_) | (with_reducible refine bdn ?_ _))
  have X14 : Row5 w14 w.heap.size (.bool g) (.int .u64 (lb 0 x)) (.int .u64 (lb 1 x)) (.int .u64 (lb 2 x)) (.int .u64 (lb 3 x)) := by rw [← hw14]; exact (by repeat (first | (with_reducible exact X13) | (with_reducible refine Row5.alloc ?_ _) | (with_reducible refine Row5.drew ?_)))
  have Y14 : Row5 w14 (w.heap.size + 1) (.bool h) (.int .u64 (lb 0 y)) (.int .u64 (lb 1 y)) (.int .u64 (lb 2 y)) (.int .u64 (lb 3 y)) := by rw [← hw14]; exact (by repeat (first | (with_reducible exact Y13) | (with_reducible refine Row5.alloc ?_ _) | (with_reducible refine Row5.drew ?_)))
  have N14 : Row5 w14 w7.heap.size (.bool ng) (.int .u64 (lb 0 nn)) (.int .u64 (lb 1 nn)) (.int .u64 (lb 2 nn)) (.int .u64 (lb 3 nn)) := by rw [← hw14]; exact (by repeat (first | (with_reducible exact N13) | (with_reducible refine Row5.alloc ?_ _) | (with_reducible refine Row5.drew ?_)))
  have S14 : Row5 w14 w9.heap.size (.bool ng) (.int .u64 (lb 0 nn)) (.int .u64 (lb 1 nn)) (.int .u64 (lb 2 nn)) (.int .u64 (lb 3 nn)) := by rw [← hw14]; exact (by repeat (first | (with_reducible exact S13) | (with_reducible refine Row5.alloc ?_ _) | (with_reducible refine Row5.drew ?_)))
  have P14 : Row5 w14 w11.heap.size (.bool pg) (.int .u64 (lb 0 pn)) (.int .u64 (lb 1 pn)) (.int .u64 (lb 2 pn)) (.int .u64 (lb 3 pn)) := by rw [← hw14]; exact (by repeat (first | (with_reducible exact P13) | (with_reducible refine Row5.alloc ?_ _) | (with_reducible refine Row5.drew ?_)))
  have apQ_X := X13.lt
  have apQ_Y := Y13.lt
  have apQ_N := N13.lt
  have apQ_S := S13.lt
  have apQ_P := P13.lt
  have apQ_0 := (BW13).size
  have Q14 : Row5 w14 w13.heap.size (.bool pg) (.int .u64 (lb 0 pn)) (.int .u64 (lb 1 pn)) (.int .u64 (lb 2 pn)) (.int .u64 (lb 3 pn)) := by rw [← hw14]; exact (by repeat (first | (with_reducible exact Row5.new _ _ _ _ _ _) | ((with_reducible refine Row5.new' _ ?_ _ _ _ _ _); (simp; done)) | (with_reducible refine Row5.alloc ?_ _) | (with_reducible refine Row5.drew ?_)))
  clear X13 Y13 N13 S13 P13
  clear BW13
  clear hw14
  obtain ⟨Xc0, Xc1, Xc2, Xc3, Xc4⟩ := X14.parts
  obtain ⟨Xf0, Xf1, Xf2, Xf3, Xf4⟩ := X14.free
  obtain ⟨Nc0, Nc1, Nc2, Nc3, Nc4⟩ := N14.parts
  obtain ⟨Nf0, Nf1, Nf2, Nf3, Nf4⟩ := N14.free
  obtain ⟨Sc0, Sc1, Sc2, Sc3, Sc4⟩ := S14.parts
  obtain ⟨Sf0, Sf1, Sf2, Sf3, Sf4⟩ := S14.free
  obtain ⟨Pc0, Pc1, Pc2, Pc3, Pc4⟩ := P14.parts
  obtain ⟨Pf0, Pf1, Pf2, Pf3, Pf4⟩ := P14.free
  obtain ⟨Qc0, Qc1, Qc2, Qc3, Qc4⟩ := Q14.parts
  obtain ⟨Qf0, Qf1, Qf2, Qf3, Qf4⟩ := Q14.free
  have q3 := Q3.out; have q4 := Q4.out
  go_wp2_with fail
  refine (K2.out _).mono ?_
  rintro e w15 ⟨rfl, hb⟩
  have BW15 : Below w.heap.size w w15 := btr (by repeat (first | (with_reducible exact BW14) | (with_reducible refine bal ?_ _) | (with_reducible refine Below.drew ?_) | (with_reducible refine bdn ?_ _))) hb
  have X15 : Row5 w15 w.heap.size (.bool g) (.int .u64 (lb 0 x)) (.int .u64 (lb 1 x)) (.int .u64 (lb 2 x)) (.int .u64 (lb 3 x)) := Row5.keep hb (by repeat (first | (with_reducible exact X14) | (with_reducible refine Row5.alloc ?_ _) | (with_reducible refine Row5.drew ?_)))
  have Y15 : Row5 w15 (w.heap.size + 1) (.bool h) (.int .u64 (lb 0 y)) (.int .u64 (lb 1 y)) (.int .u64 (lb 2 y)) (.int .u64 (lb 3 y)) := Row5.keep hb (by repeat (first | (with_reducible exact Y14) | (with_reducible refine Row5.alloc ?_ _) | (with_reducible refine Row5.drew ?_)))
  have N15 : Row5 w15 w7.heap.size (.bool ng) (.int .u64 (lb 0 nn)) (.int .u64 (lb 1 nn)) (.int .u64 (lb 2 nn)) (.int .u64 (lb 3 nn)) := Row5.keep hb (by repeat (first | (with_reducible exact N14) | (with_reducible refine Row5.alloc ?_ _) | (with_reducible refine Row5.drew ?_)))
  have S15 : Row5 w15 w9.heap.size (.bool ng) (.int .u64 (lb 0 nn)) (.int .u64 (lb 1 nn)) (.int .u64 (lb 2 nn)) (.int .u64 (lb 3 nn)) := Row5.keep hb (by repeat (first | (with_reducible exact S14) | (with_reducible refine Row5.alloc ?_ _) | (with_reducible refine Row5.drew ?_)))
  have P15 : Row5 w15 w11.heap.size (.bool pg) (.int .u64 (lb 0 pn)) (.int .u64 (lb 1 pn)) (.int .u64 (lb 2 pn)) (.int .u64 (lb 3 pn)) := Row5.keep hb (by repeat (first | (with_reducible exact P14) | (with_reducible refine Row5.alloc ?_ _) | (with_reducible refine Row5.drew ?_)))
  have Q15 : Row5 w15 w13.heap.size (.bool pg) (.int .u64 (lb 0 pn)) (.int .u64 (lb 1 pn)) (.int .u64 (lb 2 pn)) (.int .u64 (lb 3 pn)) := Row5.keep hb (by repeat (first | (with_reducible exact Q14) | (with_reducible refine Row5.alloc ?_ _) | (with_reducible refine Row5.drew ?_)))
  clear X14 Y14 N14 S14 P14 Q14
  clear BW14
  clear hb
  clear q3 q4
  go_wp2_with fail
  refine (told2_true _ (tabs_on HT.out (by repeat (first | (with_reducible exact BW15) | (with_reducible refine bal ?_ _) | (with_reducible refine Below.drew ?_) | (with_reducible refine bdn ?_ _))))).mono ?_
  rintro e w16 ⟨rfl, hb⟩
  have BW16 : Below w.heap.size w w16 := btr (by repeat (first | (with_reducible exact BW15) | (with_reducible refine bal ?_ _) | (with_reducible refine Below.drew ?_) | (with_reducible refine bdn ?_ _))) hb
  have X16 : Row5 w16 w.heap.size (.bool g) (.int .u64 (lb 0 x)) (.int .u64 (lb 1 x)) (.int .u64 (lb 2 x)) (.int .u64 (lb 3 x)) := Row5.keep hb (by repeat (first | (with_reducible exact X15) | (with_reducible refine Row5.alloc ?_ _) | (with_reducible refine Row5.drew ?_)))
  have Y16 : Row5 w16 (w.heap.size + 1) (.bool h) (.int .u64 (lb 0 y)) (.int .u64 (lb 1 y)) (.int .u64 (lb 2 y)) (.int .u64 (lb 3 y)) := Row5.keep hb (by repeat (first | (with_reducible exact Y15) | (with_reducible refine Row5.alloc ?_ _) | (with_reducible refine Row5.drew ?_)))
  have N16 : Row5 w16 w7.heap.size (.bool ng) (.int .u64 (lb 0 nn)) (.int .u64 (lb 1 nn)) (.int .u64 (lb 2 nn)) (.int .u64 (lb 3 nn)) := Row5.keep hb (by repeat (first | (with_reducible exact N15) | (with_reducible refine Row5.alloc ?_ _) | (with_reducible refine Row5.drew ?_)))
  have S16 : Row5 w16 w9.heap.size (.bool ng) (.int .u64 (lb 0 nn)) (.int .u64 (lb 1 nn)) (.int .u64 (lb 2 nn)) (.int .u64 (lb 3 nn)) := Row5.keep hb (by repeat (first | (with_reducible exact S15) | (with_reducible refine Row5.alloc ?_ _) | (with_reducible refine Row5.drew ?_)))
  have P16 : Row5 w16 w11.heap.size (.bool pg) (.int .u64 (lb 0 pn)) (.int .u64 (lb 1 pn)) (.int .u64 (lb 2 pn)) (.int .u64 (lb 3 pn)) := Row5.keep hb (by repeat (first | (with_reducible exact P15) | (with_reducible refine Row5.alloc ?_ _) | (with_reducible refine Row5.drew ?_)))
  have Q16 : Row5 w16 w13.heap.size (.bool pg) (.int .u64 (lb 0 pn)) (.int .u64 (lb 1 pn)) (.int .u64 (lb 2 pn)) (.int .u64 (lb 3 pn)) := Row5.keep hb (by repeat (first | (with_reducible exact Q15) | (with_reducible refine Row5.alloc ?_ _) | (with_reducible refine Row5.drew ?_)))
  clear X15 Y15 N15 S15 P15 Q15
  clear BW15
  clear hb
  obtain ⟨Xc0, Xc1, Xc2, Xc3, Xc4⟩ := X16.parts
  obtain ⟨Xf0, Xf1, Xf2, Xf3, Xf4⟩ := X16.free
  obtain ⟨Yc0, Yc1, Yc2, Yc3, Yc4⟩ := Y16.parts
  obtain ⟨Yf0, Yf1, Yf2, Yf3, Yf4⟩ := Y16.free
  go_wp2_with fail
  refine (K17.out _).mono ?_
  rintro e w17 ⟨rfl, hb⟩
  have BW17 : Below w.heap.size w w17 := btr (by repeat (first | (with_reducible exact BW16) | (with_reducible refine bal ?_ _) | (with_reducible refine Below.drew ?_) | (with_reducible refine bdn ?_ _))) hb
  have X17 : Row5 w17 w.heap.size (.bool g) (.int .u64 (lb 0 x)) (.int .u64 (lb 1 x)) (.int .u64 (lb 2 x)) (.int .u64 (lb 3 x)) := Row5.keep hb (by repeat (first | (with_reducible exact X16) | (with_reducible refine Row5.alloc ?_ _) | (with_reducible refine Row5.drew ?_)))
  have Y17 : Row5 w17 (w.heap.size + 1) (.bool h) (.int .u64 (lb 0 y)) (.int .u64 (lb 1 y)) (.int .u64 (lb 2 y)) (.int .u64 (lb 3 y)) := Row5.keep hb (by repeat (first | (with_reducible exact Y16) | (with_reducible refine Row5.alloc ?_ _) | (with_reducible refine Row5.drew ?_)))
  have N17 : Row5 w17 w7.heap.size (.bool ng) (.int .u64 (lb 0 nn)) (.int .u64 (lb 1 nn)) (.int .u64 (lb 2 nn)) (.int .u64 (lb 3 nn)) := Row5.keep hb (by repeat (first | (with_reducible exact N16) | (with_reducible refine Row5.alloc ?_ _) | (with_reducible refine Row5.drew ?_)))
  have S17 : Row5 w17 w9.heap.size (.bool ng) (.int .u64 (lb 0 nn)) (.int .u64 (lb 1 nn)) (.int .u64 (lb 2 nn)) (.int .u64 (lb 3 nn)) := Row5.keep hb (by repeat (first | (with_reducible exact S16) | (with_reducible refine Row5.alloc ?_ _) | (with_reducible refine Row5.drew ?_)))
  have P17 : Row5 w17 w11.heap.size (.bool pg) (.int .u64 (lb 0 pn)) (.int .u64 (lb 1 pn)) (.int .u64 (lb 2 pn)) (.int .u64 (lb 3 pn)) := Row5.keep hb (by repeat (first | (with_reducible exact P16) | (with_reducible refine Row5.alloc ?_ _) | (with_reducible refine Row5.drew ?_)))
  have Q17 : Row5 w17 w13.heap.size (.bool pg) (.int .u64 (lb 0 pn)) (.int .u64 (lb 1 pn)) (.int .u64 (lb 2 pn)) (.int .u64 (lb 3 pn)) := Row5.keep hb (by repeat (first | (with_reducible exact Q16) | (with_reducible refine Row5.alloc ?_ _) | (with_reducible refine Row5.drew ?_)))
  clear X16 Y16 N16 S16 P16 Q16
  clear BW16
  clear hb
  go_wp2
  go_ret
  exact ⟨rfl, BW17⟩

end Go.Proofs.YtngmdncidieclaaDoor
end
section
namespace Go.Proofs.YtngmdncidieclaaDoor
open Go.RowKit Go.Shelf

theorem rsmall_any (x : Nat) (hx : x < 2 ^ 256) (w : World) :
    Calls Tryd.prog 81 #[N4 x] w fun e w' => e = .returned (.bool (decide (x < 18446744073709551616))) ∧ Below w.heap.size w w' := by
  have l1 := lb1 x; have l2 := lb2 x; have l3 := lb3 x
  have hs := lb_sum x hx
  unfold val4 at hs
  have l0 := lb0 x
  cases h1 : (lb 1 x == 0) with
  | false =>
    have h1' := h1
    rw [beq_eq_false_iff_ne] at h1'
    rw [decide_eq_false (by omega)]
    exact rsmall_no1 _ _ _ _ h1 w
  | true =>
    cases h2 : (lb 2 x == 0) with
    | false =>
      have h2' := h2
      rw [beq_eq_false_iff_ne] at h2'
      rw [decide_eq_false (by omega)]
      exact rsmall_no2 _ _ _ _ h1 h2 w
    | true =>
      cases h3 : (lb 3 x == 0) with
      | false =>
        have h3' := h3
        rw [beq_eq_false_iff_ne] at h3'
        rw [decide_eq_false (by omega)]
        exact rsmall_no3 _ _ _ _ h1 h2 h3 w
      | true =>
        have h1' := eq_of_beq h1; have h2' := eq_of_beq h2; have h3' := eq_of_beq h3
        rw [decide_eq_true (by omega)]
        exact rsmall_yes _ _ _ _ h1 h2 h3 w
theorem rmay_good (g : Bool) (x : Nat) (hx : x < 2 ^ 256) (h : ¬ (g = true ∧ x = 0)) (w : World) :
    Calls Tryd.prog 29 #[I5 g x] w fun e w' => e = .returned (.bool true) ∧ Below w.heap.size w w' := by
  cases g with
  | false => exact rmay_pos _ _ _ _ w
  | true =>
    have hm := rmay_neg (lb 0 x) (lb 1 x) (lb 2 x) (lb 3 x) w
    rw [show eq4 (lb 0 x) (lb 1 x) (lb 2 x) (lb 3 x) 0 0 0 0 = false from (eq4_of x 0 hx (by decide)).trans (decide_eq_false (fun h0 => h ⟨rfl, h0⟩))] at hm
    exact hm
theorem rmay_bad (w : World) :
    Calls Tryd.prog 29 #[I5 true 0] w fun e w' => e = .returned (.bool false) ∧ Below w.heap.size w w' := by
  have hm := rmay_neg 0 0 0 0 w
  rw [show eq4 0 0 0 0 0 0 0 0 = true by decide] at hm
  unfold I5
  simp only [lb_zero]
  exact hm
theorem rtoint_z (z : Int) (hz : z.natAbs < 2 ^ 256) (w : World) :
    Calls Tryd.prog 35 #[Iz z] w fun e w' => e = .returned (Znt .i64 z (decide (-9223372036854775808 ≤ z ∧ z < 9223372036854775808))) ∧ Below w.heap.size w w' := by
  rcases sgn z with ⟨n, rfl⟩ | ⟨n, hn, rfl⟩
  · have hn2 : n < 2 ^ 256 := by omega
    have hs := fun W => rsmall_any n hn2 W
    have hm := fun W => rmay_good false n hn2 (fun h => by cases h.1) W
    have l0 := lb0 n
    rw [Iz_nat]
    by_cases hb : n < 18446744073709551616
    · rw [decide_eq_true hb] at hs
      have e0 : lb 0 n = (n : Int) := by omega
      by_cases h63 : n ≤ 9223372036854775807
      · rw [decide_eq_true (by omega)]
        have := rtoint_pos (lb 0 n) (lb 1 n) (lb 2 n) (lb 3 n) (by omega) (by omega) (by rw [Go.IntWalk.i64_in _ (by omega)]) hm hs w
        rw [e0] at this
        unfold I5 Znt
        rw [e0]
        exact this
      · rw [decide_eq_false (by omega)]
        exact rtoint_posover _ _ _ _ (by omega) hm hs w
    · rw [decide_eq_false hb] at hs
      rw [decide_eq_false (by omega)]
      exact rtoint_big _ _ _ _ false hm hs w
  · have hn2 : n < 2 ^ 256 := by omega
    have hs := fun W => rsmall_any n hn2 W
    have hm := fun W => rmay_good true n hn2 (fun h => hn h.2) W
    have l0 := lb0 n
    rw [Iz_neg hn]
    by_cases hb : n < 18446744073709551616
    · rw [decide_eq_true hb] at hs
      have e0 : lb 0 n = (n : Int) := by omega
      by_cases h63 : n ≤ 9223372036854775808
      · rw [decide_eq_true (by omega)]
        have := rtoint_neg (lb 0 n) (lb 1 n) (lb 2 n) (lb 3 n) (lb 0 n - 1) (-(lb 0 n - 1)) (by omega) (by omega) (by rw [IntKind.wrap_u64]; omega) (by rw [Go.IntWalk.i64_in _ (by omega)]) (by rw [Go.IntWalk.i64_in _ (by omega)]) (by rw [Go.IntWalk.i64_in _ (by omega)]; omega) hm hs w
        unfold I5 Znt
        rw [e0] at this ⊢
        exact this
      · rw [decide_eq_false (by omega)]
        exact rtoint_negover _ _ _ _ (by omega) hm hs w
    · rw [decide_eq_false hb] at hs
      rw [decide_eq_false (by omega)]
      exact rtoint_big _ _ _ _ true hm hs w
theorem rtouint_z (z : Int) (hz : z.natAbs < 2 ^ 256) (w : World) :
    Calls Tryd.prog 37 #[Iz z] w fun e w' => e = .returned (Znt .u64 z (decide (0 ≤ z ∧ z < 18446744073709551616))) ∧ Below w.heap.size w w' := by
  rcases sgn z with ⟨n, rfl⟩ | ⟨n, hn, rfl⟩
  · have hn2 : n < 2 ^ 256 := by omega
    have hs := fun W => rsmall_any n hn2 W
    have hm := fun W => rmay_good false n hn2 (fun h => by cases h.1) W
    have l0 := lb0 n
    rw [Iz_nat]
    by_cases hb : n < 18446744073709551616
    · rw [decide_eq_true hb] at hs
      have e0 : lb 0 n = (n : Int) := by omega
      rw [decide_eq_true (by omega)]
      have := rtouint_pos (lb 0 n) (lb 1 n) (lb 2 n) (lb 3 n) hm hs w
      unfold I5 Znt
      rw [e0] at this ⊢
      exact this
    · rw [decide_eq_false hb] at hs
      rw [decide_eq_false (by omega)]
      exact rtouint_big _ _ _ _ hm hs w
  · have hn2 : n < 2 ^ 256 := by omega
    have hm := fun W => rmay_good true n hn2 (fun h => hn h.2) W
    rw [Iz_neg hn, decide_eq_false (by omega)]
    exact rtouint_neg _ _ _ _ hm w
theorem znum_form (t : Int) : ∃ h y, y < 2 ^ 256 ∧ Znum t = .tuple #[I5 h y, .bool (decide (t.natAbs < 2 ^ 256))] := by
  by_cases ht : t.natAbs < 2 ^ 256
  · rw [decide_eq_true ht, Znum_of ht]; exact ⟨_, _, ht, rfl⟩
  · rw [decide_eq_false ht, Znum_Z5 ht]; exact ⟨false, 0, by decide, by unfold I5; simp only [lb_zero]⟩
theorem rwh_z {s : Value} {v : Nat} (g : Bool) (t : Int) (ht : t = if g then -(v : Int) else v) {w : World} (h : DR w s v) :
    Calls Tryd.prog 85 #[.bool g, s] w fun e w' => e = .returned (Znum t) ∧ Below w.heap.size w w' := by
  have hn : t.natAbs = v := by rw [ht]; split <;> omega
  have := rwh g h
  rw [← ht] at this
  unfold Znum
  rw [hn]
  exact this
theorem rstep_z (z : Int) (hz : z.natAbs < 2 ^ 256) (up : Bool) (t : Int) (ht : t = if up then z + 1 else z - 1) (w : World) :
    Calls Tryd.prog 39 #[Iz z, .bool up] w fun e w' => e = .returned (Znum t) ∧ Below w.heap.size w w' := by
  obtain ⟨h, y, hy, hf⟩ := znum_form t
  have key : ∀ (g : Bool) (v : Nat), t = (if g then -(v : Int) else v) → ∀ s' W, DR W s' v → Calls Tryd.prog 85 #[.bool g, s'] W fun e w' => e = .returned (.tuple #[I5 h y, .bool (decide (t.natAbs < 2 ^ 256))]) ∧ Below W.heap.size W w' := fun g v e s' W hD => by
    have := rwh_z g t e hD
    rw [hf] at this
    exact this
  rw [hf]
  have hl : ∀ n : Nat, n ≠ 0 → (((digs n).length : Int) == 0) = false := fun n hn => by have := digs_some hn; rw [beq_eq_false_iff_ne]; omega
  rcases sgn z with ⟨n, rfl⟩ | ⟨n, hn, rfl⟩
  · have hn2 : n < 2 ^ 256 := by omega
    have hm := fun W => rmay_good false n hn2 (fun h => by cases h.1) W
    rw [Iz_nat]
    by_cases h0 : n = 0
    · subst h0
      have hd : (((digs 0).length : Int) == 0) = true := by rw [digs_zero]; rfl
      exact rstep_zero false up 0 (by decide) hd h _ _ _ _ _ (key (!up) 1 (by rw [ht]; cases up <;> rfl)) w hm
    · cases up with
      | true => exact rstep_grow_false n hn2 (hl n h0) h _ _ _ _ _ (key false (n + 1) (by rw [ht]; simp)) w hm
      | false => exact rstep_less_false n hn2 (hl n h0) (by omega) h _ _ _ _ _ (key false (n - 1) (by rw [ht]; simp only [Bool.false_eq_true, if_false]; omega)) w hm
  · have hn2 : n < 2 ^ 256 := by omega
    have hm := fun W => rmay_good true n hn2 (fun h => hn h.2) W
    rw [Iz_neg hn]
    cases up with
    | false => exact rstep_grow_true n hn2 (hl n hn) h _ _ _ _ _ (key true (n + 1) (by rw [ht]; simp only [Bool.false_eq_true, if_false, if_true]; omega)) w hm
    | true => exact rstep_less_true n hn2 (hl n hn) (by omega) h _ _ _ _ _ (key true (n - 1) (by rw [ht]; simp only [if_true]; omega)) w hm
theorem rcv_cmpv (x y : Nat) : rcv x y = cmpv (x : Int) (y : Int) := by
  unfold cmpv rcv
  by_cases h : x < y
  · rw [if_pos h, if_pos (by omega)]
  · by_cases h2 : y < x
    · rw [if_neg h, if_pos h2, if_neg (by omega), if_neg (by omega)]
    · rw [if_neg h, if_neg h2, if_neg (by omega), if_pos (by omega)]
theorem cmpv_neg (x y : Int) : cmpv (-x) (-y) = -cmpv x y := by
  unfold cmpv
  split <;> split <;> (try split) <;> (try split) <;> omega
theorem rcmpint_z (y z : Int) (hy : y.natAbs < 2 ^ 256) (hz : z.natAbs < 2 ^ 256) (w : World) :
    Calls Tryd.prog 41 #[Iz y, Iz z] w fun e w' => e = .returned (.int .i64 (cmpv y z)) ∧ Below w.heap.size w w' := by
  rcases sgn y with ⟨n, rfl⟩ | ⟨n, hn, rfl⟩ <;> rcases sgn z with ⟨m, rfl⟩ | ⟨m, hm, rfl⟩
  · rw [Iz_nat, Iz_nat]
    exact rcmpint_ff n m (by omega) (by omega) _ (rcv_cmpv n m) w
  · rw [Iz_nat, Iz_neg hm, show cmpv (n : Int) (-(m : Int)) = 1 from by unfold cmpv; rw [if_neg (by omega), if_neg (by omega)]]
    exact rcmpint_ft n m w
  · rw [Iz_nat, Iz_neg hn, show cmpv (-(n : Int)) (m : Int) = -1 from by unfold cmpv; rw [if_pos (by omega)]]
    exact rcmpint_tf n m w
  · rw [Iz_neg hn, Iz_neg hm, cmpv_neg]
    refine rcmpint_tt n m (by omega) (by omega) _ _ (rcv_cmpv n m) ?_ w
    have : -1 ≤ cmpv (n : Int) (m : Int) ∧ cmpv (n : Int) (m : Int) ≤ 1 := by unfold cmpv; split <;> (try split) <;> omega
    rw [Go.IntWalk.i64_in _ (by omega)]
theorem rofint_z (v : Int) (h0 : -9223372036854775808 ≤ v) (h1 : v < 9223372036854775808) (w : World) :
    Calls Tryd.prog 31 #[.int .i64 v] w fun e w' => e = .returned (Iz v) ∧ Below w.heap.size w w' := by
  rcases sgn v with ⟨n, rfl⟩ | ⟨n, hn, rfl⟩
  · rw [Iz_pos n (by omega)]
    exact rofint_pos _ (by omega) h1 w
  · rw [Iz_minus n hn (by omega)]
    have := rofint_neg (-(n : Int)) _ _ (by omega) h0 rfl rfl w
    rw [Int.neg_neg] at this
    exact this
theorem rofuint_z (v : Int) (h0 : 0 ≤ v) (h1 : v < 18446744073709551616) (w : World) :
    Calls Tryd.prog 33 #[.int .u64 v] w fun e w' => e = .returned (Iz v) ∧ Below w.heap.size w w' := by
  obtain ⟨n, rfl⟩ := Int.eq_ofNat_of_zero_le h0
  rw [Iz_pos n (by omega)]
  exact rofuint _ w
theorem znt_form (k : IntKind) (z : Int) (b : Bool) : Znt k z b = .tuple #[.int k (if b then z else 0), .bool b] := by
  unfold Znt; cases b <;> rfl
theorem eq5_own (c : Bool) (v : Nat) (h : v < 2 ^ 256) : eq5 c (lb 0 v) (lb 1 v) (lb 2 v) (lb 3 v) c (lb 0 v) (lb 1 v) (lb 2 v) (lb 3 v) = true := by
  rw [eq5_int c c v v h h]; exact decide_eq_true ⟨rfl, rfl⟩
theorem numbers_any (g : Bool) (x : Nat) (h : Bool) (y : Nat) (v u : Int) (hx : x < 2 ^ 256) (hy : y < 2 ^ 256) (v0 : -9223372036854775808 ≤ v) (v1 : v ≤ 9223372036854775807) (u0 : 0 ≤ u) (u1 : u ≤ 18446744073709551615) (w : World) (hT : Tabs w) :
    Calls Tryd.prog 5 #[I5 g x, I5 h y, .int .i64 v, .int .u64 u] w fun e w' => e = .returned (.bool true) ∧ Below w.heap.size w w' := by
  have k3 := fun W => of_z v v0 (by omega) W
  have k4 := fun W => rofint_z v v0 (by omega) W
  have hu : Iz u = I5 false u.natAbs := by unfold Iz; rw [decide_eq_false (by omega)]
  have k5 := fun W => ofUint_z u u0 (by omega) W
  have k6 := fun W => rofuint_z u u0 (by omega) W
  rw [hu] at k5 k6
  have q1 := eq5_own (decide (v < 0)) v.natAbs (by omega)
  have q2 := eq5_own false u.natAbs (by omega)
  rcases int_or g x with ⟨z, ez, nz⟩ | ⟨rfl, rfl⟩
  · have hz : z.natAbs < 2 ^ 256 := by omega
    have hg : ¬ (g = true ∧ x = 0) := by
      rintro ⟨rfl, rfl⟩
      unfold I5 Iz I5 at ez
      injection ez with ez
      have := congrArg (fun a => a[0]?) ez
      simp at this
      omega
    have k1 := fun W => may_z z hz W
    have k2 := fun W => rmay_good g x hx hg W
    have k7 := fun W => toint_z z hz W
    have k8 := fun W => rtoint_z z hz W
    have k9 := fun W => touint_z z hz W
    have k10 := fun W => rtouint_z z hz W
    rw [znt_form] at k7 k8 k9 k10
    have k11 := fun W => next_z z hz W
    have k12 := fun W => rstep_z z hz true (z + 1) rfl W
    have k13 := fun W => prev_z z hz W
    have k14 := fun W => rstep_z z hz false (z - 1) rfl W
    obtain ⟨ng, nn, hnn, en⟩ := znum_form (z + 1)
    obtain ⟨pg, pn, hpn, ep⟩ := znum_form (z - 1)
    rw [en] at k11 k12
    rw [ep] at k13 k14
    rw [← ez] at k1 k7 k8 k9 k10 k11 k12 k13 k14
    rcases int_or h y with ⟨z2, ez2, nz2⟩ | ⟨rfl, rfl⟩
    · have hz2 : z2.natAbs < 2 ^ 256 := by omega
      have hh : ¬ (h = true ∧ y = 0) := by
        rintro ⟨rfl, rfl⟩
        unfold I5 Iz I5 at ez2
        injection ez2 with ez2
        have := congrArg (fun a => a[0]?) ez2
        simp at this
        omega
      have k16 := fun W => rcmpint_z z z2 hz hz2 W
      have k17 := fun W => cmp_z z z2 hz hz2 W
      rw [← ez, ← ez2] at k16 k17
      exact numbers_tt g h _ ng pg _ _ _ _ x y _ _ nn pn v u _ _ _ w hT q1 q2 (eq5_own ng nn hnn) (eq5_own pg pn hpn) k1 k2 k3 k4 k5 k6 k7 k8 k9 k10 k11 k12 k13 k14 (fun W => rmay_good h y hy hh W) k16 k17
    · exact numbers_tf g true _ ng pg _ _ _ _ x 0 _ _ nn pn v u _ _ w hT q1 q2 (eq5_own ng nn hnn) (eq5_own pg pn hpn) k1 k2 k3 k4 k5 k6 k7 k8 k9 k10 k11 k12 k13 k14 (fun W => rmay_bad W) (fun W => cmp_bad g x true 0 hx (.inr ⟨rfl, rfl⟩) W)
  · have kz : ∀ (f : FuncId) (l : Array Value), (∀ W, Calls Tryd.prog f l W fun e w' => e = .returned (.tuple #[Z5, .bool false]) ∧ Below W.heap.size W w') → ∀ W, Calls Tryd.prog f l W fun e w' => e = .returned (.tuple #[I5 false 0, .bool false]) ∧ Below W.heap.size W w' := fun f l k W => by
      unfold I5
      simp only [lb_zero]
      exact k W
    have kstep : ∀ up W, Calls Tryd.prog 39 #[I5 true 0, .bool up] W fun e w' => e = .returned (.tuple #[Z5, .bool false]) ∧ Below W.heap.size W w' := fun up W => rstep_bad true up 0 (by decide) W (fun W => rmay_bad W)
    exact numbers_f true h _ false false _ _ _ _ 0 y _ _ 0 0 v u _ _ w hT q1 q2 (eq5_own false 0 (by decide)) (eq5_own false 0 (by decide)) (fun W => may_no W) (fun W => rmay_bad W) k3 k4 k5 k6
      (fun W => toint_bad W) (fun W => rtoint_bad _ _ _ _ true (fun W => rmay_bad W) W) (fun W => touint_bad W) (fun W => rtouint_bad _ _ _ _ true (fun W => rmay_bad W) W)
      (kz _ _ (fun W => next_bad W)) (kz _ _ (kstep true)) (kz _ _ (fun W => prev_bad W)) (kz _ _ (kstep false)) (fun W => cmp_bad true 0 h y (by decide) (.inl ⟨rfl, rfl⟩) W)
end Go.Proofs.YtngmdncidieclaaDoor
end
