/-
  whole.Exact, ExactUp, RoughUp: the walks, for all whole numbers of a sign and four words; what their callees answer is a premise.
-/
import Derived.Test.YtjlgiejggcbgbaaGreatDoorWholeF
import Derived.Test.YtjlgiejggcbgbaaGreatDoorNatTrail
import Derived.Test.YtjlgiejggcbgbaaGreatDoorNatShr
import Derived.Lib.QuietBelow
import Derived.BigQuiet
namespace Go.Proofs.YtjlgiejggcbgbaaGreatDoor
open Go.RowKit Go.Shelf
open Go.Sort (grow)
attribute [local go_sem ↓] eql_nat neq_nat eql_int5 neq_int5

set_option maxHeartbeats 1000000 in
set_option maxRecDepth 100000 in
theorem exact_no (g : Bool) (x0 x1 x2 x3 : Int)
    (m1 : ∀ W, Calls Tryz.prog 26 #[.agg #[.bool g, .int .u64 x0, .int .u64 x1, .int .u64 x2, .int .u64 x3]] W fun e w' => e = .returned (.bool false) ∧ Below W.heap.size W w') (w : World) :
    Calls Tryz.prog 64 #[.agg #[.bool g, .int .u64 x0, .int .u64 x1, .int .u64 x2, .int .u64 x3]] w fun e w' => e = .returned (.bool false) ∧ Below w.heap.size w w' := by
  have M1 := Lib.hid m1; clear m1
  go_enter Tryz.func64, Tryz.ntmps64
  go_upto_region 1 with (fail)
  go_name_world w1 hw1
  have BW1 : Below w.heap.size w w1 := by rw [← hw1]; repeat (first | (with_reducible exact Below.refl _ _) | (with_reducible refine bal ?_ _) | (with_reducible refine Below.drew ?_) | (with_reducible refine bdn ?_ _))
  have X1 : Row5 w1 w.heap.size (.bool g) (.int .u64 x0) (.int .u64 x1) (.int .u64 x2) (.int .u64 x3) := by rw [← hw1]; exact (by repeat (first | (with_reducible exact Row5.new _ _ _ _ _ _) | ((with_reducible refine Row5.new' _ ?_ _ _ _ _ _); (simp; done)) | (with_reducible refine Row5.alloc ?_ _) | (with_reducible refine Row5.drew ?_)))
  clear hw1
  obtain ⟨qX0, qX1, qX2, qX3, qX4⟩ := X1.parts
  have gX0 := cell_regrown qX0
  have gX1 := cell_regrown qX1
  have gX2 := cell_regrown qX2
  have gX3 := cell_regrown qX3
  have gX4 := cell_regrown qX4
  clear qX0 qX1 qX2 qX3 qX4
  have cq0 := fun (d : Nat) (os : Array Obj) => Calls.regrown_of (w := w1) (d := d) (os := os) (M1.out _)
  refine wp_region_quiet_below (by kernel_rfl) (by kernel_rfl) ?_
  repeat (first | go_big_quiet_step ((first | exact cq0 _ _)) | quiet_step (first | exact cq0 _ _))
  refine wpQuiet_nil ?_
  intro _ hw'
  obtain ⟨⟨dq, osq⟩, hw''⟩ := hw'
  subst hw''
  clear gX0 gX1 gX2 gX3 gX4 cq0
  have hb := below_regrown w1 dq osq
  generalize grow (redrawn w1 dq) osq = w2 at *
  have BW2 : Below w.heap.size w w2 := btr BW1 hb
  have X2 : Row5 w2 w.heap.size (.bool g) (.int .u64 x0) (.int .u64 x1) (.int .u64 x2) (.int .u64 x3) := Row5.keep hb X1
  clear X1 BW1 hb
  go_wp2
  go_ret
  exact ⟨rfl, by repeat (first | (with_reducible exact BW2) | (with_reducible refine bal ?_ _) | (with_reducible refine Below.drew ?_) | (with_reducible refine bdn ?_ _))⟩

set_option maxHeartbeats 1000000 in
set_option maxRecDepth 100000 in
theorem exact_yes (g : Bool) (x0 x1 x2 x3 : Int) (l t : Int) (q : Bool) (hq : decide (l - t ≤ 53) = q) (h0 : 0 ≤ l) (h1 : l ≤ 256) (h2 : 0 ≤ t) (h3 : t ≤ 256)
    (m1 : ∀ W, Calls Tryz.prog 26 #[.agg #[.bool g, .int .u64 x0, .int .u64 x1, .int .u64 x2, .int .u64 x3]] W fun e w' => e = .returned (.bool true) ∧ Below W.heap.size W w')
    (m2 : ∀ W, Calls Tryz.prog 65 #[.agg #[.int .u64 x0, .int .u64 x1, .int .u64 x2, .int .u64 x3]] W fun e w' => e = .returned (.int .i64 l) ∧ Below W.heap.size W w')
    (m3 : ∀ W, Tb W → Calls Tryz.prog 82 #[.agg #[.int .u64 x0, .int .u64 x1, .int .u64 x2, .int .u64 x3]] W fun e w' => e = .returned (.int .i64 t) ∧ Below W.heap.size W w') (w : World) (hT : Tb w) :
    Calls Tryz.prog 64 #[.agg #[.bool g, .int .u64 x0, .int .u64 x1, .int .u64 x2, .int .u64 x3]] w fun e w' => e = .returned (.bool q) ∧ Below w.heap.size w w' := by
  have M1 := Lib.hid m1; clear m1
  have M2 := Lib.hid m2; clear m2
  have M3 := Lib.hid m3; clear m3
  have HT := Lib.hid hT; clear hT
  have HQ := Lib.hid hq; clear hq
  go_enter Tryz.func64, Tryz.ntmps64
  go_upto_region 1 with (fail)
  go_name_world w1 hw1
  have BW1 : Below w.heap.size w w1 := by rw [← hw1]; repeat (first | (with_reducible exact Below.refl _ _) | (with_reducible refine bal ?_ _) | (with_reducible refine Below.drew ?_) | (with_reducible refine bdn ?_ _))
  have X1 : Row5 w1 w.heap.size (.bool g) (.int .u64 x0) (.int .u64 x1) (.int .u64 x2) (.int .u64 x3) := by rw [← hw1]; exact (by repeat (first | (with_reducible exact Row5.new _ _ _ _ _ _) | ((with_reducible refine Row5.new' _ ?_ _ _ _ _ _); (simp; done)) | (with_reducible refine Row5.alloc ?_ _) | (with_reducible refine Row5.drew ?_)))
  clear hw1
  obtain ⟨qX0, qX1, qX2, qX3, qX4⟩ := X1.parts
  have gX0 := cell_regrown qX0
  have gX1 := cell_regrown qX1
  have gX2 := cell_regrown qX2
  have gX3 := cell_regrown qX3
  have gX4 := cell_regrown qX4
  clear qX0 qX1 qX2 qX3 qX4
  have cq0 := fun (d : Nat) (os : Array Obj) => Calls.regrown_of (w := w1) (d := d) (os := os) (M1.out _)
  have cq1 := fun (d : Nat) (os : Array Obj) => Calls.regrown_of (w := w1) (d := d) (os := os) (M2.out _)
  have cq2 := fun (d : Nat) (os : Array Obj) => Calls.regrown_of (w := w1) (d := d) (os := os) (M3.out _ (tb_on HT.out (btr BW1 (below_regrown w1 d os))))
  refine wp_region_quiet_below (by kernel_rfl) (by kernel_rfl) ?_
  repeat (first | go_big_quiet_step ((first | exact cq0 _ _ | exact cq1 _ _ | exact cq2 _ _)) | quiet_step (first | exact cq0 _ _ | exact cq1 _ _ | exact cq2 _ _))
  refine wpQuiet_nil ?_
  intro _ hw'
  obtain ⟨⟨dq, osq⟩, hw''⟩ := hw'
  subst hw''
  clear gX0 gX1 gX2 gX3 gX4 cq0 cq1 cq2
  have hb := below_regrown w1 dq osq
  generalize grow (redrawn w1 dq) osq = w2 at *
  have BW2 : Below w.heap.size w w2 := btr BW1 hb
  have X2 : Row5 w2 w.heap.size (.bool g) (.int .u64 x0) (.int .u64 x1) (.int .u64 x2) (.int .u64 x3) := Row5.keep hb X1
  clear X1 BW1 hb
  go_wp2
  go_ret
  exact ⟨by rw [← HQ.out]; rfl, by repeat (first | (with_reducible exact BW2) | (with_reducible refine bal ?_ _) | (with_reducible refine Below.drew ?_) | (with_reducible refine bdn ?_ _))⟩

set_option maxHeartbeats 1000000 in
set_option maxRecDepth 100000 in
theorem exup_no (g : Bool) (x0 x1 x2 x3 : Int)
    (m1 : ∀ W, Calls Tryz.prog 26 #[.agg #[.bool g, .int .u64 x0, .int .u64 x1, .int .u64 x2, .int .u64 x3]] W fun e w' => e = .returned (.bool false) ∧ Below W.heap.size W w') (w : World) :
    Calls Tryz.prog 39 #[.agg #[.bool g, .int .u64 x0, .int .u64 x1, .int .u64 x2, .int .u64 x3]] w fun e w' => e = .returned (.tuple #[Z5, .bool false]) ∧ Below w.heap.size w w' := by
  have M1 := Lib.hid m1; clear m1
  go_enter Tryz.func39, Tryz.ntmps39
  go_wp2_with fail
  (with_reducible refine (M1.out _).mono ?_)
  rintro e w1 ⟨rfl, hb⟩
  have BW1 : Below w.heap.size w w1 := btr (by repeat (first | (with_reducible exact Below.refl _ _) | (with_reducible refine bal ?_ _) | (with_reducible refine Below.drew ?_) | (with_reducible refine bdn ?_ _))) hb
  have X1 : Row5 w1 w.heap.size (.bool g) (.int .u64 x0) (.int .u64 x1) (.int .u64 x2) (.int .u64 x3) := Row5.keep hb (by repeat (first | (with_reducible exact Row5.new _ _ _ _ _ _) | ((with_reducible refine Row5.new' _ ?_ _ _ _ _ _); (simp; done)) | (with_reducible refine Row5.alloc ?_ _) | (with_reducible refine Row5.drew ?_)))
  have R1 : Row5 w1 (w.heap.size + 1) (.bool false) (.int .u64 0) (.int .u64 0) (.int .u64 0) (.int .u64 0) := Row5.keep hb (by repeat (first | (with_reducible exact Row5.new _ _ _ _ _ _) | ((with_reducible refine Row5.new' _ ?_ _ _ _ _ _); (simp; done)) | (with_reducible refine Row5.alloc ?_ _) | (with_reducible refine Row5.drew ?_)))
  clear hb
  obtain ⟨Xc0, Xc1, Xc2, Xc3, Xc4⟩ := X1.parts
  obtain ⟨Xf0, Xf1, Xf2, Xf3, Xf4⟩ := X1.free
  obtain ⟨Rc0, Rc1, Rc2, Rc3, Rc4⟩ := R1.parts
  obtain ⟨Rf0, Rf1, Rf2, Rf3, Rf4⟩ := R1.free
  go_wp2
  exact bodyPost_ret (v := .tuple #[Z5, .bool false]) (by simp [results, Tryz.results39, go_sem, Rc0, Rc1, Rc2, Rc3, Rc4]) rfl ⟨rfl, bsc5 BW1 (by omega) _ _ _ _ _⟩

set_option maxHeartbeats 1000000 in
set_option maxRecDepth 100000 in
theorem exup_same (g : Bool) (x0 x1 x2 x3 : Int)
    (m1 : ∀ W, Calls Tryz.prog 26 #[.agg #[.bool g, .int .u64 x0, .int .u64 x1, .int .u64 x2, .int .u64 x3]] W fun e w' => e = .returned (.bool true) ∧ Below W.heap.size W w')
    (m2 : ∀ W, Tb W → Calls Tryz.prog 64 #[.agg #[.bool g, .int .u64 x0, .int .u64 x1, .int .u64 x2, .int .u64 x3]] W fun e w' => e = .returned (.bool true) ∧ Below W.heap.size W w') (w : World) (hT : Tb w) :
    Calls Tryz.prog 39 #[.agg #[.bool g, .int .u64 x0, .int .u64 x1, .int .u64 x2, .int .u64 x3]] w fun e w' => e = .returned (.tuple #[.agg #[.bool g, .int .u64 x0, .int .u64 x1, .int .u64 x2, .int .u64 x3], .bool true]) ∧ Below w.heap.size w w' := by
  have M1 := Lib.hid m1; clear m1
  have M2 := Lib.hid m2; clear m2
  have HT := Lib.hid hT; clear hT
  go_enter Tryz.func39, Tryz.ntmps39
  go_wp2_with fail
  (with_reducible refine (M1.out _).mono ?_)
  rintro e w1 ⟨rfl, hb⟩
  have BW1 : Below w.heap.size w w1 := btr (by repeat (first | (with_reducible exact Below.refl _ _) | (with_reducible refine bal ?_ _) | (with_reducible refine Below.drew ?_) | (with_reducible refine bdn ?_ _))) hb
  have X1 : Row5 w1 w.heap.size (.bool g) (.int .u64 x0) (.int .u64 x1) (.int .u64 x2) (.int .u64 x3) := Row5.keep hb (by repeat (first | (with_reducible exact Row5.new _ _ _ _ _ _) | ((with_reducible refine Row5.new' _ ?_ _ _ _ _ _); (simp; done)) | (with_reducible refine Row5.alloc ?_ _) | (with_reducible refine Row5.drew ?_)))
  have R1 : Row5 w1 (w.heap.size + 1) (.bool false) (.int .u64 0) (.int .u64 0) (.int .u64 0) (.int .u64 0) := Row5.keep hb (by repeat (first | (with_reducible exact Row5.new _ _ _ _ _ _) | ((with_reducible refine Row5.new' _ ?_ _ _ _ _ _); (simp; done)) | (with_reducible refine Row5.alloc ?_ _) | (with_reducible refine Row5.drew ?_)))
  clear hb
  obtain ⟨Xc0, Xc1, Xc2, Xc3, Xc4⟩ := X1.parts
  obtain ⟨Xf0, Xf1, Xf2, Xf3, Xf4⟩ := X1.free
  go_wp2_with fail
  refine (M2.out _ (tb_on HT.out (by repeat (first | (with_reducible exact BW1) | (with_reducible refine bal ?_ _) | (with_reducible refine Below.drew ?_) | (with_reducible refine bdn ?_ _))))).mono ?_
  rintro e w2 ⟨rfl, hb⟩
  have BW2 : Below w.heap.size w w2 := btr (by repeat (first | (with_reducible exact BW1) | (with_reducible refine bal ?_ _) | (with_reducible refine Below.drew ?_) | (with_reducible refine bdn ?_ _))) hb
  have X2 : Row5 w2 w.heap.size (.bool g) (.int .u64 x0) (.int .u64 x1) (.int .u64 x2) (.int .u64 x3) := Row5.keep hb (by repeat (first | (with_reducible exact X1) | (with_reducible refine Row5.alloc ?_ _) | (with_reducible refine Row5.drew ?_)))
  have R2 : Row5 w2 (w.heap.size + 1) (.bool false) (.int .u64 0) (.int .u64 0) (.int .u64 0) (.int .u64 0) := Row5.keep hb (by repeat (first | (with_reducible exact R1) | (with_reducible refine Row5.alloc ?_ _) | (with_reducible refine Row5.drew ?_)))
  clear X1 R1
  clear BW1
  clear hb
  obtain ⟨Xc0, Xc1, Xc2, Xc3, Xc4⟩ := X2.parts
  obtain ⟨Xf0, Xf1, Xf2, Xf3, Xf4⟩ := X2.free
  obtain ⟨Rc0, Rc1, Rc2, Rc3, Rc4⟩ := R2.parts
  obtain ⟨Rf0, Rf1, Rf2, Rf3, Rf4⟩ := R2.free
  go_wp2
  exact bodyPost_ret (v := .tuple #[.agg #[.bool g, .int .u64 x0, .int .u64 x1, .int .u64 x2, .int .u64 x3], .bool true]) (by simp [results, Tryz.results39, go_sem, Rc0, Rc1, Rc2, Rc3, Rc4]) rfl ⟨rfl, bsc5 BW2 (by omega) _ _ _ _ _⟩

set_option maxHeartbeats 1000000 in
set_option maxRecDepth 100000 in
theorem roup_no (g : Bool) (x0 x1 x2 x3 : Int)
    (m1 : ∀ W, Calls Tryz.prog 26 #[.agg #[.bool g, .int .u64 x0, .int .u64 x1, .int .u64 x2, .int .u64 x3]] W fun e w' => e = .returned (.bool false) ∧ Below W.heap.size W w') (w : World) :
    Calls Tryz.prog 41 #[.agg #[.bool g, .int .u64 x0, .int .u64 x1, .int .u64 x2, .int .u64 x3]] w fun e w' => e = .returned (.tuple #[Z5, .bool false]) ∧ Below w.heap.size w w' := by
  have M1 := Lib.hid m1; clear m1
  go_enter Tryz.func41, Tryz.ntmps41
  go_wp2_with fail
  (with_reducible refine (M1.out _).mono ?_)
  rintro e w1 ⟨rfl, hb⟩
  have BW1 : Below w.heap.size w w1 := btr (by repeat (first | (with_reducible exact Below.refl _ _) | (with_reducible refine bal ?_ _) | (with_reducible refine Below.drew ?_) | (with_reducible refine bdn ?_ _))) hb
  have X1 : Row5 w1 w.heap.size (.bool g) (.int .u64 x0) (.int .u64 x1) (.int .u64 x2) (.int .u64 x3) := Row5.keep hb (by repeat (first | (with_reducible exact Row5.new _ _ _ _ _ _) | ((with_reducible refine Row5.new' _ ?_ _ _ _ _ _); (simp; done)) | (with_reducible refine Row5.alloc ?_ _) | (with_reducible refine Row5.drew ?_)))
  have R1 : Row5 w1 (w.heap.size + 1) (.bool false) (.int .u64 0) (.int .u64 0) (.int .u64 0) (.int .u64 0) := Row5.keep hb (by repeat (first | (with_reducible exact Row5.new _ _ _ _ _ _) | ((with_reducible refine Row5.new' _ ?_ _ _ _ _ _); (simp; done)) | (with_reducible refine Row5.alloc ?_ _) | (with_reducible refine Row5.drew ?_)))
  clear hb
  obtain ⟨Xc0, Xc1, Xc2, Xc3, Xc4⟩ := X1.parts
  obtain ⟨Xf0, Xf1, Xf2, Xf3, Xf4⟩ := X1.free
  obtain ⟨Rc0, Rc1, Rc2, Rc3, Rc4⟩ := R1.parts
  obtain ⟨Rf0, Rf1, Rf2, Rf3, Rf4⟩ := R1.free
  go_wp2
  exact bodyPost_ret (v := .tuple #[Z5, .bool false]) (by simp [results, Tryz.results41, go_sem, Rc0, Rc1, Rc2, Rc3, Rc4]) rfl ⟨rfl, bsc5 BW1 (by omega) _ _ _ _ _⟩

set_option maxHeartbeats 1000000 in
set_option maxRecDepth 100000 in
theorem roup_same (g : Bool) (x0 x1 x2 x3 : Int)
    (m1 : ∀ W, Calls Tryz.prog 26 #[.agg #[.bool g, .int .u64 x0, .int .u64 x1, .int .u64 x2, .int .u64 x3]] W fun e w' => e = .returned (.bool true) ∧ Below W.heap.size W w')
    (m2 : ∀ W, Tb W → Calls Tryz.prog 64 #[.agg #[.bool g, .int .u64 x0, .int .u64 x1, .int .u64 x2, .int .u64 x3]] W fun e w' => e = .returned (.bool false) ∧ Below W.heap.size W w') (w : World) (hT : Tb w) :
    Calls Tryz.prog 41 #[.agg #[.bool g, .int .u64 x0, .int .u64 x1, .int .u64 x2, .int .u64 x3]] w fun e w' => e = .returned (.tuple #[.agg #[.bool g, .int .u64 x0, .int .u64 x1, .int .u64 x2, .int .u64 x3], .bool true]) ∧ Below w.heap.size w w' := by
  have M1 := Lib.hid m1; clear m1
  have M2 := Lib.hid m2; clear m2
  have HT := Lib.hid hT; clear hT
  go_enter Tryz.func41, Tryz.ntmps41
  go_wp2_with fail
  (with_reducible refine (M1.out _).mono ?_)
  rintro e w1 ⟨rfl, hb⟩
  have BW1 : Below w.heap.size w w1 := btr (by repeat (first | (with_reducible exact Below.refl _ _) | (with_reducible refine bal ?_ _) | (with_reducible refine Below.drew ?_) | (with_reducible refine bdn ?_ _))) hb
  have X1 : Row5 w1 w.heap.size (.bool g) (.int .u64 x0) (.int .u64 x1) (.int .u64 x2) (.int .u64 x3) := Row5.keep hb (by repeat (first | (with_reducible exact Row5.new _ _ _ _ _ _) | ((with_reducible refine Row5.new' _ ?_ _ _ _ _ _); (simp; done)) | (with_reducible refine Row5.alloc ?_ _) | (with_reducible refine Row5.drew ?_)))
  have R1 : Row5 w1 (w.heap.size + 1) (.bool false) (.int .u64 0) (.int .u64 0) (.int .u64 0) (.int .u64 0) := Row5.keep hb (by repeat (first | (with_reducible exact Row5.new _ _ _ _ _ _) | ((with_reducible refine Row5.new' _ ?_ _ _ _ _ _); (simp; done)) | (with_reducible refine Row5.alloc ?_ _) | (with_reducible refine Row5.drew ?_)))
  clear hb
  obtain ⟨Xc0, Xc1, Xc2, Xc3, Xc4⟩ := X1.parts
  obtain ⟨Xf0, Xf1, Xf2, Xf3, Xf4⟩ := X1.free
  go_wp2_with fail
  refine (M2.out _ (tb_on HT.out (by repeat (first | (with_reducible exact BW1) | (with_reducible refine bal ?_ _) | (with_reducible refine Below.drew ?_) | (with_reducible refine bdn ?_ _))))).mono ?_
  rintro e w2 ⟨rfl, hb⟩
  have BW2 : Below w.heap.size w w2 := btr (by repeat (first | (with_reducible exact BW1) | (with_reducible refine bal ?_ _) | (with_reducible refine Below.drew ?_) | (with_reducible refine bdn ?_ _))) hb
  have X2 : Row5 w2 w.heap.size (.bool g) (.int .u64 x0) (.int .u64 x1) (.int .u64 x2) (.int .u64 x3) := Row5.keep hb (by repeat (first | (with_reducible exact X1) | (with_reducible refine Row5.alloc ?_ _) | (with_reducible refine Row5.drew ?_)))
  have R2 : Row5 w2 (w.heap.size + 1) (.bool false) (.int .u64 0) (.int .u64 0) (.int .u64 0) (.int .u64 0) := Row5.keep hb (by repeat (first | (with_reducible exact R1) | (with_reducible refine Row5.alloc ?_ _) | (with_reducible refine Row5.drew ?_)))
  clear X1 R1
  clear BW1
  clear hb
  obtain ⟨Xc0, Xc1, Xc2, Xc3, Xc4⟩ := X2.parts
  obtain ⟨Xf0, Xf1, Xf2, Xf3, Xf4⟩ := X2.free
  obtain ⟨Rc0, Rc1, Rc2, Rc3, Rc4⟩ := R2.parts
  obtain ⟨Rf0, Rf1, Rf2, Rf3, Rf4⟩ := R2.free
  go_wp2
  exact bodyPost_ret (v := .tuple #[.agg #[.bool g, .int .u64 x0, .int .u64 x1, .int .u64 x2, .int .u64 x3], .bool true]) (by simp [results, Tryz.results41, go_sem, Rc0, Rc1, Rc2, Rc3, Rc4]) rfl ⟨rfl, bsc5 BW2 (by omega) _ _ _ _ _⟩

set_option maxHeartbeats 1000000 in
set_option maxRecDepth 100000 in
theorem exup_cut_n (x0 x1 x2 x3 : Int) (l : Int) (h0 : 53 < l) (h1 : l ≤ 256) (k0 k1 k2 k3 n0 n1 n2 n3 : Int) (b h : Bool)
    (m1 : ∀ W, Calls Tryz.prog 26 #[.agg #[.bool true, .int .u64 x0, .int .u64 x1, .int .u64 x2, .int .u64 x3]] W fun e w' => e = .returned (.bool true) ∧ Below W.heap.size W w')
    (m2 : ∀ W, Tb W → Calls Tryz.prog 64 #[.agg #[.bool true, .int .u64 x0, .int .u64 x1, .int .u64 x2, .int .u64 x3]] W fun e w' => e = .returned (.bool false) ∧ Below W.heap.size W w')
    (m3 : ∀ W, Calls Tryz.prog 65 #[.agg #[.int .u64 x0, .int .u64 x1, .int .u64 x2, .int .u64 x3]] W fun e w' => e = .returned (.int .i64 l) ∧ Below W.heap.size W w')
    (m4 : ∀ W, Calls Tryz.prog 66 #[.agg #[.int .u64 x0, .int .u64 x1, .int .u64 x2, .int .u64 x3], .int .i64 (l - 53)] W fun e w' => e = .returned (.agg #[.int .u64 k0, .int .u64 k1, .int .u64 k2, .int .u64 k3]) ∧ Below W.heap.size W w')
    (m6 : ∀ W, Calls Tryz.prog 69 #[.agg #[.int .u64 k0, .int .u64 k1, .int .u64 k2, .int .u64 k3], .int .i64 (l - 53)] W fun e w' => e = .returned (.tuple #[.agg #[.int .u64 n0, .int .u64 n1, .int .u64 n2, .int .u64 n3], .bool b]) ∧ Below W.heap.size W w')
    (m7 : ∀ W, Calls Tryz.prog 70 #[.bool true, .agg #[.int .u64 n0, .int .u64 n1, .int .u64 n2, .int .u64 n3]] W fun e w' => e = .returned (.agg #[.bool h, .int .u64 n0, .int .u64 n1, .int .u64 n2, .int .u64 n3]) ∧ Below W.heap.size W w') (w : World) (hT : Tb w) :
    Calls Tryz.prog 39 #[.agg #[.bool true, .int .u64 x0, .int .u64 x1, .int .u64 x2, .int .u64 x3]] w fun e w' => e = .returned (.tuple #[.agg #[.bool h, .int .u64 n0, .int .u64 n1, .int .u64 n2, .int .u64 n3], .bool b]) ∧ Below w.heap.size w w' := by
  have M1 := Lib.hid m1; clear m1
  have M2 := Lib.hid m2; clear m2
  have M3 := Lib.hid m3; clear m3
  have M4 := Lib.hid m4; clear m4
  have M6 := Lib.hid m6; clear m6
  have M7 := Lib.hid m7; clear m7
  have HT := Lib.hid hT; clear hT
  go_enter Tryz.func39, Tryz.ntmps39
  go_wp2_with fail
  (with_reducible refine (M1.out _).mono ?_)
  rintro e w1 ⟨rfl, hb⟩
  have BW1 : Below w.heap.size w w1 := btr (by repeat (first | (with_reducible exact Below.refl _ _) | (with_reducible refine bal ?_ _) | (with_reducible refine Below.drew ?_) | (with_reducible refine bdn ?_ _))) hb
  have X1 : Row5 w1 w.heap.size (.bool true) (.int .u64 x0) (.int .u64 x1) (.int .u64 x2) (.int .u64 x3) := Row5.keep hb (by repeat (first | (with_reducible exact Row5.new _ _ _ _ _ _) | ((with_reducible refine Row5.new' _ ?_ _ _ _ _ _); (simp; done)) | (with_reducible refine Row5.alloc ?_ _) | (with_reducible refine Row5.drew ?_)))
  have R1 : Row5 w1 (w.heap.size + 1) (.bool false) (.int .u64 0) (.int .u64 0) (.int .u64 0) (.int .u64 0) := Row5.keep hb (by repeat (first | (with_reducible exact Row5.new _ _ _ _ _ _) | ((with_reducible refine Row5.new' _ ?_ _ _ _ _ _); (simp; done)) | (with_reducible refine Row5.alloc ?_ _) | (with_reducible refine Row5.drew ?_)))
  clear hb
  obtain ⟨Xc0, Xc1, Xc2, Xc3, Xc4⟩ := X1.parts
  obtain ⟨Xf0, Xf1, Xf2, Xf3, Xf4⟩ := X1.free
  go_wp2_with fail
  refine (M2.out _ (tb_on HT.out (by repeat (first | (with_reducible exact BW1) | (with_reducible refine bal ?_ _) | (with_reducible refine Below.drew ?_) | (with_reducible refine bdn ?_ _))))).mono ?_
  rintro e w2 ⟨rfl, hb⟩
  have BW2 : Below w.heap.size w w2 := btr (by repeat (first | (with_reducible exact BW1) | (with_reducible refine bal ?_ _) | (with_reducible refine Below.drew ?_) | (with_reducible refine bdn ?_ _))) hb
  have X2 : Row5 w2 w.heap.size (.bool true) (.int .u64 x0) (.int .u64 x1) (.int .u64 x2) (.int .u64 x3) := Row5.keep hb (by repeat (first | (with_reducible exact X1) | (with_reducible refine Row5.alloc ?_ _) | (with_reducible refine Row5.drew ?_)))
  have R2 : Row5 w2 (w.heap.size + 1) (.bool false) (.int .u64 0) (.int .u64 0) (.int .u64 0) (.int .u64 0) := Row5.keep hb (by repeat (first | (with_reducible exact R1) | (with_reducible refine Row5.alloc ?_ _) | (with_reducible refine Row5.drew ?_)))
  clear X1 R1
  clear BW1
  clear hb
  obtain ⟨Xc0, Xc1, Xc2, Xc3, Xc4⟩ := X2.parts
  obtain ⟨Xf0, Xf1, Xf2, Xf3, Xf4⟩ := X2.free
  go_wp2_with fail
  (with_reducible refine (M3.out _).mono ?_)
  rintro e w3 ⟨rfl, hb⟩
  have BW3 : Below w.heap.size w w3 := btr (by repeat (first | (with_reducible exact BW2) | (with_reducible refine bal ?_ _) | (with_reducible refine Below.drew ?_) | (with_reducible refine bdn ?_ _))) hb
  have X3 : Row5 w3 w.heap.size (.bool true) (.int .u64 x0) (.int .u64 x1) (.int .u64 x2) (.int .u64 x3) := Row5.keep hb (by repeat (first | (with_reducible exact X2) | (with_reducible refine Row5.alloc ?_ _) | (with_reducible refine Row5.drew ?_)))
  have R3 : Row5 w3 (w.heap.size + 1) (.bool false) (.int .u64 0) (.int .u64 0) (.int .u64 0) (.int .u64 0) := Row5.keep hb (by repeat (first | (with_reducible exact R2) | (with_reducible refine Row5.alloc ?_ _) | (with_reducible refine Row5.drew ?_)))
  clear X2 R2
  clear BW2
  clear hb
  obtain ⟨Xc0, Xc1, Xc2, Xc3, Xc4⟩ := X3.parts
  obtain ⟨Xf0, Xf1, Xf2, Xf3, Xf4⟩ := X3.free
  go_wp2_with fail
  (with_reducible refine (M4.out _).mono ?_)
  rintro e w4 ⟨rfl, hb⟩
  have BW4 : Below w.heap.size w w4 := btr (by repeat (first | (with_reducible exact BW3) | (with_reducible refine bal ?_ _) | (with_reducible refine Below.drew ?_) | (with_reducible refine bdn ?_ _))) hb
  have X4 : Row5 w4 w.heap.size (.bool true) (.int .u64 x0) (.int .u64 x1) (.int .u64 x2) (.int .u64 x3) := Row5.keep hb (by repeat (first | (with_reducible exact X3) | (with_reducible refine Row5.alloc ?_ _) | (with_reducible refine Row5.drew ?_)))
  have R4 : Row5 w4 (w.heap.size + 1) (.bool false) (.int .u64 0) (.int .u64 0) (.int .u64 0) (.int .u64 0) := Row5.keep hb (by repeat (first | (with_reducible exact R3) | (with_reducible refine Row5.alloc ?_ _) | (with_reducible refine Row5.drew ?_)))
  clear X3 R3
  clear BW3
  clear hb
  go_upto_region 7 with (fail)
  go_name_world w5 hw5
  have BW5 : Below w.heap.size w w5 := by rw [← hw5]; repeat (first | (with_reducible exact BW4) | (with_reducible refine bal ?_ _) | (with_reducible refine Below.drew ?_) | (with_reducible refine bdn ?_ _))
  have X5 : Row5 w5 w.heap.size (.bool true) (.int .u64 x0) (.int .u64 x1) (.int .u64 x2) (.int .u64 x3) := by rw [← hw5]; exact (by repeat (first | (with_reducible exact X4) | (with_reducible refine Row5.alloc ?_ _) | (with_reducible refine Row5.drew ?_)))
  have R5 : Row5 w5 (w.heap.size + 1) (.bool false) (.int .u64 0) (.int .u64 0) (.int .u64 0) (.int .u64 0) := by rw [← hw5]; exact (by repeat (first | (with_reducible exact R4) | (with_reducible refine Row5.alloc ?_ _) | (with_reducible refine Row5.drew ?_)))
  have apK_X := X4.lt
  have apK_R := R4.lt
  have apK_0 := (BW4).size
  have K5 : Row4 w5 w4.heap.size (.int .u64 k0) (.int .u64 k1) (.int .u64 k2) (.int .u64 k3) := by rw [← hw5]; exact (by repeat (first | (with_reducible exact Row4.new _ _ _ _ _) | ((with_reducible refine Row4.new' _ ?_ _ _ _ _); (simp; done)) | (with_reducible refine Row4.alloc ?_ _) | (with_reducible refine Row4.drew ?_)))
  clear X4 R4
  clear BW4
  clear hw5
  obtain ⟨Xc0, Xc1, Xc2, Xc3, Xc4⟩ := X5.parts
  obtain ⟨Xf0, Xf1, Xf2, Xf3, Xf4⟩ := X5.free
  go_upto_region 9 with (fail)
  go_name_world w6 hw6
  have BW6 : Below w.heap.size w w6 := by rw [← hw6]; repeat (first | (with_reducible exact BW5) | (with_reducible refine bal ?_ _) | (with_reducible refine Below.drew ?_) | (with_reducible refine bdn ?_ _))
  have X6 : Row5 w6 w.heap.size (.bool true) (.int .u64 x0) (.int .u64 x1) (.int .u64 x2) (.int .u64 x3) := by rw [← hw6]; exact (by repeat (first | (with_reducible exact X5) | (with_reducible refine Row5.alloc ?_ _) | (with_reducible refine Row5.drew ?_)))
  have R6 : Row5 w6 (w.heap.size + 1) (.bool false) (.int .u64 0) (.int .u64 0) (.int .u64 0) (.int .u64 0) := by rw [← hw6]; exact (by repeat (first | (with_reducible exact R5) | (with_reducible refine Row5.alloc ?_ _) | (with_reducible refine Row5.drew ?_)))
  have K6 : Row4 w6 w4.heap.size (.int .u64 k0) (.int .u64 k1) (.int .u64 k2) (.int .u64 k3) := by rw [← hw6]; exact (by repeat (first | (with_reducible exact K5) | (with_reducible refine Row4.alloc ?_ _) | (with_reducible refine Row4.drew ?_)))
  clear X5 R5 K5
  clear BW5
  clear hw6
  obtain ⟨Kc0, Kc1, Kc2, Kc3⟩ := K6.four
  obtain ⟨Kf0, Kf1, Kf2, Kf3⟩ := K6.free4
  go_wp2_with fail
  (with_reducible refine (M6.out _).mono ?_)
  rintro e w7 ⟨rfl, hb⟩
  have BW7 : Below w.heap.size w w7 := btr (by repeat (first | (with_reducible exact BW6) | (with_reducible refine bal ?_ _) | (with_reducible refine Below.drew ?_) | (with_reducible refine bdn ?_ _))) hb
  have X7 : Row5 w7 w.heap.size (.bool true) (.int .u64 x0) (.int .u64 x1) (.int .u64 x2) (.int .u64 x3) := Row5.keep hb (by repeat (first | (with_reducible exact X6) | (with_reducible refine Row5.alloc ?_ _) | (with_reducible refine Row5.drew ?_)))
  have R7 : Row5 w7 (w.heap.size + 1) (.bool false) (.int .u64 0) (.int .u64 0) (.int .u64 0) (.int .u64 0) := Row5.keep hb (by repeat (first | (with_reducible exact R6) | (with_reducible refine Row5.alloc ?_ _) | (with_reducible refine Row5.drew ?_)))
  have K7 : Row4 w7 w4.heap.size (.int .u64 k0) (.int .u64 k1) (.int .u64 k2) (.int .u64 k3) := Row4.keep hb (by repeat (first | (with_reducible exact K6) | (with_reducible refine Row4.alloc ?_ _) | (with_reducible refine Row4.drew ?_)))
  clear X6 R6 K6
  clear BW6
  clear hb
  go_upto_region 10 with (fail)
  go_name_world w8 hw8
  have BW8 : Below w.heap.size w w8 := by rw [← hw8]; repeat (first | (with_reducible exact BW7) | (with_reducible refine bal ?_ _) | (with_reducible refine Below.drew ?_) | (with_reducible refine bdn ?_ _))
  have X8 : Row5 w8 w.heap.size (.bool true) (.int .u64 x0) (.int .u64 x1) (.int .u64 x2) (.int .u64 x3) := by rw [← hw8]; exact (by repeat (first | (with_reducible exact X7) | (with_reducible refine Row5.alloc ?_ _) | (with_reducible refine Row5.drew ?_)))
  have R8 : Row5 w8 (w.heap.size + 1) (.bool false) (.int .u64 0) (.int .u64 0) (.int .u64 0) (.int .u64 0) := by rw [← hw8]; exact (by repeat (first | (with_reducible exact R7) | (with_reducible refine Row5.alloc ?_ _) | (with_reducible refine Row5.drew ?_)))
  have K8 : Row4 w8 w4.heap.size (.int .u64 k0) (.int .u64 k1) (.int .u64 k2) (.int .u64 k3) := by rw [← hw8]; exact (by repeat (first | (with_reducible exact K7) | (with_reducible refine Row4.alloc ?_ _) | (with_reducible refine Row4.drew ?_)))
  have apN_X := X7.lt
  have apN_R := R7.lt
  have apN_K := K7.lt
  have apN_0 := (BW7).size
  have N8 : Row4 w8 w7.heap.size (.int .u64 n0) (.int .u64 n1) (.int .u64 n2) (.int .u64 n3) := by rw [← hw8]; exact (by repeat (first | (with_reducible exact Row4.new _ _ _ _ _) | ((with_reducible refine Row4.new' _ ?_ _ _ _ _); (simp; done)) | (with_reducible refine Row4.alloc ?_ _) | (with_reducible refine Row4.drew ?_)))
  clear X7 R7 K7
  clear BW7
  clear hw8
  obtain ⟨Xc0, Xc1, Xc2, Xc3, Xc4⟩ := X8.parts
  obtain ⟨Xf0, Xf1, Xf2, Xf3, Xf4⟩ := X8.free
  obtain ⟨Nc0, Nc1, Nc2, Nc3⟩ := N8.four
  obtain ⟨Nf0, Nf1, Nf2, Nf3⟩ := N8.free4
  go_wp2_with fail
  (with_reducible refine (M7.out _).mono ?_)
  rintro e w9 ⟨rfl, hb⟩
  have BW9 : Below w.heap.size w w9 := btr (by repeat (first | (with_reducible exact BW8) | (with_reducible refine bal ?_ _) | (with_reducible refine Below.drew ?_) | (with_reducible refine bdn ?_ _))) hb
  have X9 : Row5 w9 w.heap.size (.bool true) (.int .u64 x0) (.int .u64 x1) (.int .u64 x2) (.int .u64 x3) := Row5.keep hb (by repeat (first | (with_reducible exact X8) | (with_reducible refine Row5.alloc ?_ _) | (with_reducible refine Row5.drew ?_)))
  have R9 : Row5 w9 (w.heap.size + 1) (.bool false) (.int .u64 0) (.int .u64 0) (.int .u64 0) (.int .u64 0) := Row5.keep hb (by repeat (first | (with_reducible exact R8) | (with_reducible refine Row5.alloc ?_ _) | (with_reducible refine Row5.drew ?_)))
  have K9 : Row4 w9 w4.heap.size (.int .u64 k0) (.int .u64 k1) (.int .u64 k2) (.int .u64 k3) := Row4.keep hb (by repeat (first | (with_reducible exact K8) | (with_reducible refine Row4.alloc ?_ _) | (with_reducible refine Row4.drew ?_)))
  have N9 : Row4 w9 w7.heap.size (.int .u64 n0) (.int .u64 n1) (.int .u64 n2) (.int .u64 n3) := Row4.keep hb (by repeat (first | (with_reducible exact N8) | (with_reducible refine Row4.alloc ?_ _) | (with_reducible refine Row4.drew ?_)))
  clear X8 R8 K8 N8
  clear BW8
  clear hb
  obtain ⟨Xc0, Xc1, Xc2, Xc3, Xc4⟩ := X9.parts
  obtain ⟨Xf0, Xf1, Xf2, Xf3, Xf4⟩ := X9.free
  obtain ⟨Rc0, Rc1, Rc2, Rc3, Rc4⟩ := R9.parts
  obtain ⟨Rf0, Rf1, Rf2, Rf3, Rf4⟩ := R9.free
  go_wp2
  exact bodyPost_ret (v := .tuple #[.agg #[.bool h, .int .u64 n0, .int .u64 n1, .int .u64 n2, .int .u64 n3], .bool b]) (by simp [results, Tryz.results39, go_sem, Rc0, Rc1, Rc2, Rc3, Rc4]) rfl ⟨rfl, bsc5 BW9 (by omega) _ _ _ _ _⟩

set_option maxHeartbeats 1000000 in
set_option maxRecDepth 100000 in
theorem exup_cut_p (x0 x1 x2 x3 : Int) (l : Int) (h0 : 53 < l) (h1 : l ≤ 256) (k0 k1 k2 k3 j0 j1 j2 j3 n0 n1 n2 n3 : Int) (b c h : Bool)
    (m1 : ∀ W, Calls Tryz.prog 26 #[.agg #[.bool false, .int .u64 x0, .int .u64 x1, .int .u64 x2, .int .u64 x3]] W fun e w' => e = .returned (.bool true) ∧ Below W.heap.size W w')
    (m2 : ∀ W, Tb W → Calls Tryz.prog 64 #[.agg #[.bool false, .int .u64 x0, .int .u64 x1, .int .u64 x2, .int .u64 x3]] W fun e w' => e = .returned (.bool false) ∧ Below W.heap.size W w')
    (m3 : ∀ W, Calls Tryz.prog 65 #[.agg #[.int .u64 x0, .int .u64 x1, .int .u64 x2, .int .u64 x3]] W fun e w' => e = .returned (.int .i64 l) ∧ Below W.heap.size W w')
    (m4 : ∀ W, Calls Tryz.prog 66 #[.agg #[.int .u64 x0, .int .u64 x1, .int .u64 x2, .int .u64 x3], .int .i64 (l - 53)] W fun e w' => e = .returned (.agg #[.int .u64 k0, .int .u64 k1, .int .u64 k2, .int .u64 k3]) ∧ Below W.heap.size W w')
    (m5 : ∀ W, Calls Tryz.prog 67 #[.agg #[.int .u64 k0, .int .u64 k1, .int .u64 k2, .int .u64 k3], .agg #[.int .u64 1, .int .u64 0, .int .u64 0, .int .u64 0]] W fun e w' => e = .returned (.tuple #[.agg #[.int .u64 j0, .int .u64 j1, .int .u64 j2, .int .u64 j3], .bool c]) ∧ Below W.heap.size W w')
    (m6 : ∀ W, Calls Tryz.prog 69 #[.agg #[.int .u64 j0, .int .u64 j1, .int .u64 j2, .int .u64 j3], .int .i64 (l - 53)] W fun e w' => e = .returned (.tuple #[.agg #[.int .u64 n0, .int .u64 n1, .int .u64 n2, .int .u64 n3], .bool b]) ∧ Below W.heap.size W w')
    (m7 : ∀ W, Calls Tryz.prog 70 #[.bool false, .agg #[.int .u64 n0, .int .u64 n1, .int .u64 n2, .int .u64 n3]] W fun e w' => e = .returned (.agg #[.bool h, .int .u64 n0, .int .u64 n1, .int .u64 n2, .int .u64 n3]) ∧ Below W.heap.size W w') (w : World) (hT : Tb w) :
    Calls Tryz.prog 39 #[.agg #[.bool false, .int .u64 x0, .int .u64 x1, .int .u64 x2, .int .u64 x3]] w fun e w' => e = .returned (.tuple #[.agg #[.bool h, .int .u64 n0, .int .u64 n1, .int .u64 n2, .int .u64 n3], .bool b]) ∧ Below w.heap.size w w' := by
  have M1 := Lib.hid m1; clear m1
  have M2 := Lib.hid m2; clear m2
  have M3 := Lib.hid m3; clear m3
  have M4 := Lib.hid m4; clear m4
  have M5 := Lib.hid m5; clear m5
  have M6 := Lib.hid m6; clear m6
  have M7 := Lib.hid m7; clear m7
  have HT := Lib.hid hT; clear hT
  go_enter Tryz.func39, Tryz.ntmps39
  go_wp2_with fail
  (with_reducible refine (M1.out _).mono ?_)
  rintro e w1 ⟨rfl, hb⟩
  have BW1 : Below w.heap.size w w1 := btr (by repeat (first | (with_reducible exact Below.refl _ _) | (with_reducible refine bal ?_ _) | (with_reducible refine Below.drew ?_) | (with_reducible refine bdn ?_ _))) hb
  have X1 : Row5 w1 w.heap.size (.bool false) (.int .u64 x0) (.int .u64 x1) (.int .u64 x2) (.int .u64 x3) := Row5.keep hb (by repeat (first | (with_reducible exact Row5.new _ _ _ _ _ _) | ((with_reducible refine Row5.new' _ ?_ _ _ _ _ _); (simp; done)) | (with_reducible refine Row5.alloc ?_ _) | (with_reducible refine Row5.drew ?_)))
  have R1 : Row5 w1 (w.heap.size + 1) (.bool false) (.int .u64 0) (.int .u64 0) (.int .u64 0) (.int .u64 0) := Row5.keep hb (by repeat (first | (with_reducible exact Row5.new _ _ _ _ _ _) | ((with_reducible refine Row5.new' _ ?_ _ _ _ _ _); (simp; done)) | (with_reducible refine Row5.alloc ?_ _) | (with_reducible refine Row5.drew ?_)))
  clear hb
  obtain ⟨Xc0, Xc1, Xc2, Xc3, Xc4⟩ := X1.parts
  obtain ⟨Xf0, Xf1, Xf2, Xf3, Xf4⟩ := X1.free
  go_wp2_with fail
  refine (M2.out _ (tb_on HT.out (by repeat (first | (with_reducible exact BW1) | (with_reducible refine bal ?_ _) | (with_reducible refine Below.drew ?_) | (with_reducible refine bdn ?_ _))))).mono ?_
  rintro e w2 ⟨rfl, hb⟩
  have BW2 : Below w.heap.size w w2 := btr (by repeat (first | (with_reducible exact BW1) | (with_reducible refine bal ?_ _) | (with_reducible refine Below.drew ?_) | (with_reducible refine bdn ?_ _))) hb
  have X2 : Row5 w2 w.heap.size (.bool false) (.int .u64 x0) (.int .u64 x1) (.int .u64 x2) (.int .u64 x3) := Row5.keep hb (by repeat (first | (with_reducible exact X1) | (with_reducible refine Row5.alloc ?_ _) | (with_reducible refine Row5.drew ?_)))
  have R2 : Row5 w2 (w.heap.size + 1) (.bool false) (.int .u64 0) (.int .u64 0) (.int .u64 0) (.int .u64 0) := Row5.keep hb (by repeat (first | (with_reducible exact R1) | (with_reducible refine Row5.alloc ?_ _) | (with_reducible refine Row5.drew ?_)))
  clear X1 R1
  clear BW1
  clear hb
  obtain ⟨Xc0, Xc1, Xc2, Xc3, Xc4⟩ := X2.parts
  obtain ⟨Xf0, Xf1, Xf2, Xf3, Xf4⟩ := X2.free
  go_wp2_with fail
  (with_reducible refine (M3.out _).mono ?_)
  rintro e w3 ⟨rfl, hb⟩
  have BW3 : Below w.heap.size w w3 := btr (by repeat (first | (with_reducible exact BW2) | (with_reducible refine bal ?_ _) | (with_reducible refine Below.drew ?_) | (with_reducible refine bdn ?_ _))) hb
  have X3 : Row5 w3 w.heap.size (.bool false) (.int .u64 x0) (.int .u64 x1) (.int .u64 x2) (.int .u64 x3) := Row5.keep hb (by repeat (first | (with_reducible exact X2) | (with_reducible refine Row5.alloc ?_ _) | (with_reducible refine Row5.drew ?_)))
  have R3 : Row5 w3 (w.heap.size + 1) (.bool false) (.int .u64 0) (.int .u64 0) (.int .u64 0) (.int .u64 0) := Row5.keep hb (by repeat (first | (with_reducible exact R2) | (with_reducible refine Row5.alloc ?_ _) | (with_reducible refine Row5.drew ?_)))
  clear X2 R2
  clear BW2
  clear hb
  obtain ⟨Xc0, Xc1, Xc2, Xc3, Xc4⟩ := X3.parts
  obtain ⟨Xf0, Xf1, Xf2, Xf3, Xf4⟩ := X3.free
  go_wp2_with fail
  (with_reducible refine (M4.out _).mono ?_)
  rintro e w4 ⟨rfl, hb⟩
  have BW4 : Below w.heap.size w w4 := btr (by repeat (first | (with_reducible exact BW3) | (with_reducible refine bal ?_ _) | (with_reducible refine Below.drew ?_) | (with_reducible refine bdn ?_ _))) hb
  have X4 : Row5 w4 w.heap.size (.bool false) (.int .u64 x0) (.int .u64 x1) (.int .u64 x2) (.int .u64 x3) := Row5.keep hb (by repeat (first | (with_reducible exact X3) | (with_reducible refine Row5.alloc ?_ _) | (with_reducible refine Row5.drew ?_)))
  have R4 : Row5 w4 (w.heap.size + 1) (.bool false) (.int .u64 0) (.int .u64 0) (.int .u64 0) (.int .u64 0) := Row5.keep hb (by repeat (first | (with_reducible exact R3) | (with_reducible refine Row5.alloc ?_ _) | (with_reducible refine Row5.drew ?_)))
  clear X3 R3
  clear BW3
  clear hb
  go_upto_region 7 with (fail)
  go_name_world w5 hw5
  have BW5 : Below w.heap.size w w5 := by rw [← hw5]; repeat (first | (with_reducible exact BW4) | (with_reducible refine bal ?_ _) | (with_reducible refine Below.drew ?_) | (with_reducible refine bdn ?_ _))
  have X5 : Row5 w5 w.heap.size (.bool false) (.int .u64 x0) (.int .u64 x1) (.int .u64 x2) (.int .u64 x3) := by rw [← hw5]; exact (by repeat (first | (with_reducible exact X4) | (with_reducible refine Row5.alloc ?_ _) | (with_reducible refine Row5.drew ?_)))
  have R5 : Row5 w5 (w.heap.size + 1) (.bool false) (.int .u64 0) (.int .u64 0) (.int .u64 0) (.int .u64 0) := by rw [← hw5]; exact (by repeat (first | (with_reducible exact R4) | (with_reducible refine Row5.alloc ?_ _) | (with_reducible refine Row5.drew ?_)))
  have apK_X := X4.lt
  have apK_R := R4.lt
  have apK_0 := (BW4).size
  have K5 : Row4 w5 w4.heap.size (.int .u64 k0) (.int .u64 k1) (.int .u64 k2) (.int .u64 k3) := by rw [← hw5]; exact (by repeat (first | (with_reducible exact Row4.new _ _ _ _ _) | ((with_reducible refine Row4.new' _ ?_ _ _ _ _); (simp; done)) | (with_reducible refine Row4.alloc ?_ _) | (with_reducible refine Row4.drew ?_)))
  clear X4 R4
  clear BW4
  clear hw5
  obtain ⟨Xc0, Xc1, Xc2, Xc3, Xc4⟩ := X5.parts
  obtain ⟨Xf0, Xf1, Xf2, Xf3, Xf4⟩ := X5.free
  go_upto_region 8 with (fail)
  go_name_world w6 hw6
  have BW6 : Below w.heap.size w w6 := by rw [← hw6]; repeat (first | (with_reducible exact BW5) | (with_reducible refine bal ?_ _) | (with_reducible refine Below.drew ?_) | (with_reducible refine bdn ?_ _))
  have X6 : Row5 w6 w.heap.size (.bool false) (.int .u64 x0) (.int .u64 x1) (.int .u64 x2) (.int .u64 x3) := by rw [← hw6]; exact (by repeat (first | (with_reducible exact X5) | (with_reducible refine Row5.alloc ?_ _) | (with_reducible refine Row5.drew ?_)))
  have R6 : Row5 w6 (w.heap.size + 1) (.bool false) (.int .u64 0) (.int .u64 0) (.int .u64 0) (.int .u64 0) := by rw [← hw6]; exact (by repeat (first | (with_reducible exact R5) | (with_reducible refine Row5.alloc ?_ _) | (with_reducible refine Row5.drew ?_)))
  have K6 : Row4 w6 w4.heap.size (.int .u64 k0) (.int .u64 k1) (.int .u64 k2) (.int .u64 k3) := by rw [← hw6]; exact (by repeat (first | (with_reducible exact K5) | (with_reducible refine Row4.alloc ?_ _) | (with_reducible refine Row4.drew ?_)))
  clear X5 R5 K5
  clear BW5
  clear hw6
  have lt_X := X6.lt
  have lt_R := R6.lt
  have lt_K := K6.lt
  go_cut [] (fun wx => Row4 wx w4.heap.size (.int .u64 j0) (.int .u64 j1) (.int .u64 j2) (.int .u64 j3) ∧ Row5 wx w.heap.size (.bool false) (.int .u64 x0) (.int .u64 x1) (.int .u64 x2) (.int .u64 x3) ∧ Row5 wx (w.heap.size + 1) (.bool false) (.int .u64 0) (.int .u64 0) (.int .u64 0) (.int .u64 0) ∧ Below w.heap.size w wx)
  case first =>
    obtain ⟨tc0, tc1, tc2, tc3⟩ := K6.four
    go_region_with (first | (go_at_call 68; refine (of_one _ _).mono ?_; rintro e w9 ⟨rfl, o1, rfl⟩) | (go_at_call 67; (with_reducible refine (M5.out _).mono ?_); rintro e wf ⟨rfl, hb⟩; have Xf : Row5 wf w.heap.size (.bool false) (.int .u64 x0) (.int .u64 x1) (.int .u64 x2) (.int .u64 x3) := Row5.keep hb (by repeat (first | (with_reducible exact X6) | (with_reducible refine Row5.alloc ?_ _) | (with_reducible refine Row5.drew ?_))); have Rf : Row5 wf (w.heap.size + 1) (.bool false) (.int .u64 0) (.int .u64 0) (.int .u64 0) (.int .u64 0) := Row5.keep hb (by repeat (first | (with_reducible exact R6) | (with_reducible refine Row5.alloc ?_ _) | (with_reducible refine Row5.drew ?_))); have Kf : Row4 wf w4.heap.size (.int .u64 k0) (.int .u64 k1) (.int .u64 k2) (.int .u64 k3) := Row4.keep hb (by repeat (first | (with_reducible exact K6) | (with_reducible refine Row4.alloc ?_ _) | (with_reducible refine Row4.drew ?_))); have Bf : Below w.heap.size w wf := btr (by repeat (first | (with_reducible exact BW6) | (with_reducible refine bal ?_ _) | (with_reducible refine Below.drew ?_) | (with_reducible refine bdn ?_ _))) hb; obtain ⟨zc0, zc1, zc2, zc3⟩ := Kf.four; obtain ⟨zf0, zf1, zf2, zf3⟩ := Kf.free4))
    all_goals
      go_wp2_with fail
      go_meet
      exact ⟨Row4.set4 Kf _ _ _ _, (by repeat (first | (with_reducible exact Xf) | (with_reducible refine Row5.alloc ?_ _) | (with_reducible refine Row5.drew ?_) | ((with_reducible refine Row5.set ?_ ?_ _); rotate_left; (focus (omega))))), (by repeat (first | (with_reducible exact Rf) | (with_reducible refine Row5.alloc ?_ _) | (with_reducible refine Row5.drew ?_) | ((with_reducible refine Row5.set ?_ ?_ _); rotate_left; (focus (omega))))), bsc4 Bf (by omega) _ _ _ _⟩
  case rest =>
    generalize wc = w7 at *
    clear X6
    clear R6
    clear K6
    clear BW6
    obtain ⟨K7, X7, R7, BW7⟩ := hcut
    obtain ⟨Kc0, Kc1, Kc2, Kc3⟩ := K7.four
    obtain ⟨Kf0, Kf1, Kf2, Kf3⟩ := K7.free4
    go_wp2_with fail
    (with_reducible refine (M6.out _).mono ?_)
    rintro e w8 ⟨rfl, hb⟩
    have BW8 : Below w.heap.size w w8 := btr (by repeat (first | (with_reducible exact BW7) | (with_reducible refine bal ?_ _) | (with_reducible refine Below.drew ?_) | (with_reducible refine bdn ?_ _))) hb
    have X8 : Row5 w8 w.heap.size (.bool false) (.int .u64 x0) (.int .u64 x1) (.int .u64 x2) (.int .u64 x3) := Row5.keep hb (by repeat (first | (with_reducible exact X7) | (with_reducible refine Row5.alloc ?_ _) | (with_reducible refine Row5.drew ?_)))
    have R8 : Row5 w8 (w.heap.size + 1) (.bool false) (.int .u64 0) (.int .u64 0) (.int .u64 0) (.int .u64 0) := Row5.keep hb (by repeat (first | (with_reducible exact R7) | (with_reducible refine Row5.alloc ?_ _) | (with_reducible refine Row5.drew ?_)))
    have K8 : Row4 w8 w4.heap.size (.int .u64 j0) (.int .u64 j1) (.int .u64 j2) (.int .u64 j3) := Row4.keep hb (by repeat (first | (with_reducible exact K7) | (with_reducible refine Row4.alloc ?_ _) | (with_reducible refine Row4.drew ?_)))
    clear X7 R7 K7
    clear BW7
    clear hb
    go_upto_region 10 with (fail)
    go_name_world w9 hw9
    have BW9 : Below w.heap.size w w9 := by rw [← hw9]; repeat (first | (with_reducible exact BW8) | (with_reducible refine bal ?_ _) | (with_reducible refine Below.drew ?_) | (with_reducible refine bdn ?_ _))
    have X9 : Row5 w9 w.heap.size (.bool false) (.int .u64 x0) (.int .u64 x1) (.int .u64 x2) (.int .u64 x3) := by rw [← hw9]; exact (by repeat (first | (with_reducible exact X8) | (with_reducible refine Row5.alloc ?_ _) | (with_reducible refine Row5.drew ?_)))
    have R9 : Row5 w9 (w.heap.size + 1) (.bool false) (.int .u64 0) (.int .u64 0) (.int .u64 0) (.int .u64 0) := by rw [← hw9]; exact (by repeat (first | (with_reducible exact R8) | (with_reducible refine Row5.alloc ?_ _) | (with_reducible refine Row5.drew ?_)))
    have K9 : Row4 w9 w4.heap.size (.int .u64 j0) (.int .u64 j1) (.int .u64 j2) (.int .u64 j3) := by rw [← hw9]; exact (by repeat (first | (with_reducible exact K8) | (with_reducible refine Row4.alloc ?_ _) | (with_reducible refine Row4.drew ?_)))
    have apN_X := X8.lt
    have apN_R := R8.lt
    have apN_K := K8.lt
    have apN_0 := (BW8).size
    have N9 : Row4 w9 w8.heap.size (.int .u64 n0) (.int .u64 n1) (.int .u64 n2) (.int .u64 n3) := by rw [← hw9]; exact (by repeat (first | (with_reducible exact Row4.new _ _ _ _ _) | ((with_reducible refine Row4.new' _ ?_ _ _ _ _); (simp; done)) | (with_reducible refine Row4.alloc ?_ _) | (with_reducible refine Row4.drew ?_)))
    clear X8 R8 K8
    clear BW8
    clear hw9
    obtain ⟨Xc0, Xc1, Xc2, Xc3, Xc4⟩ := X9.parts
    obtain ⟨Xf0, Xf1, Xf2, Xf3, Xf4⟩ := X9.free
    obtain ⟨Nc0, Nc1, Nc2, Nc3⟩ := N9.four
    obtain ⟨Nf0, Nf1, Nf2, Nf3⟩ := N9.free4
    go_wp2_with fail
    (with_reducible refine (M7.out _).mono ?_)
    rintro e w10 ⟨rfl, hb⟩
    have BW10 : Below w.heap.size w w10 := btr (by repeat (first | (with_reducible exact BW9) | (with_reducible refine bal ?_ _) | (with_reducible refine Below.drew ?_) | (with_reducible refine bdn ?_ _))) hb
    have X10 : Row5 w10 w.heap.size (.bool false) (.int .u64 x0) (.int .u64 x1) (.int .u64 x2) (.int .u64 x3) := Row5.keep hb (by repeat (first | (with_reducible exact X9) | (with_reducible refine Row5.alloc ?_ _) | (with_reducible refine Row5.drew ?_)))
    have R10 : Row5 w10 (w.heap.size + 1) (.bool false) (.int .u64 0) (.int .u64 0) (.int .u64 0) (.int .u64 0) := Row5.keep hb (by repeat (first | (with_reducible exact R9) | (with_reducible refine Row5.alloc ?_ _) | (with_reducible refine Row5.drew ?_)))
    have K10 : Row4 w10 w4.heap.size (.int .u64 j0) (.int .u64 j1) (.int .u64 j2) (.int .u64 j3) := Row4.keep hb (by repeat (first | (with_reducible exact K9) | (with_reducible refine Row4.alloc ?_ _) | (with_reducible refine Row4.drew ?_)))
    have N10 : Row4 w10 w8.heap.size (.int .u64 n0) (.int .u64 n1) (.int .u64 n2) (.int .u64 n3) := Row4.keep hb (by repeat (first | (with_reducible exact N9) | (with_reducible refine Row4.alloc ?_ _) | (with_reducible refine Row4.drew ?_)))
    clear X9 R9 K9 N9
    clear BW9
    clear hb
    obtain ⟨Xc0, Xc1, Xc2, Xc3, Xc4⟩ := X10.parts
    obtain ⟨Xf0, Xf1, Xf2, Xf3, Xf4⟩ := X10.free
    obtain ⟨Rc0, Rc1, Rc2, Rc3, Rc4⟩ := R10.parts
    obtain ⟨Rf0, Rf1, Rf2, Rf3, Rf4⟩ := R10.free
    go_wp2
    exact bodyPost_ret (v := .tuple #[.agg #[.bool h, .int .u64 n0, .int .u64 n1, .int .u64 n2, .int .u64 n3], .bool b]) (by simp [results, Tryz.results39, go_sem, Rc0, Rc1, Rc2, Rc3, Rc4]) rfl ⟨rfl, bsc5 BW10 (by omega) _ _ _ _ _⟩

set_option maxHeartbeats 1000000 in
set_option maxRecDepth 100000 in
theorem roup_small (g : Bool) (x0 x1 x2 x3 : Int) (c : Int) (hc : c ≤ 0)
    (m1 : ∀ W, Calls Tryz.prog 26 #[.agg #[.bool g, .int .u64 x0, .int .u64 x1, .int .u64 x2, .int .u64 x3]] W fun e w' => e = .returned (.bool true) ∧ Below W.heap.size W w')
    (m2 : ∀ W, Tb W → Calls Tryz.prog 64 #[.agg #[.bool g, .int .u64 x0, .int .u64 x1, .int .u64 x2, .int .u64 x3]] W fun e w' => e = .returned (.bool true) ∧ Below W.heap.size W w')
    (m3 : ∀ W, Calls Tryz.prog 72 #[.agg #[.int .u64 x0, .int .u64 x1, .int .u64 x2, .int .u64 x3], .agg #[.int .u64 9007199254740992, .int .u64 0, .int .u64 0, .int .u64 0]] W fun e w' => e = .returned (.int .i64 c) ∧ Below W.heap.size W w') (w : World) (hT : Tb w) :
    Calls Tryz.prog 41 #[.agg #[.bool g, .int .u64 x0, .int .u64 x1, .int .u64 x2, .int .u64 x3]] w fun e w' => e = .returned (.tuple #[.agg #[.bool false, .int .u64 9007199254740993, .int .u64 0, .int .u64 0, .int .u64 0], .bool true]) ∧ Below w.heap.size w w' := by
  have M1 := Lib.hid m1; clear m1
  have M2 := Lib.hid m2; clear m2
  have M3 := Lib.hid m3; clear m3
  have HT := Lib.hid hT; clear hT
  go_enter Tryz.func41, Tryz.ntmps41
  go_wp2_with fail
  (with_reducible refine (M1.out _).mono ?_)
  rintro e w1 ⟨rfl, hb⟩
  have BW1 : Below w.heap.size w w1 := btr (by repeat (first | (with_reducible exact Below.refl _ _) | (with_reducible refine bal ?_ _) | (with_reducible refine Below.drew ?_) | (with_reducible refine bdn ?_ _))) hb
  have X1 : Row5 w1 w.heap.size (.bool g) (.int .u64 x0) (.int .u64 x1) (.int .u64 x2) (.int .u64 x3) := Row5.keep hb (by repeat (first | (with_reducible exact Row5.new _ _ _ _ _ _) | ((with_reducible refine Row5.new' _ ?_ _ _ _ _ _); (simp; done)) | (with_reducible refine Row5.alloc ?_ _) | (with_reducible refine Row5.drew ?_)))
  have R1 : Row5 w1 (w.heap.size + 1) (.bool false) (.int .u64 0) (.int .u64 0) (.int .u64 0) (.int .u64 0) := Row5.keep hb (by repeat (first | (with_reducible exact Row5.new _ _ _ _ _ _) | ((with_reducible refine Row5.new' _ ?_ _ _ _ _ _); (simp; done)) | (with_reducible refine Row5.alloc ?_ _) | (with_reducible refine Row5.drew ?_)))
  clear hb
  obtain ⟨Xc0, Xc1, Xc2, Xc3, Xc4⟩ := X1.parts
  obtain ⟨Xf0, Xf1, Xf2, Xf3, Xf4⟩ := X1.free
  go_wp2_with fail
  refine (M2.out _ (tb_on HT.out (by repeat (first | (with_reducible exact BW1) | (with_reducible refine bal ?_ _) | (with_reducible refine Below.drew ?_) | (with_reducible refine bdn ?_ _))))).mono ?_
  rintro e w2 ⟨rfl, hb⟩
  have BW2 : Below w.heap.size w w2 := btr (by repeat (first | (with_reducible exact BW1) | (with_reducible refine bal ?_ _) | (with_reducible refine Below.drew ?_) | (with_reducible refine bdn ?_ _))) hb
  have X2 : Row5 w2 w.heap.size (.bool g) (.int .u64 x0) (.int .u64 x1) (.int .u64 x2) (.int .u64 x3) := Row5.keep hb (by repeat (first | (with_reducible exact X1) | (with_reducible refine Row5.alloc ?_ _) | (with_reducible refine Row5.drew ?_)))
  have R2 : Row5 w2 (w.heap.size + 1) (.bool false) (.int .u64 0) (.int .u64 0) (.int .u64 0) (.int .u64 0) := Row5.keep hb (by repeat (first | (with_reducible exact R1) | (with_reducible refine Row5.alloc ?_ _) | (with_reducible refine Row5.drew ?_)))
  clear X1 R1
  clear BW1
  clear hb
  obtain ⟨Xc0, Xc1, Xc2, Xc3, Xc4⟩ := X2.parts
  obtain ⟨Xf0, Xf1, Xf2, Xf3, Xf4⟩ := X2.free
  go_upto_region 5 with (fail)
  go_name_world w3 hw3
  have BW3 : Below w.heap.size w w3 := by rw [← hw3]; repeat (first | (with_reducible exact BW2) | (with_reducible refine bal ?_ _) | (with_reducible refine Below.drew ?_) | (with_reducible refine bdn ?_ _))
  have X3 : Row5 w3 w.heap.size (.bool g) (.int .u64 x0) (.int .u64 x1) (.int .u64 x2) (.int .u64 x3) := by rw [← hw3]; exact (by repeat (first | (with_reducible exact X2) | (with_reducible refine Row5.alloc ?_ _) | (with_reducible refine Row5.drew ?_)))
  have R3 : Row5 w3 (w.heap.size + 1) (.bool false) (.int .u64 0) (.int .u64 0) (.int .u64 0) (.int .u64 0) := by rw [← hw3]; exact (by repeat (first | (with_reducible exact R2) | (with_reducible refine Row5.alloc ?_ _) | (with_reducible refine Row5.drew ?_)))
  clear X2 R2
  clear BW2
  clear hw3
  obtain ⟨qX0, qX1, qX2, qX3, qX4⟩ := X3.parts
  have gX0 := cell_regrown qX0
  have gX1 := cell_regrown qX1
  have gX2 := cell_regrown qX2
  have gX3 := cell_regrown qX3
  have gX4 := cell_regrown qX4
  clear qX0 qX1 qX2 qX3 qX4
  have cq0 := fun (d : Nat) (os : Array Obj) => Calls.regrown_of (w := w3) (d := d) (os := os) ((fun W => (of_any 9007199254740992 W)) _)
  have cq1 := fun (d : Nat) (os : Array Obj) => Calls.regrown_of (w := w3) (d := d) (os := os) (M3.out _)
  refine wp_region_quiet_below (by kernel_rfl) (by kernel_rfl) ?_
  repeat (first | go_big_quiet_step ((first | exact cq0 _ _ | exact cq1 _ _)) | quiet_step (first | exact cq0 _ _ | exact cq1 _ _))
  refine wpQuiet_nil ?_
  intro _ hw'
  obtain ⟨⟨dq, osq⟩, hw''⟩ := hw'
  subst hw''
  clear gX0 gX1 gX2 gX3 gX4 cq0 cq1
  have hb := below_regrown w3 dq osq
  generalize grow (redrawn w3 dq) osq = w4 at *
  have BW4 : Below w.heap.size w w4 := btr BW3 hb
  have X4 : Row5 w4 w.heap.size (.bool g) (.int .u64 x0) (.int .u64 x1) (.int .u64 x2) (.int .u64 x3) := Row5.keep hb X3
  have R4 : Row5 w4 (w.heap.size + 1) (.bool false) (.int .u64 0) (.int .u64 0) (.int .u64 0) (.int .u64 0) := Row5.keep hb R3
  clear X3 R3 BW3 hb
  have hcc : decide (c ≤ 0) = true := by simp; omega
  obtain ⟨Xc0, Xc1, Xc2, Xc3, Xc4⟩ := X4.parts
  obtain ⟨Xf0, Xf1, Xf2, Xf3, Xf4⟩ := X4.free
  go_wp2_with fail
  (with_reducible refine (ofUint_any _ _).mono ?_)
  rintro e w5 ⟨rfl, hb⟩
  have BW5 : Below w.heap.size w w5 := btr (by repeat (first | (with_reducible exact BW4) | (with_reducible refine bal ?_ _) | (with_reducible refine Below.drew ?_) | (with_reducible refine bdn ?_ _))) hb
  have X5 : Row5 w5 w.heap.size (.bool g) (.int .u64 x0) (.int .u64 x1) (.int .u64 x2) (.int .u64 x3) := Row5.keep hb (by repeat (first | (with_reducible exact X4) | (with_reducible refine Row5.alloc ?_ _) | (with_reducible refine Row5.drew ?_)))
  have R5 : Row5 w5 (w.heap.size + 1) (.bool false) (.int .u64 0) (.int .u64 0) (.int .u64 0) (.int .u64 0) := Row5.keep hb (by repeat (first | (with_reducible exact R4) | (with_reducible refine Row5.alloc ?_ _) | (with_reducible refine Row5.drew ?_)))
  clear X4 R4
  clear BW4
  clear hb
  obtain ⟨Xc0, Xc1, Xc2, Xc3, Xc4⟩ := X5.parts
  obtain ⟨Xf0, Xf1, Xf2, Xf3, Xf4⟩ := X5.free
  obtain ⟨Rc0, Rc1, Rc2, Rc3, Rc4⟩ := R5.parts
  obtain ⟨Rf0, Rf1, Rf2, Rf3, Rf4⟩ := R5.free
  go_wp2
  exact bodyPost_ret (v := .tuple #[.agg #[.bool false, .int .u64 9007199254740993, .int .u64 0, .int .u64 0, .int .u64 0], .bool true]) (by simp [results, Tryz.results41, go_sem, Rc0, Rc1, Rc2, Rc3, Rc4]) rfl ⟨rfl, bsc5 BW5 (by omega) _ _ _ _ _⟩

set_option maxHeartbeats 1000000 in
set_option maxRecDepth 100000 in
theorem roup_next (g : Bool) (x0 x1 x2 x3 : Int) (c : Int) (hc : 0 < c) (n0 n1 n2 n3 : Int) (h b : Bool)
    (m1 : ∀ W, Calls Tryz.prog 26 #[.agg #[.bool g, .int .u64 x0, .int .u64 x1, .int .u64 x2, .int .u64 x3]] W fun e w' => e = .returned (.bool true) ∧ Below W.heap.size W w')
    (m2 : ∀ W, Tb W → Calls Tryz.prog 64 #[.agg #[.bool g, .int .u64 x0, .int .u64 x1, .int .u64 x2, .int .u64 x3]] W fun e w' => e = .returned (.bool true) ∧ Below W.heap.size W w')
    (m3 : ∀ W, Calls Tryz.prog 72 #[.agg #[.int .u64 x0, .int .u64 x1, .int .u64 x2, .int .u64 x3], .agg #[.int .u64 9007199254740992, .int .u64 0, .int .u64 0, .int .u64 0]] W fun e w' => e = .returned (.int .i64 c) ∧ Below W.heap.size W w')
    (m4 : ∀ W, Calls Tryz.prog 74 #[.agg #[.bool g, .int .u64 x0, .int .u64 x1, .int .u64 x2, .int .u64 x3]] W fun e w' => e = .returned (.tuple #[.agg #[.bool h, .int .u64 n0, .int .u64 n1, .int .u64 n2, .int .u64 n3], .bool b]) ∧ Below W.heap.size W w') (w : World) (hT : Tb w) :
    Calls Tryz.prog 41 #[.agg #[.bool g, .int .u64 x0, .int .u64 x1, .int .u64 x2, .int .u64 x3]] w fun e w' => e = .returned (.tuple #[.agg #[.bool h, .int .u64 n0, .int .u64 n1, .int .u64 n2, .int .u64 n3], .bool b]) ∧ Below w.heap.size w w' := by
  have M1 := Lib.hid m1; clear m1
  have M2 := Lib.hid m2; clear m2
  have M3 := Lib.hid m3; clear m3
  have M4 := Lib.hid m4; clear m4
  have HT := Lib.hid hT; clear hT
  go_enter Tryz.func41, Tryz.ntmps41
  go_wp2_with fail
  (with_reducible refine (M1.out _).mono ?_)
  rintro e w1 ⟨rfl, hb⟩
  have BW1 : Below w.heap.size w w1 := btr (by repeat (first | (with_reducible exact Below.refl _ _) | (with_reducible refine bal ?_ _) | (with_reducible refine Below.drew ?_) | (with_reducible refine bdn ?_ _))) hb
  have X1 : Row5 w1 w.heap.size (.bool g) (.int .u64 x0) (.int .u64 x1) (.int .u64 x2) (.int .u64 x3) := Row5.keep hb (by repeat (first | (with_reducible exact Row5.new _ _ _ _ _ _) | ((with_reducible refine Row5.new' _ ?_ _ _ _ _ _); (simp; done)) | (with_reducible refine Row5.alloc ?_ _) | (with_reducible refine Row5.drew ?_)))
  have R1 : Row5 w1 (w.heap.size + 1) (.bool false) (.int .u64 0) (.int .u64 0) (.int .u64 0) (.int .u64 0) := Row5.keep hb (by repeat (first | (with_reducible exact Row5.new _ _ _ _ _ _) | ((with_reducible refine Row5.new' _ ?_ _ _ _ _ _); (simp; done)) | (with_reducible refine Row5.alloc ?_ _) | (with_reducible refine Row5.drew ?_)))
  clear hb
  obtain ⟨Xc0, Xc1, Xc2, Xc3, Xc4⟩ := X1.parts
  obtain ⟨Xf0, Xf1, Xf2, Xf3, Xf4⟩ := X1.free
  go_wp2_with fail
  refine (M2.out _ (tb_on HT.out (by repeat (first | (with_reducible exact BW1) | (with_reducible refine bal ?_ _) | (with_reducible refine Below.drew ?_) | (with_reducible refine bdn ?_ _))))).mono ?_
  rintro e w2 ⟨rfl, hb⟩
  have BW2 : Below w.heap.size w w2 := btr (by repeat (first | (with_reducible exact BW1) | (with_reducible refine bal ?_ _) | (with_reducible refine Below.drew ?_) | (with_reducible refine bdn ?_ _))) hb
  have X2 : Row5 w2 w.heap.size (.bool g) (.int .u64 x0) (.int .u64 x1) (.int .u64 x2) (.int .u64 x3) := Row5.keep hb (by repeat (first | (with_reducible exact X1) | (with_reducible refine Row5.alloc ?_ _) | (with_reducible refine Row5.drew ?_)))
  have R2 : Row5 w2 (w.heap.size + 1) (.bool false) (.int .u64 0) (.int .u64 0) (.int .u64 0) (.int .u64 0) := Row5.keep hb (by repeat (first | (with_reducible exact R1) | (with_reducible refine Row5.alloc ?_ _) | (with_reducible refine Row5.drew ?_)))
  clear X1 R1
  clear BW1
  clear hb
  obtain ⟨Xc0, Xc1, Xc2, Xc3, Xc4⟩ := X2.parts
  obtain ⟨Xf0, Xf1, Xf2, Xf3, Xf4⟩ := X2.free
  go_upto_region 5 with (fail)
  go_name_world w3 hw3
  have BW3 : Below w.heap.size w w3 := by rw [← hw3]; repeat (first | (with_reducible exact BW2) | (with_reducible refine bal ?_ _) | (with_reducible refine Below.drew ?_) | (with_reducible refine bdn ?_ _))
  have X3 : Row5 w3 w.heap.size (.bool g) (.int .u64 x0) (.int .u64 x1) (.int .u64 x2) (.int .u64 x3) := by rw [← hw3]; exact (by repeat (first | (with_reducible exact X2) | (with_reducible refine Row5.alloc ?_ _) | (with_reducible refine Row5.drew ?_)))
  have R3 : Row5 w3 (w.heap.size + 1) (.bool false) (.int .u64 0) (.int .u64 0) (.int .u64 0) (.int .u64 0) := by rw [← hw3]; exact (by repeat (first | (with_reducible exact R2) | (with_reducible refine Row5.alloc ?_ _) | (with_reducible refine Row5.drew ?_)))
  clear X2 R2
  clear BW2
  clear hw3
  obtain ⟨qX0, qX1, qX2, qX3, qX4⟩ := X3.parts
  have gX0 := cell_regrown qX0
  have gX1 := cell_regrown qX1
  have gX2 := cell_regrown qX2
  have gX3 := cell_regrown qX3
  have gX4 := cell_regrown qX4
  clear qX0 qX1 qX2 qX3 qX4
  have cq0 := fun (d : Nat) (os : Array Obj) => Calls.regrown_of (w := w3) (d := d) (os := os) ((fun W => (of_any 9007199254740992 W)) _)
  have cq1 := fun (d : Nat) (os : Array Obj) => Calls.regrown_of (w := w3) (d := d) (os := os) (M3.out _)
  refine wp_region_quiet_below (by kernel_rfl) (by kernel_rfl) ?_
  repeat (first | go_big_quiet_step ((first | exact cq0 _ _ | exact cq1 _ _)) | quiet_step (first | exact cq0 _ _ | exact cq1 _ _))
  refine wpQuiet_nil ?_
  intro _ hw'
  obtain ⟨⟨dq, osq⟩, hw''⟩ := hw'
  subst hw''
  clear gX0 gX1 gX2 gX3 gX4 cq0 cq1
  have hb := below_regrown w3 dq osq
  generalize grow (redrawn w3 dq) osq = w4 at *
  have BW4 : Below w.heap.size w w4 := btr BW3 hb
  have X4 : Row5 w4 w.heap.size (.bool g) (.int .u64 x0) (.int .u64 x1) (.int .u64 x2) (.int .u64 x3) := Row5.keep hb X3
  have R4 : Row5 w4 (w.heap.size + 1) (.bool false) (.int .u64 0) (.int .u64 0) (.int .u64 0) (.int .u64 0) := Row5.keep hb R3
  clear X3 R3 BW3 hb
  have hcc : decide (c ≤ 0) = false := by simp; omega
  obtain ⟨Xc0, Xc1, Xc2, Xc3, Xc4⟩ := X4.parts
  obtain ⟨Xf0, Xf1, Xf2, Xf3, Xf4⟩ := X4.free
  go_wp2_with fail
  (with_reducible refine (M4.out _).mono ?_)
  rintro e w5 ⟨rfl, hb⟩
  have BW5 : Below w.heap.size w w5 := btr (by repeat (first | (with_reducible exact BW4) | (with_reducible refine bal ?_ _) | (with_reducible refine Below.drew ?_) | (with_reducible refine bdn ?_ _))) hb
  have X5 : Row5 w5 w.heap.size (.bool g) (.int .u64 x0) (.int .u64 x1) (.int .u64 x2) (.int .u64 x3) := Row5.keep hb (by repeat (first | (with_reducible exact X4) | (with_reducible refine Row5.alloc ?_ _) | (with_reducible refine Row5.drew ?_)))
  have R5 : Row5 w5 (w.heap.size + 1) (.bool false) (.int .u64 0) (.int .u64 0) (.int .u64 0) (.int .u64 0) := Row5.keep hb (by repeat (first | (with_reducible exact R4) | (with_reducible refine Row5.alloc ?_ _) | (with_reducible refine Row5.drew ?_)))
  clear X4 R4
  clear BW4
  clear hb
  obtain ⟨Xc0, Xc1, Xc2, Xc3, Xc4⟩ := X5.parts
  obtain ⟨Xf0, Xf1, Xf2, Xf3, Xf4⟩ := X5.free
  obtain ⟨Rc0, Rc1, Rc2, Rc3, Rc4⟩ := R5.parts
  obtain ⟨Rf0, Rf1, Rf2, Rf3, Rf4⟩ := R5.free
  go_wp2
  exact bodyPost_ret (v := .tuple #[.agg #[.bool h, .int .u64 n0, .int .u64 n1, .int .u64 n2, .int .u64 n3], .bool b]) (by simp [results, Tryz.results41, go_sem, Rc0, Rc1, Rc2, Rc3, Rc4]) rfl ⟨rfl, bsc5 BW5 (by omega) _ _ _ _ _⟩

end Go.Proofs.YtjlgiejggcbgbaaGreatDoor
